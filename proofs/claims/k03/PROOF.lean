import PyProof.Rows.All
import Wide.All
import OpenK.AllK
import Wide.FinOn
import HandS.Base
import HandS.Call
import HandS.List
import HandS.Comp
import HandS.Ends
import HandS.Words
import HandS.WordsList
import HandS.IsInst
import HandS.Codes
import HandS.ForMost
import HandS.ForExc
import HandS.FStr
import HandS.Style
import HandS.Hot
import HandS.HotCalls
import HandS.Lambda
import HandS.ExcIs
import HandS.Rev
import HandS.More
import HandS.StrMore
import PyProof.StrBlock2
import PyProof.FactsAll.list_3
import HandS.TupAny
import HandS.TupMul
import HandS.Defaults
import KE.KRevSl
import KE.KDflt
import KE.GoesMore
import HandS.EndTab
import HandS.EndOwn
import KE.KNestM
import HandS.Nested
import HandS.Style
import HandS.Conv
import HandS.Iter
import PySem.Challenge.RW_uponboth_k03_valid_terms
set_option Elab.async false
set_option linter.all false
set_option maxRecDepth 100000
set_option maxHeartbeats 4000000
namespace U
open PySem L2
/-! ### what stands behind the top: a def by its name; the built-in names -/
structure D (K : PySem.W.Frag) (mg : Str → Option Value) (x : Str) (st : Stmt) (ps : List Str) (f : Addr) (fd : FuncData) : Prop where
  F : Fun K x x st f fd
  b : Binds K fd ps []
  m : mg x = some (.ref f)

/-! ### trees -/
inductive Tree where
  | L
  | N (l r : Tree)
namespace Tree
def sz : Tree → Nat
  | L => 1
  | N l r => sz l + sz r
def dp : Tree → Nat
  | L => 0
  | N l r => max (dp l) (dp r) + 1
def d : Tree → PyData
  | L => .tuple []
  | N l r => .tuple [d l, d r]
theorem sz_pos : ∀ t : Tree, 0 < t.sz
  | L => Nat.zero_lt_one
  | N l r => by
    have h := sz_pos l
    show 0 < l.sz + r.sz
    omega
theorem d_lay : ∀ t : Tree, t.d.canLay0 = true
  | L => rfl
  | N l r => by
    show ((PyData.canLay0 l.d) && ((PyData.canLay0 r.d) && true)) = true
    rw [d_lay l, d_lay r]
    rfl
theorem d_depth : ∀ t : Tree, t.d.depth = t.dp + 1
  | L => rfl
  | N l r => by
    show max l.d.depth (max r.d.depth 0) + 1 = max l.dp r.dp + 1 + 1
    rw [d_depth l, d_depth r]
    omega
theorem shaped {t : Tree} (h : t.dp ≤ 63) : SeqAt.shaped t.d = true := by
  unfold SeqAt.shaped
  rw [d_lay, d_depth, decide_eq_true (by omega)]
  rfl
def isL : Tree → Bool
  | L => true
  | N _ _ => false
theorem eqvL (t : Tree) : PyData.eqv t.d (.tuple []) = t.isL := by cases t <;> rfl
end Tree
abbrev TA (K : PySem.W.Frag) (H : Hp) (v : V) (t : Tree) : Prop := Dp K H v t.d
theorem shapedE : SeqAt.shaped (.tuple []) = true := by decide +kernel

/-! ### heaps: what is a tuple stays one -/
def Tp (H H' : Hp) : Prop := ∀ b xs, Rd H b (.tup xs) → Rd H' b (.tup xs)
theorem Tp.refl (H : Hp) : Tp H H := fun _ _ h => h
theorem Tp.trans {H H1 H2 : Hp} (a : Tp H H1) (b : Tp H1 H2) : Tp H H2 := fun c o h => b c o (a c o h)
theorem Tp.same {H H' : Hp} (e : Same H H') : Tp H H' := fun b xs h => by
  rcases h with h | ⟨o, h⟩
  · exact .inl (e _ _ h)
  · exact .inr ⟨o, e _ _ h⟩
def But (r : Addr) (H H' : Hp) : Prop := ∀ b o, b ≠ r → H b = some o → H' b = some o
theorem But.trans {r : Addr} {H H1 H2 : Hp} (a : But r H H1) (b : But r H1 H2) : But r H H2 := fun c o n h => b c o n (a c o n h)
theorem But.same {r : Addr} {H H' : Hp} (e : Same H H') : But r H H' := fun b o _ h => e b o h
theorem But.set {r : Addr} {H : Hp} {o : HO} : But r H (upd H r o) := fun b z n h => by rw [upd_ne n]; exact h
theorem Tp.but {r : Addr} {H H' : Hp} {ys : List V} (hr : H r = some (.lst ys)) (e : But r H H') : Tp H H' := fun b xs h => by
  rcases h with h | ⟨o, h⟩
  · exact .inl (e _ _ (ne_of h hr (by intro z; cases z)) h)
  · exact .inr ⟨o, e _ _ (ne_of h hr (by intro z; cases z)) h⟩
theorem Same.new {H : Hp} {p : Addr} (h : H p = none) (o : HO) : Same H (upd H p o) := fun b u q => by rw [upd_ne (ne_of_none q h)]; exact q
theorem Tp.sqT {K : PySem.W.Frag} {H H' : Hp} {a : Addr} {xs : List V} (e : Tp H H') (h : SqT K H a xs) : SqT K H' a xs := by
  rcases h with h | h
  · exact .inl (e _ _ h)
  · exact .inr h
theorem SqT.here {K : PySem.W.Frag} {H : Hp} {a : Addr} {xs : List V} (h : H a = some (.tup xs)) : SqT K H a xs := .inl (.inl h)
theorem SqL.here {K : PySem.W.Frag} {H : Hp} {a : Addr} {xs : List V} (h : H a = some (.lst xs)) : SqL K H a xs := .inl (.inl h)

section
variable {K : PySem.W.Frag} {H H' : Hp}
theorem ta_leaf {a : Addr} (h : SqT K H a []) : TA K H (.ref a) .L := Dp.tup h .nil
theorem ta_node {a : Addr} {x y : V} {l r : Tree} (h : SqT K H a [x, y]) (hl : TA K H x l) (hr : TA K H y r) : TA K H (.ref a) (.N l r) := Dp.tup h (.cons hl (.cons hr .nil))
theorem ta_invL {v : V} (h : TA K H v .L) : ∃ a, v = .ref a ∧ SqT K H a [] := by
  cases h with
  | tup hs ha =>
    cases ha
    exact ⟨_, rfl, hs⟩
theorem ta_invN {v : V} {l r : Tree} (h : TA K H v (.N l r)) : ∃ a x y, v = .ref a ∧ SqT K H a [x, y] ∧ TA K H x l ∧ TA K H y r := by
  cases h with
  | tup hs ha =>
    cases ha with
    | cons h1 h2 =>
      cases h2 with
      | cons h3 h4 =>
        cases h4
        exact ⟨_, _, _, rfl, hs, h1, h3⟩
theorem ta_inv : ∀ {v : V} {t : Tree}, TA K H v t → ∃ a xs, v = .ref a ∧ SqT K H a xs
  | _, .L, h => by
    obtain ⟨a, e, q⟩ := ta_invL h
    exact ⟨a, _, e, q⟩
  | _, .N _ _, h => by
    obtain ⟨a, x, y, e, q, _⟩ := ta_invN h
    exact ⟨a, _, e, q⟩
theorem ta_mono (e : Tp H H') : ∀ {t : Tree} {v : V}, TA K H v t → TA K H' v t
  | .L, v, h => by
    obtain ⟨a, rfl, q⟩ := ta_invL h
    exact ta_leaf (e.sqT q)
  | .N l r, v, h => by
    obtain ⟨a, x, y, rfl, q, h1, h2⟩ := ta_invN h
    exact ta_node (e.sqT q) (ta_mono e h1) (ta_mono e h2)
mutual
theorem dp_same (e : Same H H') : ∀ (d : PyData) {v : V}, Dp K H v d → Dp K H' v d
  | .none, _, h => by
    cases h
    exact .non
  | .bool b, _, h => by
    cases h
    exact .bl b
  | .int i, _, h => by
    cases h
    exact .int i
  | .str x, _, h => by
    cases h
    exact .str x
  | .list ds, _, h => by
    cases h with
    | lst hs ha => exact .lst (e.seq hs) (dp_sameAll e ds ha)
  | .tuple ds, _, h => by
    cases h with
    | tup hs ha => exact .tup ((Tp.same e).sqT hs) (dp_sameAll e ds ha)
  | .dict _, _, h => by cases h
theorem dp_sameAll (e : Same H H') : ∀ (ds : List PyData) {vs : List V}, DpAll K H vs ds → DpAll K H' vs ds
  | [], _, h => by
    cases h
    exact .nil
  | d :: ds, _, h => by
    cases h with
    | cons h1 h2 => exact .cons (dp_same e d h1) (dp_sameAll e ds h2)
end
end
theorem one_le : 1 ≤ sizeLine := by decide
theorem two_le : 2 ≤ sizeLine := by decide
theorem zero_le' : 0 ≤ sizeLine := by decide
theorem four_le : 4 ≤ sizeLine := by decide
theorem ite_eq {b c : Bool} {A B : Prop} (e : b = c) (h : if c = true then A else B) : if b = true then A else B := e ▸ h
theorem ite_yes {b : Bool} {A B : Prop} (e : b = true) (h : A) : if b = true then A else B := by rw [if_pos e]; exact h
theorem ite_no {b : Bool} {A B : Prop} (e : b = false) (h : B) : if b = true then A else B := by rw [e]; exact iteF h
theorem tyx_tup {K : PySem.W.Frag} {H : Hp} {a : Addr} {xs : List V} (h : SqT K H a xs) : TyX K H (.ref a) (.type "tuple") := by
  rcases h with (h | ⟨o, h⟩) | ⟨o, its, n, h, c, _⟩
  · exact .base (.tup h)
  · exact .fTuple h
  · exact .kTuple h c
theorem tyx_lst {K : PySem.W.Frag} {H : Hp} {a : Addr} {xs : List V} (h : SqL K H a xs) : TyX K H (.ref a) (.type "list") := by
  rcases h with (h | ⟨o, h⟩) | ⟨o, its, n, h, c, _⟩
  · exact .base (.lst h)
  · exact .base (.frz h)
  · exact .kList h c
def Tree.nodes : Tree → Nat
  | .L => 1
  | .N l r => l.nodes + r.nodes + 1
/-! ### enumerate(a text): each sign in a new pair -/
def ItES (z : Str) : It :=
  ⟨fun j _ => j < z.cps.size, fun j G v G' => ∃ q c, v = .ref q ∧ G q = none ∧ G' = upd G q (.tup [.int (j : Nat), .str ⟨#[c]⟩]) ∧ z.cps[j]? = some c, fun j _ => z.cps.size ≤ j⟩
theorem draws_text {Pr : Program} {wo : World} {Ar : Around} (calm : Ar.handled = none) (it : Addr) (z : Str) (tk : Tok) :
    PySem.Draws Pr wo Ar it [it] z.cps.size (fun j v => ∃ c u, z.cps[j]? = some c ∧ v = .str ⟨#[c]⟩ u) (fun j g => g.IsStrIter it (PySem.strIterType z) z tk j) := by
  unfold PySem.strIterType
  cases z.cps.all (· < 128)
  · exact PySem.Draws.strWide calm it z tk
  · exact PySem.Draws.strAscii calm it z tk
theorem turn_ES {Pr : Program} {wo : World} {Kf : PySem.W.Frag} {ts : List Expr} {nn : Nat} {tp : Pos} (en it : Addr) (z : Str) (tk : Tok) :
    Turn Pr wo Kf (.Tuple ts nn tp) (ItES z) [en, it] en (fun j g => (∃ old, PySem.IsEnum g en it ((j : Nat) : Int) old) ∧ g.IsStrIter it (PySem.strIterType z) z tk j ∧ en ≠ it ∧ j ≤ z.cps.size) where
  mem := List.mem_cons_self
  obj := fun j g st b hb => by
    obtain ⟨⟨old, h1⟩, ⟨ob, h2, h3, h4⟩, _⟩ := st
    rcases List.mem_cons.mp hb with rfl | hb
    · exact ⟨_, h1, fun v q => nomatch q⟩
    · cases List.mem_singleton.mp hb
      refine ⟨ob, h2, fun v q => ?_⟩
      rw [h4] at q
      cases q
  keep := fun j g g' st kk => by
    obtain ⟨⟨old, h1⟩, ⟨ob, h2, h3⟩, h5⟩ := st
    exact ⟨⟨old, kk en List.mem_cons_self _ h1⟩, ⟨ob, kk it (List.mem_cons_of_mem _ List.mem_cons_self) _ h2, h3⟩, h5⟩
  item := by
    intro X e1 e2 e3 calm j pins s σ G Ex inv fp st lt
    cases e1
    cases e2
    cases e3
    obtain ⟨⟨old, h1⟩, h2, ne, le⟩ := st
    have l1 : en < s.heap.objs.size := Heap.lt_size h1
    have l2 : it < s.heap.objs.size := by
      obtain ⟨_, y, _⟩ := h2
      exact Heap.lt_size y
    refine PySem.wpAny_pyNext_enum_itemD (draws_text (show X.A.in1.handled = none from inv.ok.hd calm) it z tk) h1 h2 lt ne (fun y => ne (List.mem_singleton.mp y)) fun u g' t2 hu out h2' hT sz kp => ?_
    obtain ⟨c, u', hc, rfl⟩ := hu
    refine ⟨_, rfl, PySem.wpAny_letOwnedTupleGo_enum (s := { s with heap := g', toks := t2 + 1 }) out fun g'' h1' sb => ?_⟩
    have hT' : g''.get? s.heap.objs.size = some { cls := .type "tuple", data := .seq #[.int j t2, .str ⟨#[c]⟩ u'] } := (sb.2 _ (Nat.ne_of_gt l1)).trans hT
    have made : ObjOk X.prog X.w (upd G s.heap.objs.size (.tup [.int (j : Nat), .str ⟨#[c]⟩])) g'' s.heap.objs.size (.tup [.int (j : Nat), .str ⟨#[c]⟩]) :=
      ⟨two_le, [.int j t2, .str ⟨#[c]⟩ u'], .cons ⟨_, rfl⟩ (.cons ⟨_, rfl⟩ .nil), ⟨_, hT', rfl, _, rfl⟩⟩
    have inv' : Inv X pins σ (upd G s.heap.objs.size (.tup [.int (j : Nat), .str ⟨#[c]⟩])) { s with heap := g'', toks := t2 + 1 } := by
      refine Inv.turnedNew (ch := [en, it]) inv (fun b ob nb y => ?_) fp (Nat.le_refl _) made
      have n1 : b ≠ en := fun y => nb (by rw [y]; exact List.mem_cons_self)
      have n2 : b ≠ it := fun y => nb (by rw [y]; exact List.mem_cons_of_mem _ List.mem_cons_self)
      exact (sb.2 b n1).trans (kp b ob n1 n2 y)
    refine ⟨.ref s.heap.objs.size, _, inv', rfl, ⟨_, c, rfl, inv.hok.fresh (Nat.le_refl _), rfl, hc⟩, ⟨⟨.str ⟨#[c]⟩ u', ?_⟩, ?_, ne, lt⟩, fun b hb => ?_⟩
    · rw [show (((j + 1 : Nat) : Nat) : Int) = (j : Int) + 1 by omega]
      exact h1'
    · obtain ⟨ob, y1, y2⟩ := h2'
      exact ⟨ob, (sb.2 it (Ne.symm ne)).trans y1, y2⟩
    · have lb : b < s.heap.objs.size := by
        rcases List.mem_cons.mp hb with rfl | hb
        · exact l1
        · cases List.mem_singleton.mp hb
          exact l2
      rw [upd_ne (Nat.ne_of_lt lb)]
      exact (fp b hb).1
  done := by
    intro X e1 e2 e3 calm j pins s σ G Ex inv fp st ge
    cases e1
    cases e2
    cases e3
    obtain ⟨⟨old, h1⟩, h2, ne, le⟩ := st
    have ej : j = z.cps.size := Nat.le_antisymm le ge
    subst ej
    obtain ⟨f0, f1, f2, f3, f4, f5⟩ := fp it (List.mem_cons_of_mem _ List.mem_cons_self)
    exact PySem.wpAny_pyNext_enum_endD (draws_text (show X.A.in1.handled = none from inv.ok.hd calm) it z tk) h1 h2 fun g' eb => ⟨rfl, inv.turned (t' := s.toks) (fun b o nb y => eb b o nb y) f0 f1 f3 f4 f5⟩
  self := fun Ar j s Q Ex st y => by
    obtain ⟨⟨_, h1⟩, _⟩ := st
    exact PySem.wpAny_pyIter_enum h1 y
def iES (ta : L2.TA) : TI := fun σ G R => ta σ G fun vs G1 => ∃ z : Str, vs = [.str z] ∧ R (ItES z) G1
theorem pi_ES {X : Cx} {ex : Expr} {ta : L2.TA} {p pos tp : Pos} {ts : List Expr} {nn : Nat} (gl : Gl X "enumerate") (mm : X.mg "enumerate" = none) (ha : PA X [ex] ta) (hs : starEach [ex] X.env = [(false, eval ex X.env)] := by rfl) :
    PI X (.Tuple ts nn tp) (.Call (.Name "enumerate" p) [ex] [] pos) (iES ta) := by
  refine ⟨fun pins s σ G R inv y => ?_⟩
  refine PyProof.Rows.Call_ (ld_blt inv gl mm PyProof.Rows.boot_enumerate (PyProof.Rows.callWith_type1 (thn (ha.run pos pins s σ G _ inv y) fun us s1 ⟨vs, G1, inv1, r1, q1⟩ => ?_) hs rfl))
  obtain ⟨z, rfl, q⟩ := q1
  cases r1 with
  | cons r rr =>
    cases rr
    obtain ⟨tk, rfl⟩ := r
    refine PySem.call_enumerate_str fun g' h1 h2 sz kp => PySem.wpAny_pyIter_enum h1 ?_
    refine ⟨s1.heap.objs.size + 1, [s1.heap.objs.size + 1, s1.heap.objs.size], _, _, G1, rfl, inv1.kept (t' := s1.toks) kp, turn_ES (s1.heap.objs.size + 1) s1.heap.objs.size z tk, ⟨⟨.none, h1⟩, h2, Nat.succ_ne_self _, Nat.zero_le _⟩, fun b hb => ?_, q⟩
    have ge : s1.heap.objs.size ≤ b := by
      rcases List.mem_cons.mp hb with rfl | hb
      · exact Nat.le_succ _
      · cases List.mem_singleton.mp hb
        exact Nat.le_refl _
    exact inv1.fpOk ge (inv1.hok.fresh ge)
theorem for_ES {z : Str} {g : TG} {tb : TS} {D : Ends} {σ : L2.St} {G : Hp} (Pv : Nat → L2.St → Hp → Prop) (h0 : Pv 0 σ G)
    (hs : ∀ j c σ G, z.cps[j]? = some c → Pv j σ G → ∀ q, G q = none → g (.ref q) σ (upd G q (.tup [.int (j : Nat), .str ⟨#[c]⟩])) fun σ2 G2 => tb { D with nx := Pv (j + 1), ct := Pv (j + 1), bk := D.nx } σ2 G2) (hd : ∀ σ G, Pv z.cps.size σ G → D.nx σ G) :
    ∃ Wd : Nat → Nat → L2.St → Hp → Prop, (∃ m, Wd 0 m σ G) ∧ ∀ j m σ G, Wd j m σ G →
      ((ItES z).stop j G ∧ D.nx σ G) ∨ ((ItES z).go j G ∧ ∃ Nn : L2.St → Hp → Prop, (∀ σ' G', Nn σ' G' → ∃ m', m' < m ∧ Wd (j + 1) m' σ' G') ∧ ∀ v G', (ItES z).yld j G v G' → g v σ G' fun σ2 G2 => tb { D with nx := Nn, ct := Nn, bk := D.nx } σ2 G2) := by
  refine ⟨fun j m σ G => m = z.cps.size - j ∧ j ≤ z.cps.size ∧ Pv j σ G, ⟨_, rfl, Nat.zero_le _, h0⟩, ?_⟩
  rintro j m σ G ⟨rfl, le, pv⟩
  rcases Nat.lt_or_ge j z.cps.size with lt | ge
  · refine .inr ⟨lt, Pv (j + 1), fun σ' G' y => ⟨z.cps.size - (j + 1), by omega, rfl, lt, y⟩, fun v G' y => ?_⟩
    obtain ⟨q, c, rfl, nq, rfl, hc⟩ := y
    exact hs j c σ G hc pv q nq
  · have ej : j = z.cps.size := Nat.le_antisymm le ge
    subst ej
    exact .inl ⟨Nat.le_refl _, hd σ G pv⟩
/-! ### raising while an exception is handled that has a context itself (raise .. from None keeps it) -/
namespace HotY
open PySem.Spec PyProof.Rows
theorem bne_ref {a b : Addr} (h : a ≠ b) : ¬ ((Value.ref a == Value.ref b) = true) := fun z => h (by simpa using z)
/-- what a context may be: None, or an exception that p tells of and whose own is None -/
def Ctx2 (p : Addr → Obj → Prop) (c : Option Value) : Prop := c = some .none ∨ ∃ (y : Addr) (oy : Obj) (vy : Array Value), c = some (.ref y) ∧ p y oy ∧ oy.data = .fields vy ∧ vy[2]? = some .none
theorem Ctx2.imp {p q : Addr → Obj → Prop} {c : Option Value} (h : Ctx2 p c) (k : ∀ y oy, p y oy → (∃ vy : Array Value, oy.data = .fields vy) → q y oy) : Ctx2 q c :=
  Or.imp id (fun ⟨y, oy, vy, e, hp, d, n⟩ => ⟨y, oy, vy, e, k y oy hp ⟨vy, d⟩, d, n⟩) h
def HotAt (A : Around) (x1 : Addr) (h : Heap) : Prop := A.handled = some (.ref x1) ∧ ∃ (o : Obj) (vs : Array Value), h.get? x1 = some o ∧ o.data = .fields vs ∧ Ctx2 (fun y oy => h.get? y = some oy) vs[2]?
section
variable {prog : Program} {w : World} {A : Around} {E : Value → Shared → Prop} {s : Shared}
theorem unchained2 {x1 y a : Addr} {o1 oy : Obj} {vs1 vy : Array Value} {Q : Value → Shared → Prop} (h1 : s.heap.get? x1 = some o1) (d1 : o1.data = .fields vs1) (c1 : vs1[2]? = some (.ref y)) (hy : s.heap.get? y = some oy) (dy : oy.data = .fields vy) (cy : vy[2]? = some .none) (ya : y ≠ a) (yx : y ≠ x1) (q : Q .none s) :
    wpAny (model prog w) A (holding [Value.ref a] (runValue (.builtin "proto.unchain" ⟨[.ref a, .ref x1, .ref x1, .bool false], []⟩))) Q E s := by
  refine wpAny_holding (wpAny_runValue (codeAny_builtin HotX.entry_unchain ?_))
  show wpAny _ _ (field (.ref x1) 2 >>= _) _ _ s
  refine wpAny_bind (wpAny_field h1 d1 c1 ?_)
  rw [if_neg (show ¬ ((Value.ref y == Value.none) = true) from Bool.false_ne_true), if_neg (bne_ref ya), if_neg (bne_ref yx)]
  dsimp only
  rw [if_neg Bool.false_ne_true]
  refine wpAny_bind (wpAny_pure ?_)
  refine wpAny_pure ⟨by first | rfl | kernel_rfl | decide +kernel, codeAny_builtin HotX.entry_unchain ?_⟩
  show wpAny _ _ (field (.ref y) 2 >>= _) _ _ s
  refine wpAny_bind (wpAny_field hy dy cy ?_)
  rw [if_pos (show (Value.none == Value.none) = true from rfl)]
  first
  | exact wpAny_bind (wpAny_pure (wpAny_pure q))
  | exact wpAny_pure q
/-- the new one is not in the chain: it stands above what stood -/
theorem raiseNew_hot {α : Type} {a x1 : Addr} {old : Heap} {oe : Obj} {vs : Array Value} {Q : α → Shared → Prop} (hot : HotAt A x1 old) (up : ∀ b o, old.get? b = some o → s.heap.get? b = some o) (fr : old.get? a = none) (ha : s.heap.get? a = some oe) (da : oe.data = .fields vs) (hi : 2 < vs.size)
    (hE : E (.ref a) { s with heap := s.heap.update a (Obj.mapFields (·.setIfInBounds 2 (.ref x1))) }) : wpAny (model prog w) A (raiseNew (.ref a) : Sem α) Q E s := by
  obtain ⟨hh, o1, vs1, h1, d1, c1⟩ := hot
  have nx : x1 ≠ a := fun z => by rw [← z, h1] at fr; cases fr
  rcases c1 with c1 | ⟨y, oy, vy, c1, hy, dy, cy⟩
  · exact HotX.raiseNew_hot ⟨hh, o1, vs1, up _ _ h1, d1, c1⟩ nx ha da hi hE
  · have ny : y ≠ a := fun z => by rw [← z, hy] at fr; cases fr
    have yx : y ≠ x1 := fun z => by
      rw [z, h1] at hy
      cases hy
      rw [d1] at dy
      cases dy
      rw [c1] at cy
      cases cy
    unfold raiseNew
    refine wpAny_bind (wpAny_handled ?_)
    rw [hh]
    have hb : (Value.ref x1 != Value.ref a) = true := HotX.ref_bne nx
    first
    | (show wpAny _ _ (if (Value.ref x1 != Value.ref a) = true then _ else _) _ _ _
       rw [if_pos hb]
       first
       | exact wpAny_bind (unchained2 (up _ _ h1) d1 c1 (up _ _ hy) dy cy ny yx (wpAny_bind (HotX.chained ha da hi (wpAny_throw hE))))
       | exact wpAny_bind (wpAny_bind (unchained2 (up _ _ h1) d1 c1 (up _ _ hy) dy cy ny yx (HotX.chained ha da hi (wpAny_throw hE)))))
    | (refine wpAny_bind ?_
       show wpAny _ _ (if (Value.ref x1 != Value.ref a) = true then _ else _) _ _ _
       rw [if_pos hb]
       exact wpAny_bind (unchained2 (up _ _ h1) d1 c1 (up _ _ hy) dy cy ny yx (HotX.chained ha da hi (wpAny_throw hE))))
end
end HotY
/-! ### iterators at their end while an exception is handled -/
section
variable {Pr : Program} {wo : World} {Ar : Around} {Ex : Value → Shared → Prop} {st : Shared}
open HotY
/-- a StopIteration, made and raised there: all that stood stands -/
theorem stop_hot {α : Type} {xh : Addr} {Qa : α → Shared → Prop} (hot : HotAt Ar xh st.heap) (k : ∀ g (a : Addr), (∀ b o, st.heap.get? b = some o → g.get? b = some o) → (∃ o, g.get? a = some o ∧ o.cls = .type "StopIteration") → Ex (.ref a) { st with heap := g }) :
    wpAny (model Pr wo) Ar (newExc (.type "StopIteration") [] >>= fun e => (raiseNew e : Sem α)) Qa Ex st := by
  have fr : st.heap.get? (st.heap.objs.size + 1) = Option.none := by
    cases q : st.heap.get? (st.heap.objs.size + 1) with
    | none => rfl
    | some o =>
      have z : st.heap.objs.size + 1 < st.heap.objs.size := Heap.lt_size q
      exact absurd z (by omega)
  simp only [newExc, newTuple]
  refine wpAny_bind (wpAny_bind (wpAny_newObj_type (wpAny_bind (m := firstArgMember _ _) (wpAny_of_eq (a := Value.none) (by first | rfl | (simp only [firstArgMember]; rfl)) (wpAny_newObj_type ?_ (by size_fits)))) (by size_fits)))
  refine raiseNew_hot (x1 := xh) hot (fun b o y => Heap.get?_push_of_some _ (Heap.get?_push_of_some _ y)) (by rw [Heap.size_push]; exact fr) (Heap.get?_push_size _ rfl) rfl (by first | (simp; done) | (simp; omega)) ?_
  refine k _ _ (fun b o y => ?_) ⟨_, Heap.get?_update_self _ (Heap.get?_push_size _ rfl) rfl, rfl⟩
  rw [Heap.get?_update_other _ _ (Nat.ne_of_gt (Heap.lt_size (Heap.get?_push_of_some _ y)))]
  exact Heap.get?_push_of_some _ (Heap.get?_push_of_some _ y)
theorem list_end_hot {ite lis xh : Addr} {j : Nat} {its : Array Value} {Qn : Option Value → Shared → Prop} (hot : HotAt Ar xh st.heap) (nxi : xh ≠ ite) (hi : st.heap.IsListIter ite lis j) (hL : st.heap.IsList lis its) (out : its[j]? = none)
    (k : ∀ g, Heap.ExtBut ite st.heap g → Qn none { st with heap := g }) : wpAny (model Pr wo) Ar (pyNext (.ref ite)) Qn Ex st := by
  obtain ⟨oi, h1, h2, h3⟩ := id hi
  obtain ⟨ol, h4, _, nl, h5⟩ := hL
  obtain ⟨hh, oe, ve, e1, e2, e3⟩ := hot
  unfold pyNext
  refine wpAny_bind (wpAny_attempt (wpAny_callSpecial?_slot (name := Str.ofString "__next__") hi.typeIs PySem.slot_listiter_next (wpAny_call_entry PySem.slot_listiter_next hi.typeIs PySem.entry_listiter_next ?_ (PySem.args_listiter_next _))))
  show wpAny _ _ (field (.ref ite) 0 >>= _) _ _ st
  refine wpAny_bind (wpAny_field h1 h3 (x := .ref lis) rfl ?_)
  show wpAny _ _ (if (Value.ref lis == Value.none) = true then _ else _) _ _ st
  rw [if_neg (show ¬ ((Value.ref lis == Value.none) = true) from Bool.false_ne_true)]
  show wpAny _ _ (field (.ref ite) 1 >>= _) _ _ st
  refine wpAny_bind (wpAny_field h1 h3 (x := .int j 0) rfl ?_)
  show wpAny _ _ (seqItems? (.ref lis) >>= _) _ _ st
  refine wpAny_bind (wpAny_seqItems h4 h5 ?_)
  simp only [Int.toNat_natCast, out]
  refine wpAny_bind (wpAny_rule (wpAny_bind (wpAny_setField h1 h3 (by simp) ?_)))
  have hot' : HotAt Ar.in1 xh (st.heap.update ite (Obj.mapFields (·.setIfInBounds 0 Value.none))) := ⟨hh, oe, ve, by rw [Heap.get?_update_other _ _ nxi.symm]; exact e1, e2, e3.elim .inl fun ⟨y, oy, vy, y1, y2, y3, y4⟩ => .inr ⟨y, oy, vy, y1, by
    have ny : ite ≠ y := fun z => by
      rw [← z, h1] at y2
      cases y2
      rw [h3] at y3
      cases y3
      cases y4
    show (st.heap.update ite (Obj.mapFields (·.setIfInBounds 0 Value.none))).get? y = some oy
    rw [Heap.get?_update_other _ _ ny]
    exact y2, y3, y4⟩⟩
  refine stop_hot hot' fun g a kp ha => ?_
  obtain ⟨oa, y1, y2⟩ := ha
  refine wpAny_bind (wpAny_isInstance (T := "StopIteration") (b := true) ⟨oa, y1, y2⟩ PySem.isSubtype_stop (wpAny_pure (k _ fun b o nb y => kp b o ?_)))
  rw [Heap.get?_update_other _ _ (Ne.symm nb)]
  exact y
theorem tuple_end_hot {ite tup xh : Addr} {j : Nat} {its : Array Value} {Qn : Option Value → Shared → Prop} (hot : HotAt Ar xh st.heap) (nxi : xh ≠ ite) (hi : PyProof.Rows.IsTupIter st.heap ite tup j) (hT : PyProof.Rows.IsTup st.heap tup its) (out : its[j]? = none)
    (k : ∀ g, Heap.ExtBut ite st.heap g → Qn none { st with heap := g }) : wpAny (model Pr wo) Ar (pyNext (.ref ite)) Qn Ex st := by
  obtain ⟨oi, h1, h2, h3⟩ := id hi
  obtain ⟨ol, h4, _, nl, h5⟩ := hT
  obtain ⟨hh, oe, ve, e1, e2, e3⟩ := hot
  unfold pyNext
  refine wpAny_bind (wpAny_attempt (wpAny_callSpecial?_slot (name := Str.ofString "__next__") hi.typeIs PySem.F.slot_tuple_iterator_next (wpAny_call_entry PySem.F.slot_tuple_iterator_next hi.typeIs PySem.F.entry_tuple_iterator_next ?_ (PySem.F.args_tuple_iterator_next_1 _))))
  show wpAny _ _ (field (.ref ite) 0 >>= _) _ _ st
  refine wpAny_bind (wpAny_field h1 h3 (x := .ref tup) rfl ?_)
  show wpAny _ _ (if (Value.ref tup == Value.none) = true then _ else _) _ _ st
  rw [if_neg (show ¬ ((Value.ref tup == Value.none) = true) from Bool.false_ne_true)]
  show wpAny _ _ (field (.ref ite) 1 >>= _) _ _ st
  refine wpAny_bind (wpAny_field h1 h3 (x := .int j 0) rfl ?_)
  show wpAny _ _ (seqItems? (.ref tup) >>= _) _ _ st
  refine wpAny_bind (wpAny_seqItems h4 h5 ?_)
  simp only [Int.toNat_natCast, out]
  refine wpAny_bind (wpAny_rule (wpAny_bind (wpAny_setField h1 h3 (by simp) ?_)))
  have hot' : HotAt Ar.in1 xh (st.heap.update ite (Obj.mapFields (·.setIfInBounds 0 Value.none))) := ⟨hh, oe, ve, by rw [Heap.get?_update_other _ _ nxi.symm]; exact e1, e2, e3.elim .inl fun ⟨y, oy, vy, y1, y2, y3, y4⟩ => .inr ⟨y, oy, vy, y1, by
    have ny : ite ≠ y := fun z => by
      rw [← z, h1] at y2
      cases y2
      rw [h3] at y3
      cases y3
      cases y4
    show (st.heap.update ite (Obj.mapFields (·.setIfInBounds 0 Value.none))).get? y = some oy
    rw [Heap.get?_update_other _ _ ny]
    exact y2, y3, y4⟩⟩
  refine stop_hot hot' fun g a kp ha => ?_
  obtain ⟨oa, y1, y2⟩ := ha
  refine wpAny_bind (wpAny_isInstance (T := "StopIteration") (b := true) ⟨oa, y1, y2⟩ PySem.isSubtype_stop (wpAny_pure (k _ fun b o nb y => kp b o ?_)))
  rw [Heap.get?_update_other _ _ (Ne.symm nb)]
  exact y
/-- a, b = a tuple, there -/
theorem unpack_hot {tup xh : Addr} {its : Array Value} {Ql : List Value → Shared → Prop} (hot : HotAt Ar xh st.heap) (hT : PyProof.Rows.IsTup st.heap tup its)
    (k : ∀ g, Heap.ExtBut st.heap.objs.size st.heap g → Ql its.toList { st with heap := g }) : wpAny (model Pr wo) Ar (unpackItems (.ref tup) its.size none) Ql Ex st := by
  have nt : tup ≠ st.heap.objs.size := by
    obtain ⟨o, y, _⟩ := hT
    exact Nat.ne_of_lt (Heap.lt_size y)
  obtain ⟨hh, oe, ve, e1, e2, e3⟩ := hot
  have nx : xh ≠ st.heap.objs.size := Nat.ne_of_lt (Heap.lt_size e1)
  unfold unpackItems
  refine wpAny_bind ?_
  unfold notIterableAtAll
  refine wpAny_bind (wpAny_specialOf hT.typeIs PyProof.Rows.slot_tuple_iter.lookup (wpAny_pure ?_))
  simp only [Bool.false_eq_true, if_false]
  refine wpAny_bind (wpAny_holding (PyProof.Rows.iter_tuple hT (wpAny_bind (wpAny_holding (PyProof.Rows.draw_tuple nt its.size 0 _ _ ⟨_, Heap.get?_push_size _ rfl, rfl, rfl⟩ (hT.push _) (by omega) fun g1 hi1 sb1 => ?_)))))
  rw [show List.take its.size (List.drop 0 its.toList) = its.toList by rw [List.drop_zero]; exact List.take_of_length_le (by simp), if_neg (by simp)]
  have hT1 : PyProof.Rows.IsTup g1 tup its := (hT.push _).extBut sb1.extBut nt
  have hot1 : HotAt Ar xh g1 := ⟨hh, oe, ve, sb1.extBut _ _ nx (Heap.get?_push_of_some _ e1), e2, e3.imp fun y oy y2 _ => sb1.extBut _ _ (Nat.ne_of_lt (Heap.lt_size y2)) (Heap.get?_push_of_some _ y2)⟩
  refine wpAny_bind (wpAny_holding (tuple_end_hot (st := { st with heap := g1 }) hot1 nx hi1 hT1 (by simp) fun g2 eb2 => ?_))
  simp only [Option.isSome_none, Bool.false_eq_true, if_false]
  exact wpAny_pure (k g2 fun b o nb y => eb2 b o nb (sb1.extBut b o nb (Heap.get?_push_of_some _ y)))
end
/-! ### a context in which an exception is handled that stood when it began -/
structure HotB (X : Cx) (xh : Addr) (oh : Obj) : Prop where
  hnd : X.A.handled = some (.ref xh)
  obj : X.s_0.heap.get? xh = some oh
  dat : ∃ vs : Array Value, oh.data = .fields vs ∧ HotY.Ctx2 (fun y oy => X.s_0.heap.get? y = some oy ∧ X.H_0 y = Option.none ∧ y ∉ X.fs ∧ y ∉ X.ex) vs[2]?
  unt : X.H_0 xh = none
  nfs : xh ∉ X.fs
  nex : xh ∉ X.ex
section
variable {X : Cx} {pins : List (Addr × Obj)} {σ : L2.St} {H : Hp} {s : Shared} {xh : Addr} {oh : Obj}
theorem HotB.get (h : HotB X xh oh) (I : Inv X pins σ H s) : s.heap.get? xh = some oh := I.base.keep xh oh h.obj h.unt h.nfs h.nex
theorem HotB.hot (h : HotB X xh oh) (I : Inv X pins σ H s) : HotY.HotAt X.A xh s.heap := by
  obtain ⟨vs, d1, d2⟩ := h.dat
  exact ⟨h.hnd, oh, vs, h.get I, d1, d2.imp fun y oy k _ => I.base.keep y oy k.1 k.2.1 k.2.2.1 k.2.2.2⟩
theorem HotB.none (h : HotB X xh oh) (I : Inv X pins σ H s) : H xh = Option.none := I.base.free xh oh h.obj h.unt h.nex
theorem HotB.nloc (h : HotB X xh oh) (I : Inv X pins σ H s) : xh ≠ X.env.locals := fun z => by
  obtain ⟨m, ⟨o, es, ep, e1, e2, _⟩, _⟩ := I.loc
  obtain ⟨vs, d1, _⟩ := h.dat
  have g := h.get I
  rw [z, e1] at g
  cases g
  rw [d1] at e2
  cases e2
theorem nloc_of {y : Addr} {oy : Obj} (I : Inv X pins σ H s) (g : s.heap.get? y = some oy) (hd : ∃ vy : Array Value, oy.data = .fields vy) : y ≠ X.env.locals := fun z => by
  obtain ⟨m, ⟨o, es, ep, e1, e2, _⟩, _⟩ := I.loc
  obtain ⟨vs, d1⟩ := hd
  rw [z, e1] at g
  cases g
  rw [d1] at e2
  cases e2
theorem big_of {p : Addr → Obj → Prop} {vs : Array Value} (c : HotY.Ctx2 p vs[2]?) : 2 < vs.size := by
  rcases c with c | ⟨y, oy, vy, c, _⟩
  · exact (Array.getElem?_eq_some_iff.mp c).1
  · exact (Array.getElem?_eq_some_iff.mp c).1
theorem HotB.blk (h : HotB X xh oh) (I : Inv X pins σ H s) (scope : Scope) (ce : Env) {fp : List Addr} (hf : ∀ (b : Addr) (o : Obj) (vs : Array Value), s.heap.get? b = some o → o.data = .fields vs → 2 < vs.size → b ∉ fp) : HotB (X.blk s H scope ce fp) xh oh := by
  obtain ⟨vs, d1, d2⟩ := h.dat
  refine ⟨h.hnd, h.get I, ⟨vs, d1, ?_⟩, h.none I, fun z => (List.mem_cons.mp (I.stkSub xh z)).elim (h.nloc I) h.nfs, hf xh oh vs (h.get I) d1 (big_of d2)⟩
  rcases d2 with d2 | ⟨y, oy, vy, c, ⟨k1, k2, k3, k4⟩, dy, cy⟩
  · exact .inl d2
  · have gy := I.base.keep y oy k1 k2 k3 k4
    exact .inr ⟨y, oy, vy, c, ⟨gy, I.base.free y oy k1 k2 k4, fun z => (List.mem_cons.mp (I.stkSub y z)).elim (nloc_of I gy ⟨vy, dy⟩) k3, hf y oy vy gy dy (Array.getElem?_eq_some_iff.mp cy).1⟩, dy, cy⟩
/-- (a, b) = a tuple, there -/
theorem pg_tupB {es : List Expr} {k : Nat} {t : TGs} {n : Nat} {pos : Pos} (hb : HotB X xh oh) (h : PGs X es t)
    (hn : (assignEach es X.env).length = n := by rfl) (hst : (assignEach es X.env).findIdx? (·.1) = Option.none := by rfl) : PG X (.Tuple es k pos) (gTup X.K n t) := by
  refine ⟨fun pins s σ H v u Q I r y => ?_⟩
  obtain ⟨a, xs, rfl, hq, hl, y⟩ := y
  cases r
  obtain ⟨its, rv, hT, hz⟩ := I.tuple hq
  have e1 : (assignEach es X.env).length = its.toArray.size := by
    rw [List.size_toArray, hn, ← hl, rv.length]
  rw [PyProof.Rows.assign_Tuple]
  refine wpAny_bind (wpAny_standAt ?_)
  unfold unpack
  rw [e1, hst]
  refine wpAny_bind (wpAny_holding (unpack_hot (hb.hot I) hT fun g eb => ?_))
  have I1 : Inv X pins σ H { s with heap := g } := I.kept (t' := s.toks) fun b o e => eb b o (Nat.ne_of_lt (Heap.lt_size e)) e
  exact h.run pins _ σ H xs _ Q I1 (by simpa using rv) y
/-- [elt for tg in a list if ..], there -/
def tLcB (K : PySem.W.Frag) (tl : TE) (g : TG) (tt : TT) (te : TE) (vs : List Nat) : TE := fun σ H Q => tl σ H fun x H1 => ∃ a xs, x = .ref a ∧ SqL K H1 a xs ∧ ∀ D, H1 D = Option.none → ∃ Pv : Nat → Hp → Prop, Pv 0 (upd H1 D (.lst [])) ∧ (∀ i G, i ≤ xs.length → Pv i G → SqL K G a xs) ∧
  (∀ i v G, xs[i]? = some v → Pv i G → g v (wipe σ vs) G fun σ2 G2 => wipe σ2 vs = wipe σ vs ∧ tt σ2 G2 fun b G3 => if b = true then te σ2 G3 fun y G4 => ∃ acc, G4 D = some (.lst acc) ∧ acc.length < sizeLine ∧ Pv (i + 1) (upd G4 D (.lst (acc ++ [y]))) else Pv (i + 1) G3) ∧ ∀ G, Pv xs.length G → Q (.ref D) G
theorem pe_lcB {elt tg iter : Expr} {ifs : List Expr} {scope : Scope} {own : List (Str × Nat)} {pos : Pos} {tl : TE} {g : TG} {tt : TT} {te : TE} (hb : HotB X xh oh) (hN : X.N.Nodup) (hi : PE X iter tl) (ok : BlkOk X.N X.env.scope scope own)
    (hg : ∀ (s : Shared) (H : Hp) (C : Addr) (cl : List (Str × Addr)) (fp : List Addr), HotB (X.blk s H scope (compEnvC scope cl C X.env) fp) xh oh → PG (X.blk s H scope (compEnvC scope cl C X.env) fp) tg g)
    (ht : ∀ (s : Shared) (H : Hp) (C : Addr) (cl : List (Str × Addr)) (fp : List Addr), PTs (X.blk s H scope (compEnvC scope cl C X.env) fp) ifs tt)
    (he : ∀ (s : Shared) (H : Hp) (C : Addr) (cl : List (Str × Addr)) (fp : List Addr), PE (X.blk s H scope (compEnvC scope cl C X.env) fp) elt te) (hs : ∀ x, foldedSetIterable iter X.env x = pure x := by intro _; rfl) :
    PE X (.ListComp elt [⟨tg, iter, ifs, 0⟩] scope pos) (tLcB X.K tl g tt te (own.map (·.2))) := by
  refine ⟨fun pins s σ H Q I h => ?_⟩
  rw [eval_ListComp]
  have hfree : ∀ y ∈ scope.names, y.2 = .free → ∃ c, X.env.cells.lookup y.1 = some c := fun y hy e => (ok.free y hy e).elim (fun k => I.ok.has _ (.inl k)) (fun k => I.ok.has _ (.inr k))
  refine wpAny_comprehension_free (use := Option.none) rfl hs (closure_ok hfree) ok.kind (fun y hy e => by rw [ok.uniq y hy, e]) (thn (hi.run pins s σ H _ I h) fun xv s1 ⟨x, H1, I1, r1, a, xs, ex, hL, k⟩ => ?_)
  subst ex
  cases r1
  obtain ⟨its, rv, hl, hz⟩ := I1.list hL
  refine PySem.wpAny_pyIter_list hl.isList ?_
  -- the iterator's object, the new list, the block's frame
  have I2 : Inv X pins σ H1 { s1 with heap := s1.heap.push { cls := .type "list_iterator", data := .fields #[.ref a, .int 0 0] } } := I1.kept (t' := s1.toks) fun b o e => Heap.get?_push_of_some _ e
  have hit2 : ({ s1 with heap := s1.heap.push { cls := .type "list_iterator", data := .fields #[.ref a, .int 0 0] } } : Shared).heap.IsListIter s1.heap.objs.size a 0 := ⟨_, Heap.get?_push_size _ rfl, rfl, rfl⟩
  have it0 : H1 s1.heap.objs.size = Option.none := I1.hok.fresh (Nat.le_refl _)
  have fit : FpOk X pins H1 s1.heap.objs.size := I1.fpOk (Nat.le_refl _) it0
  have nxi : xh ≠ s1.heap.objs.size := Nat.ne_of_lt (Heap.lt_size (hb.get I1))
  have ltit : s1.heap.objs.size < ({ s1 with heap := s1.heap.push { cls := .type "list_iterator", data := .fields #[.ref a, .int 0 0] } } : Shared).heap.objs.size := by
    show _ < (s1.heap.push _).objs.size
    rw [Heap.size_push]
    exact Nat.lt_succ_self _
  generalize ({ s1 with heap := s1.heap.push { cls := .type "list_iterator", data := .fields #[.ref a, .int 0 0] } } : Shared) = s2 at *
  generalize s1.heap.objs.size = it at *
  refine wpAny_newObj_type (newEnv_comp ?_) (by show 0 ≤ sizeLine; decide)
  obtain ⟨Pv, p0, pl, pt, pd⟩ := k s2.heap.objs.size (I2.hok.fresh (Nat.le_refl _))
  have I3 : Inv X pins σ (upd H1 s2.heap.objs.size (.lst [])) { s2 with heap := s2.heap.push { cls := .type "list", data := .seq ([] : List Value).toArray } } :=
    I2.laid (t' := s2.toks) (fun b o e => Heap.get?_push_of_some _ e) (Nat.le_refl _) ⟨Nat.zero_le _, [], 0, .nil, Heap.get?_push_size _ rfl⟩
  have hit3 : ({ s2 with heap := s2.heap.push { cls := .type "list", data := .seq ([] : List Value).toArray } } : Shared).heap.IsListIter it a 0 := by
    obtain ⟨o, y1, y2⟩ := hit2
    exact ⟨o, Heap.get?_push_of_some _ y1, y2⟩
  have lt3 : it < ({ s2 with heap := s2.heap.push { cls := .type "list", data := .seq ([] : List Value).toArray } } : Shared).heap.objs.size := by
    show _ < (s2.heap.push _).objs.size
    rw [Heap.size_push]
    exact Nat.lt_succ_of_lt ltit
  have fit3 : FpOk X pins (upd H1 s2.heap.objs.size (.lst [])) it := ⟨by rw [upd_ne (Nat.ne_of_lt ltit)]; exact it0, fit.2⟩
  generalize hDD : s2.heap.objs.size = D at *
  generalize ({ s2 with heap := s2.heap.push { cls := .type "list", data := .seq ([] : List Value).toArray } } : Shared) = s3 at *
  generalize upd H1 D (.lst []) = H3 at *
  have I4 := block_start I3 ok hN (fp := [it]) fun b hm => by
    rw [List.mem_singleton.mp hm]
    exact ⟨fit3, lt3⟩
  -- the block's context, by letters
  have hotB := fun ce => hb.blk I3 scope ce (fp := [it]) fun b o vs e1 e2 e3 z => by
    obtain ⟨oi, i1, _, i3⟩ := hit3
    rw [List.mem_singleton.mp z, i1] at e1
    cases e1
    rw [i3] at e2
    cases e2
    exact absurd (show 2 < 2 from e3) (by omega)
  have pg := fun cl => hg s3 H3 s3.heap.objs.size cl [it] (hotB _)
  have pts := fun cl => ht s3 H3 s3.heap.objs.size cl [it]
  have pe := fun cl => he s3 H3 s3.heap.objs.size cl [it]
  have hit4 : ({ s3 with heap := pushCells (s3.heap.push { cls := .type "dict", data := .dict #[] }) scope.names } : Shared).heap.IsListIter it a 0 := by
    obtain ⟨o, y1, y2⟩ := hit3
    exact ⟨o, pushCells_keeps _ _ _ _ (Heap.get?_push_of_some _ y1), y2⟩
  show codeAny _ _ (.compStart (.ListComp elt [⟨tg, iter, ifs, 0⟩] scope pos) 0 (.ref it) (.ref D) (compEnvC scope (cellsFrom (s3.heap.objs.size + 1) scope.names (cloFrom X.env.cells scope.names [])) s3.heap.objs.size X.env)) (compPost (model X.prog X.w) X.A X.xe Option.none (EP X pins σ Q) (.ref D) s3.heap.objs.size) { s3 with heap := pushCells (s3.heap.push { cls := .type "dict", data := .dict #[] }) scope.names }
  specialize pg (cellsFrom (s3.heap.objs.size + 1) scope.names (cloFrom X.env.cells scope.names []))
  specialize pts (cellsFrom (s3.heap.objs.size + 1) scope.names (cloFrom X.env.cells scope.names []))
  specialize pe (cellsFrom (s3.heap.objs.size + 1) scope.names (cloFrom X.env.cells scope.names []))
  have eL : (compEnvC scope (cellsFrom (s3.heap.objs.size + 1) scope.names (cloFrom X.env.cells scope.names [])) s3.heap.objs.size X.env).locals = s3.heap.objs.size := rfl
  generalize compEnvC scope (cellsFrom (s3.heap.objs.size + 1) scope.names (cloFrom X.env.cells scope.names [])) s3.heap.objs.size X.env = ce at *
  generalize ({ s3 with heap := pushCells (s3.heap.push { cls := .type "dict", data := .dict #[] }) scope.names } : Shared) = s4 at *
  have hb4 := hotB ce
  have mem1 : it ∈ [it] := List.mem_singleton.mpr rfl
  have fpk : ∀ {σ' : L2.St} {G : Hp} {s' : Shared}, Inv (X.blk s3 H3 scope ce [it]) [] σ' G s' → G it = Option.none → FpOk (X.blk s3 H3 scope ce [it]) [] G it := fun {σ' G s'} J g0 =>
    ⟨g0, (J.ok.exf it mem1).1, J.ok.exfs it mem1, .inl mem1, fun y c e => (J.ok.exf it mem1).2 y c e, fun p hp => absurd (show p ∈ ([] : List (Addr × Obj)) ++ [] from hp) (by simp)⟩
  have loop : ∀ s4 : Shared, Inv (X.blk s3 H3 scope ce [it]) [] (wipe σ (own.map (·.2))) H3 s4 → s4.heap.IsListIter it a 0 → codeAny (model X.prog X.w) X.A (.compLoop (.ListComp elt [⟨tg, iter, ifs, 0⟩] scope pos) 0 (.ref it) (.ref D) ce) (compPost (model X.prog X.w) X.A X.xe Option.none (EP X pins σ Q) (.ref D) s3.heap.objs.size) s4 := by
    intro s4 I4 hit4
    refine compLoop_any (fun n s' => ∃ j G, n = xs.length - j ∧ j ≤ xs.length ∧ Inv (X.blk s3 H3 scope ce [it]) [] (wipe σ (own.map (·.2))) G s' ∧ s'.heap.IsListIter it a j ∧ G it = Option.none ∧ Pv j G) ?_ _ ⟨0, H3, rfl, Nat.zero_le _, I4, hit4, fit3.1, p0⟩
    rintro n s5 ⟨j, G, rfl, le, I5, hi5, g5, pv⟩
    have hL5 : SqL (X.blk s3 H3 scope ce [it]).K G a xs := pl j G le pv
    obtain ⟨its5, rv5, hl5, hz5⟩ := I5.list hL5
    obtain ⟨f0, f1, f2, f3, f4, f5⟩ := fpk I5 g5
    rcases Nat.lt_or_ge j xs.length with lt | ge
    · obtain ⟨u, hu, ru⟩ := rv5.get (List.getElem?_eq_getElem lt)
      refine PySem.wpAny_pyNext_list_item hi5 hl5.isList (x := u) (by simpa using hu) fun g6 hi6 sb6 => ?_
      have I6 : Inv (X.blk s3 H3 scope ce [it]) [] (wipe σ (own.map (·.2))) G { s5 with heap := g6 } := I5.turned (t' := s5.toks) (fun b o nb e => (sb6.2 b nb).trans e) f0 f1 f3 f4 f5
      obtain ⟨o6, y1, y2, y3⟩ := id hi6
      refine go_of (s := { s5 with heap := g6 }) y1 y2 y3 (by decide) ?_
      have I6p := I6.pinned (fp := [it]) (fun b hm => by rw [List.mem_singleton.mp hm]; exact fpk I6 g5) (fun b hm => by rw [List.mem_singleton.mp hm]; exact ⟨o6, y1, fun v z => by rw [y3] at z; cases z⟩)
      refine thnF (pg.run _ _ _ G _ u _ I6p ru (pt j _ G (List.getElem?_eq_getElem lt) pv)) fun _ s8 ⟨σ8, H8, I8, hw8, q8⟩ => ?_
      refine thnF (pts.run _ s8 σ8 H8 _ I8 q8) fun b s9 ⟨H9, I9, q9⟩ => ?_
      have fin : ∀ {s' : Shared} {G' : Hp}, Inv (X.blk s3 H3 scope ce [it]) ([] ++ pinsAt [it] g6) σ8 G' s' → Pv (j + 1) G' → ∃ m, m < xs.length - j ∧ ∃ j' G', m = xs.length - j' ∧ j' ≤ xs.length ∧ Inv (X.blk s3 H3 scope ce [it]) [] (wipe σ (own.map (·.2))) G' s' ∧ s'.heap.IsListIter it a j' ∧ G' it = Option.none ∧ Pv j' G' := fun {s' G'} J nx => by
        have pin := J.pin (it, o6) (List.mem_append_right _ (List.mem_append_right _ (mem_pinsAt mem1 y1)))
        have hln : (wipe σ (own.map (·.2))).length = σ8.length := by rw [← hw8, wipe_length]
        refine ⟨xs.length - (j + 1), by omega, j + 1, G', rfl, lt, (J.unpinned (pins := [])).weak hln (fun i v e => ?_), ⟨o6, pin.1, y2, y3⟩, pin.2.1, nx⟩
        rw [← hw8] at e
        exact (wipe_some e).1
      cases b with
      | false =>
        simp only [Bool.false_eq_true, if_false] at q9 ⊢
        exact fin I9 q9
      | true =>
        simp only [if_true] at q9 ⊢
        refine thnF (pe.run _ s9 σ8 H9 _ I9 q9) fun z s10 ⟨yv, H10, I10, r10, acc, hD10, hz10, nx⟩ => ?_
        exact app_ok (X := X.blk s3 H3 scope ce [it]) I10 hD10 hz10 r10 fun s11 I11 => fin I11 nx
    · have ej : j = xs.length := Nat.le_antisymm le ge
      subst ej
      refine list_end_hot (hb4.hot I5) nxi hi5 hl5.isList (by have := rv5.length; simp; omega) fun g6 eb => ?_
      have I6 : Inv (X.blk s3 H3 scope ce [it]) [] (wipe σ (own.map (·.2))) G { s5 with heap := g6 } := I5.turned (t' := s5.toks) (fun b o nb e => eb b o nb e) f0 f1 f3 f4 f5
      have I7 : Inv X pins σ G { s5 with heap := g6 } := I3.call' (ch := [it]) I6.os I6.base I6.hok I6.bare fun b hm => by
        rw [List.mem_singleton.mp hm]
        exact ⟨fit3.2.2.2.1, fit3.2.1, fit3.2.2.2.2.1, fit3.2.2.2.2.2⟩
      have nC : G s3.heap.objs.size = Option.none := by
        have z : G ce.locals = Option.none := I6.free
        rw [eL] at z
        exact z
      obtain ⟨m, hn, _⟩ := I6.loc
      have hn : g6.Ns ce.locals m := hn
      rw [eL] at hn
      obtain ⟨k0, k1, k2, k3, k4, k5⟩ := I3.fpOk (Nat.le_refl _) nC
      exact ⟨m, hn, fun g7 sb => ⟨.ref D, G, I7.turned (t' := s5.toks) (fun b o nb e => (sb.2 b nb).trans e) k0 k1 k3 k4 k5, rfl, pd G pv⟩⟩
  refine codeAny_compStart_list (loop s4 I4 hit4) ?_
  exact PySem.wpAny_pyIter_listiter hit4 (loop s4 I4 hit4)
end
open PySem.Spec PyProof.Rows
/-! ### isinstance of the handled exception, wherever it was handed -/
def rIsB (K : PySem.W.Frag) (D xh : Addr) : List V → Hp → VK → Prop := fun vs H Q => ∃ (c : V) (u : Value) (b : Bool), vs = [.ref xh, c] ∧ ClsV c u ∧ PySem.W.kitOne K (.ref D) u = some b ∧ Q (.bl b) H
theorem call_isB {X : Cx} {xh D : Addr} {oh : Obj} (hb : HotB X xh oh) (C : ExcC X.K D) (hc : oh.cls = .ref D) (hd : oh.dict = none) : CallR X (.builtin "isinstance") (rIsB X.K D xh) := by
  intro pins s σ H vs us Q I r y
  obtain ⟨c, u, b, rfl, kc, e, q⟩ := y
  obtain ⟨u1, u2, rfl, r1, r2⟩ := vals2 r
  cases (show u1 = Value.ref xh from r1)
  have e2 := kc.eq r2
  subst e2
  obtain ⟨ws, d1, _⟩ := hb.dat
  have J : PySem.W.InstAt s.heap xh oh D none := by
    have g := hb.get I
    obtain ⟨oc, od, oda, osl⟩ := oh
    dsimp only at hc hd d1
    subst hc hd d1
    exact ⟨g, rfl, rfl, trivial⟩
  exact PySem.W.kia_one (PySem.W.handS_kitx_exc C.hg C.hk C.hs C.hd C.ha C.hn C.ht C.hm) I.kIn J e (fun z => nomatch z) fun tk => ⟨.bl b, H, I.tok tk, rfl, q⟩
/-! ### a def called while an exception is handled, that exception told -/
structure HotP (A : Around) (outer : List Env) (H : Hp) (s : Shared) (xh : Addr) (oh : Obj) : Prop where
  hnd : A.handled = some (.ref xh)
  dat : ∃ vs : Array Value, oh.data = .fields vs ∧ HotY.Ctx2 (fun y oy => L2H.PinOk outer H s (y, oy)) vs[2]?
  pin : L2H.PinOk outer H s (xh, oh)
theorem HotP.b {CX : CXT} {P : Program} {w : World} {K : PySem.W.Frag} {mg : Str → Option Value} {base : Heap} {N : List Str} {qual : Str} {scope : Scope} {f : Addr} {cd : Value} {A : Around} {outer : List Env} {s : Shared} {H : Hp} {E : XK} {xh : Addr} {oh : Obj} (h : HotP A outer H s xh oh) :
    HotB (L2H.cxH CX P w K mg base N qual scope f cd A outer s H E (xh, oh)) xh oh := ⟨h.hnd, h.pin.get, h.dat.imp fun vs d => ⟨d.1, d.2.imp fun y oy k _ => ⟨k.get, k.free, k.nofs, fun z => nomatch (show y ∈ ([] : List Addr) from z)⟩⟩, h.pin.free, h.pin.nofs, fun z => nomatch (show xh ∈ ([] : List Addr) from z)⟩
/-- its promise: sp with the exception told -/
def FnB (P : Program) (w : World) (K : PySem.W.Frag) (mg : Str → Option Value) (base : Heap) (k : Nat) (f : Addr) (fd : FuncData) (ps : List Str) (sp : Addr → Value → Option Addr → Sp) : Prop :=
  ∀ (A : Around) (outer : List Env) (s : Shared) (H : Hp) (args : Args) (us : List Value) (vs : List V) (Q : VK) (xh : Addr) (oh : Obj), L2H.RoomH k A → HotP A outer H s xh oh → Env0 P w K mg base A outer s H → BindsTo s fd args (ps.zip us) → Vals vs us → vs.length = ps.length → sp xh oh.cls oh.dict vs H Q E0 →
    codeAny (model P w) A (.call (.ref f) args) (CR CX0 outer P w H s Q E0) s
theorem Fun.okB {P : Program} {w : World} {K : PySem.W.Frag} {mg : Str → Option Value} {base : Heap} {x qual : Str} {st : Stmt} {f : Addr} {fd : FuncData} {N ps : List Str} {k : Nat} {sp : Addr → Value → Option Addr → Sp} (F : L2.Fun K x qual st f fd) (S : FnScope N ps (defScope st))
    (body : ∀ (cdv : Value) (A : Around) (outer : List Env) (s : Shared) (H : Hp) (vs : List V) (Q : VK) (xh : Addr) (oh : Obj), L2H.RoomH k (A.deeper (PyProof.Rows.envOfC qual (defScope st) s.heap.objs.size f cdv)) → HotB (L2H.cxH CX0 P w K mg base N qual (defScope st) f cdv A outer s H E0 (xh, oh)).nox xh oh → sp xh oh.cls oh.dict vs H Q E0 →
      ∃ t, PSs (L2H.cxH CX0 P w K mg base N qual (defScope st) f cdv A outer s H E0 (xh, oh)).nox (defBody st) t ∧ t { nx := fun _ H' => Q .non H', rt := Q } (L2.start N vs) H) : FnB P w K mg base (k + 1) f fd ps sp := by
  obtain ⟨oc, od, kV, doc, pm, an, cdv, ct, osl, rfl, lk, hcd⟩ := F.ex
  intro A outer s H args us vs Q xh oh hr hp e0 hb r hl hsp
  have KX : K.In s.heap := e0.mod.kin.keeps fun b o e => (e0.bs b o e).1
  have hkind : ∀ y ∈ ps.zip us, (defScope st).names.lookup y.1 = some .local ∨ ((defScope st).names.lookup y.1 = some .cell ∧ ((cellsFrom (s.heap.objs.size + 1) (defScope st).names []).lookup y.1).isSome = true) := by
    rintro ⟨n, v⟩ hy
    exact (S.par n (List.of_mem_zip hy).1).imp id fun q => ⟨q, PySem.W.cellsFrom_some _ _ _ (.inl q)⟩
  refine codeAny_call_function hr.depth (KX _ _ lk) rfl S.co S.gen rfl (PySem.W.codeRec_of KX hcd) (hb _ _ _ _ (wpAny_newFunctionEnv_cells S.kind hkind fun env he s1 y => ?_))
  subst he
  refine ⟨(e0.mod.nolimit.keeps fun b o e => (e0.bs b o e).1).keeps y.toInCall.keep, codeAny_func ?_⟩
  have hB := hp.b (CX := CX0) (P := P) (w := w) (K := K) (mg := mg) (base := base) (N := N) (qual := qual) (scope := defScope st) (f := f) (cd := cdv) (E := E0)
  obtain ⟨t, ht, hq⟩ := body cdv A outer s H vs Q xh oh (hr.deeper _) ⟨hB.hnd, hB.obj, hB.dat, hB.unt, hB.nfs, hB.nex⟩ hsp
  have I : Inv (L2H.cxH CX0 P w K mg base N qual (defScope st) f cdv A outer s H E0 (xh, oh)) [] (L2.start N vs) H s1 := L2H.inv_startH S hp.pin e0 hl r y
  refine wpAny_mono (ht.run [] s1 (L2.start N vs) H _ (I.wish _) hq) (fun fl s' z => ?_) fun _ _ z => z.elim
  have z' : SP (L2H.cxH CX0 P w K mg base N qual (defScope st) f cdv A outer s H E0 (xh, oh)) [] { nx := fun _ H' => Q .non H', rt := Q } fl s' := z.unwish
  cases fl with
  | ret u =>
    obtain ⟨v, σ', H', J, rv, q⟩ := z'
    exact ⟨v, H', J.os, J.bare, J.base, J.hok, rv, q⟩
  | next =>
    obtain ⟨σ', H', J, q⟩ := z'
    exact ⟨V.non, H', J.os, J.bare, J.base, J.hok, rfl, q⟩
  | brk => exact z'.elim fun _ y => y.elim fun _ y => y.2.elim
  | cont => exact z'.elim fun _ y => y.elim fun _ y => y.2.elim
/-! ### calls of such defs, out of the suite or out of another such def -/
structure HotG (X : Cx) (xh : Addr) (oh : Obj) : Prop where
  hnd : X.A.handled = some (.ref xh)
  dat : ∃ vs : Array Value, oh.data = .fields vs ∧ HotY.Ctx2 (fun y oy => ∀ {pins : List (Addr × Obj)} {σ : L2.St} {H : Hp} {s : Shared}, Inv X pins σ H s → s.heap.get? y = some oy ∧ H y = none ∧ y ≠ X.env.locals ∧ y ∉ X.fs) vs[2]?
  at_ : ∀ {pins : List (Addr × Obj)} {σ : L2.St} {H : Hp} {s : Shared}, Inv X pins σ H s → s.heap.get? xh = some oh ∧ H xh = none ∧ xh ≠ X.env.locals ∧ xh ∉ X.fs
theorem HotB.g {X : Cx} {xh : Addr} {oh : Obj} (h : HotB X xh oh) : HotG X xh oh := ⟨h.hnd, h.dat.imp fun vs d => ⟨d.1, d.2.imp fun y oy k e => fun {pins σ H s} I => ⟨I.base.keep y oy k.1 k.2.1 k.2.2.1 k.2.2.2, I.base.free y oy k.1 k.2.1 k.2.2.2, nloc_of I (I.base.keep y oy k.1 k.2.1 k.2.2.1 k.2.2.2) e, k.2.2.1⟩⟩, fun I => ⟨h.get I, h.none I, h.nloc I, h.nfs⟩⟩
theorem hotG_suite {X : Cx} {a : Addr} {oe : Obj} {pn : List (Addr × Obj)} {cls : Value} {d : Option Addr} (hz : L2N.Zn cls d oe) (hf : ∃ vs, oe.data = .fields vs) : HotG (X.suite a ((a, oe) :: pn)) a oe := by
  obtain ⟨vs, e⟩ := hf
  refine ⟨rfl, ⟨vs, e, .inl (hz.2.2 vs e)⟩, fun I => ?_⟩
  obtain ⟨h1, h2, h3, h4, _⟩ := I.pin (a, oe) (List.mem_append_left _ List.mem_cons_self)
  exact ⟨h1, h2, h3, h4⟩
/-- the same where its context stands among the pins -/
theorem hotG_suite2 {X : Cx} {a : Addr} {oe : Obj} {pn : List (Addr × Obj)} (hf : ∃ vs : Array Value, oe.data = .fields vs ∧ HotY.Ctx2 (fun y oy => (y, oy) ∈ pn) vs[2]?) : HotG (X.suite a ((a, oe) :: pn)) a oe := by
  obtain ⟨vs, e, c⟩ := hf
  refine ⟨rfl, ⟨vs, e, c.imp fun y oy m _ => fun {pins σ H s} I => ?_⟩, fun I => ?_⟩
  · obtain ⟨h1, h2, h3, h4, _⟩ := I.pin (y, oy) (List.mem_append_left _ (List.mem_cons_of_mem _ m))
    exact ⟨h1, h2, h3, h4⟩
  · obtain ⟨h1, h2, h3, h4, _⟩ := I.pin (a, oe) (List.mem_append_left _ List.mem_cons_self)
    exact ⟨h1, h2, h3, h4⟩
theorem HotG.p {X : Cx} {xh : Addr} {oh : Obj} (h : HotG X xh oh) {pins : List (Addr × Obj)} {σ : L2.St} {H : Hp} {s : Shared} (I : Inv X pins σ H s) : HotP X.A X.stack H s xh oh := by
  obtain ⟨h1, h2, h3, h4⟩ := h.at_ I
  obtain ⟨vs, d1, d2⟩ := h.dat
  exact ⟨h.hnd, ⟨vs, d1, d2.imp fun y oy k e => by
    obtain ⟨k1, k2, k3, k4⟩ := k I
    obtain ⟨vy, dy⟩ := e
    exact ⟨k1, k2, fun z => (List.mem_cons.mp (I.stkSub y z)).elim k3 k4, fun v z => by rw [dy] at z; cases z⟩⟩, h1, h2, fun z => (List.mem_cons.mp (I.stkSub xh z)).elim h3 h4, fun v z => by rw [d1] at z; cases z⟩
def tCallG (sp : Addr → Value → Option Addr → Sp) (xh : Addr) (cls : Value) (dd : Option Addr) (n : Nat) (t : L2.TA) : TE := fun σ H Q => t σ H fun vs H1 => vs.length = n ∧ sp xh cls dd vs H1 Q E0
theorem pe_callG {X : Cx} {k : Nat} {f : Addr} {fd : FuncData} {ps : List Str} {sp : Addr → Value → Option Addr → Sp} {xh : Addr} {oh : Obj} {x : Str} {p pos : Pos} {e : Expr} {es : List Expr} {t : L2.TA} (G : FnB X.prog X.w X.K X.mg X.base k f fd ps sp) (hr : L2H.RoomH k X.A) (hg : HotG X xh oh) {cls : Value} {dd : Option Addr} (hcl : oh.cls = cls) (hdd : oh.dict = dd) (gl : Gl X x) (hm : X.mg x = some (.ref f)) (hk : PySem.W.keepIn X.K (.ref f) = true) (hb : Binds X.K fd ps [])
    (ha : PA X (e :: es) t) (hdb : (x == ("__debug__" : Str)) = false := by decide) (he : starEach (e :: es) X.env = (false, eval e X.env) :: starEach es X.env := by rfl) (hpl : (backTo pos (starEach es X.env)).any (·.1) = false := by rfl) :
    PE X (.Call (.Name x p) (e :: es) [] pos) (tCallG sp xh cls dd ps.length t) := by
  subst hcl hdd
  refine ⟨fun pins s σ H Q I y => ?_⟩
  refine wpAny_Call_Name_kw (ld_glob I gl hm (PySem.W.callWith_K (h₀ := X.base) I.ok.mod.kin hk (thn (ha.run pos pins s σ H _ I y) fun us s1 ⟨vs, H1, I1, r, q⟩ => ⟨I1.kIn, ?_⟩) he hpl) hdb)
  obtain ⟨hl, q⟩ := q
  have hu : us.length = ps.length := by rw [← r.length, hl]
  have hbb : BindsTo s1 fd ⟨us, []⟩ (ps.zip us) := by
    have z := hb s1 us I1.kIn (by rw [List.append_nil]; exact hu)
    rw [List.append_nil] at z
    exact z
  refine wpAny_call (codeAny_mono (G X.A X.stack s1 H1 ⟨us, []⟩ us vs Q xh oh hr (hg.p I1) I1.env0 hbb r hl q) fun rs s' hq => ?_)
  cases rs with
  | error e => exact False.elim hq
  | ok fl =>
    cases fl with
    | ret u => exact I1.after hq
    | next => exact False.elim hq
    | brk => exact False.elim hq
    | cont => exact False.elim hq
/-! ### exceptions in flight whose context stands on the ground (raise .. from None leaves the handled one there) -/
namespace L2C
open PySem.Spec PyProof.Rows L2
def Zx (B : Heap) (H : Hp) (cls : Value) (d : Option Addr) : Obj → Prop := fun o => o.cls = cls ∧ o.dict = d ∧ ∀ vs : Array Value, o.data = .fields vs → HotY.Ctx2 (fun y oy => B.get? y = some oy ∧ H y = none) vs[2]?
theorem fld2 {o : Obj} {v : Value} {vs : Array Value} (e : (o.mapFields (·.setIfInBounds 1 v)).data = .fields vs) : ∃ vs0 : Array Value, o.data = .fields vs0 ∧ vs[2]? = vs0[2]? := by
  obtain ⟨c, d, dt, sl⟩ := o
  cases dt with
  | fields vs0 =>
    have e2 : vs0.setIfInBounds 1 v = vs := Data.fields.inj e
    refine ⟨vs0, rfl, ?_⟩
    rw [← e2]
    first
    | exact Array.getElem?_setIfInBounds_ne (by decide)
    | simp [Array.getElem?_setIfInBounds]
  | _ =>
    first
    | exact Data.noConfusion e
    | cases e
theorem Zx.steady {B : Heap} {H : Hp} {cls : Value} {d : Option Addr} : PXN.Steady1 (Zx B H cls d) := fun o v h => ⟨PXN.steady_cls o v h.1, PXN.steady_dict o v h.2.1, fun vs e => by
  obtain ⟨vs0, e0, e2⟩ := fld2 e
  rw [e2]
  exact h.2.2 vs0 e0⟩
theorem zx_ofN {B : Heap} {H : Hp} {cls : Value} {d : Option Addr} {o : Obj} (h : L2N.Zn cls d o) : Zx B H cls d o := ⟨h.1, h.2.1, fun vs e => .inl (h.2.2 vs e)⟩
theorem traced_imp {h B : Heap} {a : Addr} {Z Z' : Obj → Prop} {fl : Value} (z : ∀ o, Z o → Z' o) (x : HandSPX.TracedZ h B a Z fl) : HandSPX.TracedZ h B a Z' fl := by
  obtain ⟨oe, vs, T, oT, ts, he, hz, r⟩ := x
  exact ⟨oe, vs, T, oT, ts, he, z _ hz, r⟩
theorem sky_imp {B : Heap} {l : List Env} {a L : Addr} {Z Z' : Obj → Prop} {h : Heap} (z : ∀ o, Z o → Z' o) (x : Sky B l a Z L h) : Sky B l a Z' L h := by
  rcases x with ⟨x1, x2, x3, oe, vs, x4, x5, x6⟩ | ⟨x1, x2, x3, x4⟩ | ⟨x1, x2, x3, x4⟩
  · exact .inl ⟨x1, x2, x3, oe, vs, x4, z _ x5, x6⟩
  · exact .inr (.inl ⟨x1, x2, x3, traced_imp z x4⟩)
  · exact .inr (.inr ⟨x1, x2, x3, traced_imp z x4⟩)
/-- in the air of X -/
def XE (X : Cx) (W : WX) (u : Value) (s' : Shared) : Prop :=
  ∃ (a : Addr) (B : Heap) (sI : Shared) (pins : List (Addr × Obj)) (σ : L2.St) (H : Hp) (cls : Value) (d : Option Addr),
    u = .ref a ∧ Inv X pins σ H sI ∧ (∀ b o, sI.heap.get? b = some o → b ∉ frs X.stack → B.get? b = some o) ∧ sI.heap.UpToSlots s'.heap ∧ Sky B X.stack a (Zx B H cls d) X.env.locals s'.heap ∧ H a = none ∧ s'.os = sI.os ∧ AllBare s'.gens ∧ W cls d σ H
def Takes (X : Cx) (W : WX) : Prop := ∀ u s', XE X W u s' → X.xe u s'
theorem XE.ofN {X : Cx} {W : WX} {u : Value} {s' : Shared} (x : L2N.XE X W u s') : XE X W u s' := by
  obtain ⟨a, B, sI, pins, σ, H, cls, d, x1, x2, x3, x4, x5, r⟩ := x
  exact ⟨a, B, sI, pins, σ, H, cls, d, x1, x2, x3, x4, sky_imp (fun o => zx_ofN) x5, r⟩
theorem Takes.n {X : Cx} {W : WX} (t : Takes X W) : L2N.Takes X W := fun u s' x => t u s' (XE.ofN x)
/-- behind a call that let one out -/
def CX (P : Program) (w : World) (outer : List Env) (H : Hp) (s : Shared) (E : XK) (u : Value) (s' : Shared) : Prop :=
  ∃ (a : Addr) (B : Heap) (H' : Hp) (cls : Value) (d : Option Addr), u = .ref a ∧ HandSPX.FlyingZ B outer a (Zx B H' cls d) s'.heap ∧ HOk P w H' B ∧ UB (frs outer) H H' s.heap B s'.heap ∧ H' a = none ∧ s'.os = s.os ∧ AllBare s'.gens ∧ E cls d H'
theorem CX.ofN {P : Program} {w : World} {outer : List Env} {H : Hp} {s : Shared} {E : XK} {u : Value} {s' : Shared} (c : L2N.CX P w outer H s E u s') : CX P w outer H s E u s' := by
  obtain ⟨a, B, H', cls, d, e, ⟨f1, f2, f3, f4⟩, r⟩ := c
  exact ⟨a, B, H', cls, d, e, ⟨f1, f2, f3, traced_imp (fun o => zx_ofN) f4⟩, r⟩
/-- what lets out none but such as have no context may stand among those -/
theorem fn_up {P : Program} {w : World} {K : PySem.W.Frag} {mg : Str → Option Value} {base : Heap} {k : Nat} {f : Addr} {fd : FuncData} {ps : List Str} {sp : Sp} (F : FnOk P w K mg base (L2N.CX P w) k f fd ps sp) : FnOk P w K mg base (CX P w) k f fd ps sp :=
  ⟨F.len, fun A outer s H args us vs Q E hr e0 hb r hsp => codeAny_mono (F.run A outer s H args us vs Q E hr e0 hb r hsp) fun rs s' hq => by
    cases rs with
    | error e => exact CX.ofN hq
    | ok fl => cases fl <;> exact hq⟩
section
variable {X : Cx} {pins : List (Addr × Obj)} {σ : L2.St} {H : Hp} {s s' : Shared} {W : WX} {E : XK} {u : Value}
/-- what a call let out is in the caller's air: the ground and the callers' frames, taken for themselves, are a state of ours -/
theorem XE.of_call (I : Inv X pins σ H s) (hW : ∀ cls d H', E cls d H' → W cls d σ H') (c : CX X.prog X.w X.stack H s E u s') : XE X W u s' := by
  obtain ⟨a, B, H', cls, d, rfl, fl, hok, ub, na, os, ag, hE⟩ := c
  have up0 : B.StaysIn s'.heap := fl.1
  obtain ⟨G, yes, no⟩ := restrict s'.heap fun b => (B.get? b).isSome || decide (b ∈ frs X.stack)
  have inB : ∀ b o, B.get? b = some o → G.get? b = some o := fun b o e => (yes b (by rw [e]; rfl)).trans (up0 b o e)
  have inF : ∀ b, b ∈ frs X.stack → G.get? b = s'.heap.get? b := fun b m => yes b (by rw [decide_eq_true m, Bool.or_true])
  have back : ∀ b o, G.get? b = some o → s'.heap.get? b = some o := fun b o e => by
    cases q : ((B.get? b).isSome || decide (b ∈ frs X.stack)) with
    | true => exact (yes b q).symm.trans e
    | false => exact absurd ((no b q).symm.trans e) (by simp)
  have J : Inv X pins σ H' { s with heap := G, gens := s'.gens, drawn := s'.drawn, toks := s'.toks } :=
    I.call (ch := []) ⟨fun b o e n m _ => inB b o (ub.keep b o e n m), fun b o e _ m _ => (ub.slot b o e m).imp fun sl q => (inF b m).trans q, fun b o e n _ => ub.free b o e n, fun b o e _ => by
      by_cases m : b ∈ frs X.stack
      · obtain ⟨sl, q⟩ := ub.slot b o e m
        exact ⟨_, (inF b m).trans q⟩
      · obtain ⟨o', q⟩ := ub.there b o e m
        exact ⟨o', inB b o' q⟩, ub.tups, ub.frzs, ub.tbls⟩ (hok.kept inB) ag fun _ z => nomatch z
  refine ⟨a, B, _, pins, σ, H', cls, d, rfl, J, fun b o e m => ?_, Heap.UpToSlots.of_keeps back, .inr (.inl fl), na, os, ag, hW _ _ _ hE⟩
  cases q : B.get? b with
  | some o' => exact ((up0 b o' q).symm.trans (back b o e)) ▸ rfl
  | none =>
    have z := no b (by rw [q, decide_eq_false m]; rfl)
    exact absurd (z.symm.trans e) (by simp)
/-- it leaves the def -/
theorem XE.leave (hs : X.stack = X.env :: X.outer) (hf : X.env.frame = some X.env.locals) (hex : X.ex = []) {E₁ : Value → Shared → Prop} (x : XE X (fun cls d _ H => E cls d H) u s') :
    wpAny (model X.prog X.w) X.A (leaving X.env u) (fun _ s'' => CX X.prog X.w X.outer X.H_0 X.s_0 E u s'') E₁ s' := by
  obtain ⟨a, B, sI, pins, σ, H, cls, d, rfl, I, nb, up, sky, na, os, ag, w⟩ := x
  have fr : X.A.frames = some (X.env :: X.outer) := by rw [I.ok.frames, hs]
  have noex : ∀ b, b ∉ X.ex := fun b m => by rw [hex] at m; exact nomatch m
  have offs : ∀ b o, X.s_0.heap.get? b = some o → b ∉ X.fs → b ∉ frs X.stack := fun b o e n m => (List.mem_cons.mp (I.stkSub b m)).elim (fun z => by
    have h1 := Heap.lt_size e
    have h2 := I.ok.above
    rw [z] at h1
    exact absurd (Nat.lt_of_lt_of_le h1 h2) (Nat.lt_irrefl _)) n
  have ground := I.inGround nb
  have done : ∀ g, HandSPX.FlyingZ B X.outer a (Zx B H cls d) g → s'.heap.UpToSlots g → CX X.prog X.w X.outer X.H_0 X.s_0 E (.ref a) { s' with heap := g } := fun g fl up' =>
    ⟨a, B, H, cls, d, rfl, fl, ground, ⟨fun b o e n m => nb b o (I.base.keep b o e n m (noex b)) (offs b o e m), fun b o e m => by
      obtain ⟨_, o₀, e₀, nf⟩ := I.ok.funs.mem m
      rw [e] at e₀
      cases e₀
      obtain ⟨_, y1⟩ := I.base.slot b o e (I.ok.frf b m) m (noex b)
      obtain ⟨_, y2⟩ := up b _ y1 nf
      obtain ⟨sl3, y3⟩ := up' b _ y2 nf
      exact ⟨sl3, y3⟩, fun b o e n => I.base.free b o e n (noex b), fun b o e m => (I.base.there b o e (noex b)).imp fun o' y => nb b o' y (offs b o e m), I.base.tups, I.base.frzs, I.base.tbls⟩, na, os.trans I.os, ag, w⟩
  rw [hs] at sky
  rcases sky with ⟨y1, y2, y3, oe, vs, y4, y5, y6, y7⟩ | fl | hd
  · exact PXN.leaving_firstZ Zx.steady fr y3 hf y4 y1 y2 y6 y7 y5 done
  · exact PXN.leaves_onZ Zx.steady fr hf fl done
  · exact HandSPX.leaves_heldZ hf hd done
theorem takes_of (hs : X.stack = X.env :: X.outer) (hf : X.env.frame = some X.env.locals) (hex : X.ex = []) {E₁ : Value → Shared → Prop}
    (hx : X.xe = fun e s' => wpAny (model X.prog X.w) X.A (leaving X.env e) (fun _ s'' => CX X.prog X.w X.outer X.H_0 X.s_0 E e s'') E₁ s') : Takes X (fun cls d _ H => E cls d H) := fun u s' x => by
  rw [hx]
  exact XE.leave hs hf hex x
theorem passes (tk : Takes X (fun cls d _ H => E cls d H)) : Passes (CX X.prog X.w) X E := fun _ _ _ _ _ _ I c => tk _ _ (XE.of_call I (fun _ _ _ h => h) c)
theorem passesN (tk : Takes X (fun cls d _ H => E cls d H)) : Passes (L2N.CX X.prog X.w) X E := fun _ _ _ _ _ _ I c => tk _ _ (XE.of_call I (fun _ _ _ h => h) (CX.ofN c))
end
/-- of a caught one: its context is None or stands among the pins -/
def CtxP (pn : List (Addr × Obj)) (o : Obj) : Prop := ∃ vs : Array Value, o.data = .fields vs ∧ HotY.Ctx2 (fun y oy => (y, oy) ∈ pn) vs[2]?
/-- try: .. except C as e: of a clause that names all that may come -/
theorem ps_try_as {X : Cx} {x n : Str} {c : Value} {i : Nat} {body suite : List Stmt} {b₀ : Stmt} {np pos pos' : Pos} {tb : WX → TS} {ts : Addr → Value → Option Addr → TS} (hs : X.stack = X.env :: X.outer) (hf : X.env.frame = some X.env.locals) (hN : X.N.Nodup) (hi : X.N[i]? = some n) (hln : X.env.kindOf n = some .local) (hc : Names X x c)
    (hb : ∀ (W : WX) (pn : List (Addr × Obj)) (xe : Value → Shared → Prop), Takes (X.tr pn xe) W → PassesOwn (model X.prog X.w) X.A X.env xe → PSs (X.tr pn xe) body (tb W))
    (hsu : ∀ (a : Addr) (oe : Obj) (cls : Value) (d : Option Addr) (pn : List (Addr × Obj)), oe.cls = cls → oe.dict = d → CtxP pn oe → PSs (X.suite a ((a, oe) :: pn)) (b₀ :: suite) (ts a cls d)) :
    PS X (.Try body [.ExceptHandler (some (.Name x np)) (some n) (b₀ :: suite) pos'] [] [] pos) (fun D σ H => tb (wAs X.K c i ts (fun _ _ _ _ => False) D) D σ H) := by
  refine ⟨fun pins s σ H D I h => ?_⟩
  have ok := I.ok
  have fr : X.A.frames = some (X.env :: X.outer) := by rw [ok.frames, hs]
  refine wpAny_Try_except (wpAny_mono ((hb (wAs X.K c i ts (fun _ _ _ _ => False) D) (X.pn ++ pins) (fun e s₁ => wpAny (model X.prog X.w) X.A (noteFrame e X.env) (fun _ s₂ => wpAny (model X.prog X.w) X.A (setFlight e none) (fun _ s₃ => wpAny (model X.prog X.w) X.A (handleBy e X.env [.ExceptHandler (some (.Name x np)) (some n) (b₀ :: suite) pos']) (SP X pins D) X.xe s₃) X.xe s₂) X.xe s₁) (fun u s' xx => ?_) PassesOwn.looking).run [] s σ H D (I.toTry _) h) (fun f s1 hsp => ?_) fun e s1 he => he)
  · obtain ⟨a, B, sI, _, σ', H', cls, d, rfl, JT, nb, up, sky, na, os, ag, b, hm, hyes, hno⟩ := xx
    obtain rfl : b = true := by
      cases b with
      | true => rfl
      | false => exact (hno rfl).elim
    have J : Inv X pins σ' H' sI := JT.ofTry ok
    show wpAny (model X.prog X.w) X.A (noteFrame (.ref a) X.env) _ _ _
    refine L2N.Sky.land Zx.steady fr hf (show Sky B (X.env :: X.outer) a (Zx B H' cls d) X.env.locals s'.heap by rw [← hs]; exact sky) fun g1 fl1 up1 => ?_
    obtain ⟨o1, w1, eo1, z1, d1⟩ := fl1.there
    have offF : ∀ {B2 h2 : Heap} {o2 : Obj} {w2 : Array Value} {a2 : Addr}, h2.FunFrames B2 (X.env :: X.outer) → h2.get? a2 = some o2 → o2.data = .fields w2 → a2 ∉ frs (X.env :: X.outer) := fun ff eq dq hq => by
      obtain ⟨_, o', e', hd'⟩ := ff.mem hq
      rw [eq] at e'
      cases e'
      exact hd' _ dq
    have offL : ∀ {b : Addr}, b ∉ frs (X.env :: X.outer) → b ≠ X.env.locals := fun off z => off (List.mem_filterMap.mpr ⟨X.env, List.mem_cons_self, by rw [hf, z]⟩)
    have offS : ∀ {b : Addr}, b ∉ frs (X.env :: X.outer) → b ∉ X.fs := fun off hq => by
      obtain ⟨e, he, hq⟩ := List.mem_filterMap.mp hq
      exact off (List.mem_filterMap.mpr ⟨e, List.mem_cons_of_mem _ he, hq⟩)
    have off := offF fl1.2.2.1 eo1 d1
    have J1 : Inv X pins σ' H' { s' with heap := g1 } := J.landed nb fl1.1 (up.trans up1) os ag
    have LT : PySem.W.Looks (model X.prog X.w) g1 (typeOf (.ref a)) cls := fun A Q E s k q => wpAny_typeOf_ref (k _ _ eo1) (by rw [z1.1]; exact q)
    refine wpAny_handleBy_cons (codeAny_handlers_test ?_) (by intro q; cases q)
    have test : ∀ {Q : Value → Shared → Prop} {E : Value → Shared → Prop}, Q c { s' with heap := g1 } → wpAny (model X.prog X.w) (X.A.mark (some (.ref a))) (eval (.Name x np) X.env) Q E { s' with heap := g1 } := fun {Q E} q => by
      have S1 := J1.suite eo1 d1 na (offL off) (offS off)
      obtain ⟨hg, hdbg, hm | ⟨hm, hv, hnn⟩⟩ := hc
      · exact ld_glob (X := X.suite a ((a, o1) :: (X.pn ++ pins))) S1 hg hm q hdbg
      · exact ld_blt (X := X.suite a ((a, o1) :: (X.pn ++ pins))) S1 hg hm hv q hnn hdbg
    refine test ((PySem.W.exm_one (M := model X.prog X.w) J1.kIn LT hm).here ?_)
    refine codeAny_handlers_suite_as (HandSPX.lands_againZ fl1 fun g2 fl2 up2 => ?_)
    obtain ⟨o2, w2, eo2, z2, d2⟩ := fl2.there
    have J2 : Inv X pins σ' H' { s' with heap := g2 } := J.landed nb fl2.1 ((up.trans up1).trans up2) os ag
    -- the context joins the pins
    obtain ⟨pl, cx, hpl⟩ : ∃ pl : List (Addr × Obj), HotY.Ctx2 (fun y oy => (y, oy) ∈ pl) w2[2]? ∧ ∀ p ∈ pl, g2.get? p.1 = some p.2 ∧ H' p.1 = none ∧ ∃ vy : Array Value, p.2.data = .fields vy := by
      rcases z2.2.2 w2 d2 with c0 | ⟨y, oy, vy, c0, ⟨by1, hy⟩, dy, cy⟩
      · exact ⟨[], .inl c0, fun _ m => nomatch m⟩
      · refine ⟨[(y, oy)], .inr ⟨y, oy, vy, c0, List.mem_singleton.mpr rfl, dy, cy⟩, fun p m => ?_⟩
        obtain rfl := List.mem_singleton.mp m
        exact ⟨fl2.1 y oy by1, hy, vy, dy⟩
    have J3 : Inv X (pl ++ pins) σ' H' { s' with heap := g2 } := J2.pins_of fun p m => by
      rcases List.mem_append.mp m with m | m
      · obtain ⟨q1, q2, vy, q3⟩ := hpl p m
        have o' := offF (h2 := g2) fl2.2.2.1 q1 q3
        exact ⟨q1, q2, offL o', offS o', fun v z => by rw [q3] at z; cases z⟩
      · exact J2.pin p (List.mem_append_right _ m)
    have S3 := J3.suite eo2 d2 na (offL off) (offS off)
    have wk : ∀ {σ6 : L2.St} {H6 : Hp} {s6 : Shared}, Inv (X.suite a ((a, o2) :: (X.pn ++ (pl ++ pins)))) [] σ6 H6 s6 → Inv X pins σ6 H6 s6 := fun S6 => (S6.unsuite ok).pins_of fun p m => (S6.unsuite ok).pin p (List.mem_append_right _ (List.mem_append_right _ m))
    refine store_ok (X := X.suite a ((a, o2) :: (X.pn ++ (pl ++ pins)))) (v := .ref a) S3 hN hi (.inl hln) rfl (fun s5 S5 => ?_) (.inr hln)
    refine wpAny_mono ((hsu a o2 cls d (X.pn ++ (pl ++ pins)) z2.1 z2.2.1 ⟨w2, d2, cx.imp fun y oy m _ => List.mem_append_right _ (List.mem_append_left _ m)⟩).run [] s5 _ H' _ S5 (hyes rfl a na)) (fun f s6 hq => ?_) fun _ _ z => False.elim z
    cases f with
    | next =>
      obtain ⟨σ6, H6, S6, q6⟩ := hq
      exact gone_ok (wk S6) hN hi hln fun s7 J7 => ⟨_, _, J7, q6⟩
    | brk =>
      obtain ⟨σ6, H6, S6, q6⟩ := hq
      exact gone_ok (wk S6) hN hi hln fun s7 J7 => ⟨_, _, J7, q6⟩
    | cont =>
      obtain ⟨σ6, H6, S6, q6⟩ := hq
      exact gone_ok (wk S6) hN hi hln fun s7 J7 => ⟨_, _, J7, q6⟩
    | ret u =>
      obtain ⟨v6, σ6, H6, S6, r6, q6⟩ := hq
      exact gone_ok (wk S6) hN hi hln fun s7 J7 => ⟨_, _, _, J7, r6, q6⟩
  · cases f with
    | next => exact hsp.elim fun σ6 y => y.elim fun H6 y => wpAny_execs_nil ⟨σ6, H6, y.1.ofTry ok, y.2⟩
    | brk => exact hsp.elim fun σ6 y => y.elim fun H6 y => ⟨σ6, H6, y.1.ofTry ok, y.2⟩
    | cont => exact hsp.elim fun σ6 y => y.elim fun H6 y => ⟨σ6, H6, y.1.ofTry ok, y.2⟩
    | ret u => exact hsp.elim fun v6 y => y.elim fun σ6 y => y.elim fun H6 y => ⟨v6, σ6, H6, y.1.ofTry ok, y.2⟩
end L2C
/-! ### a lambda without parameters handed to a def, its errors told with their context -/
def lamCxN (X : Cx) (A : Around) (outer : List Env) (s : Shared) (H : Hp) (E : XK) (scope : Scope) (f c : Addr) : Cx :=
  (LamX.lamCx X A outer s H E scope f c).wish fun e s' => wpAny (model X.prog X.w) (A.deeper (LamX.lamEnv X scope s.heap.objs.size f c)) (leaving (LamX.lamEnv X scope s.heap.objs.size f c) e) (fun _ s2 => L2C.CX X.prog X.w outer H s E e s2) (fun e2 s2 => L2C.CX X.prog X.w outer H s E e2 s2) s'
theorem pe_actN {X : Cx} {pins : List (Addr × Obj)} {σ : L2.St} {H : Hp} {s : Shared} {CXg : CXT} {Eg : XK} {Ng : List Str} {qg : Str} {sg : Scope} {g f c : Addr} {cdg pm ctv : Value} {params : Arguments} {body : Expr} {scope : Scope} {k i : Nat} {a : Str} {pn : List (Addr × Obj)} {xe : Value → Shared → Prop} {W : WX} {E : L2.St → XK} {tb : XK → TE} {p1 p2 : Pos}
    (I : Inv X pins σ H s) (L : LamX.LamS X.env.scope scope) (hf : s.heap.get? f = some (PySem.W.kla_obj "<lambda>" (X.env.qual ++ "<lambda>") params body scope (cloFrom X.env.cells scope.names []) pm c ctv)) (hfn : H f = none) (hfr : f ∉ frs X.stack)
    (hbind : bindArgs (PySem.W.kla_fn "<lambda>" (X.env.qual ++ "<lambda>") params body scope (cloFrom X.env.cells scope.names []) pm (.ref c) ctv) ⟨[], []⟩ = pure [])
    (tk : L2C.Takes ((cxOf CXg X.prog X.w X.K X.mg X.base Ng qg sg g cdg X.A X.stack s H Eg).tr pn xe) W) (hW : ∀ cls d σ2 H2, E σ2 cls d H2 → W cls d σ2 H2) (hr : Room (k + 1) (X.A.deeper (envOfC qg sg s.heap.objs.size g cdg)))
    (hbody : ∀ (A : Around) (outer : List Env) (s : Shared) (H : Hp) (E : XK), Room k (A.deeper (LamX.lamEnv X scope s.heap.objs.size f c)) → PE (lamCxN X A outer s H E scope f c) body (tb E))
    (hN : Ng[i]? = some a) (hv : Vis sg a) (hd : (a == ("__debug__" : Str)) = false := by decide) (hcd : (a == ("__classdict__" : Str)) = false := by decide) :
    PE ((cxOf CXg X.prog X.w X.K X.mg X.base Ng qg sg g cdg X.A X.stack s H Eg).tr pn xe) (.Call (.Name a p1) [] [] p2) (fun σZ HZ Q => σZ[i]? = some (some (.ref f)) ∧ HZ c = some (LamX.CodeO c (X.env.qual ++ "<lambda>")) ∧ tb (E σZ) σ HZ Q) := by
  refine ⟨fun pz sz σz Hz Q Iz ⟨hs, hc, y⟩ => ?_⟩
  refine wpAny_Call_Name_kw (thn ((pe_var (pos := p1) (i := i) hN hv hd hcd).run pz sz σz Hz (fun v H1 => v = .ref f ∧ H1 = Hz) Iz ⟨.ref f, hs, rfl, rfl⟩) fun u s1 ⟨v, H1, I1, r1, ev, eH⟩ => ?_)
  subst ev eH
  cases (show u = Value.ref f from r1)
  have of1 := I1.base.keep f _ hf hfn hfr (fun z => nomatch (show f ∈ ([] : List Addr) from z))
  refine PySem.W.callWith_F0 ⟨_, _, _, _, of1⟩ ?_
  obtain ⟨⟨oc, vs, t, hoc, hdc, hvc⟩, _, _⟩ := I1.hok c _ hc
  have run : codeAny (model X.prog X.w) (X.A.deeper (envOfC qg sg s.heap.objs.size g cdg)) (.call (.ref f) ⟨[], []⟩) (CR (L2C.CX X.prog X.w) (envOfC qg sg s.heap.objs.size g cdg :: X.stack) X.prog X.w H1 s1 Q (E σz)) s1 := by
    refine PySem.W.kla_callFunE hr.depth of1 rfl L.co L.gen rfl ⟨c, oc, vs, t, rfl, hoc, hdc, hvc⟩ ?_
    rw [hbind]
    refine wpAny_pure (wpAny_newFunctionEnv (fun y hy => (L.own y hy).2) (fun y hy => absurd hy (by simp)) (fun g1 hns hsb => ⟨I1.nolimit.fresh _ hsb, ?_⟩) L.kind)
    have kp : ∀ b o, s1.heap.get? b = some o → g1.get? b = some o := fun b o e => hsb.extBut b o (Nat.ne_of_lt (Heap.lt_size e)) (Heap.get?_push_of_some _ e)
    have J := LamX.lam_start2 (E := E σz) (f := f) (c' := c) (tk := s1.toks + ([] : List (Str × Value)).length) I L I1.env0 hr.hd I1.base hns kp
    refine PySem.W.kla_codeExpr (wpAny_mono ((hbody _ _ s1 H1 (E σz) (hr.deeper _)).run [] _ _ H1 Q (J.wish _) y) (fun v s3 ⟨w3, H3, J3, rv, q⟩ => ⟨w3, H3, J3.os, J3.bare, J3.base, J3.hok, rv, q⟩) fun e s3 z => z)
  refine wpAny_call (codeAny_mono run fun rs s2 hq => ?_)
  cases rs with
  | error e => exact tk e s2 (L2C.XE.of_call I1 (fun cls d H' h => hW cls d σz H' h) hq)
  | ok fl =>
    cases fl with
    | ret u => exact I1.after hq
    | next => exact False.elim hq
    | brk => exact False.elim hq
    | cont => exact False.elim hq
/-- the def that calls what it got; TT: what it makes of the lambda's reading -/
def GivesN (X : Cx) (Ng : List Str) (x : Str) (sg : Scope) (g : Addr) (cdg : Value) (bg : List Stmt) (a q : Str) (TT : (XK → Hp → VK → Prop) → Hp → VK → Prop) : Prop :=
  ∀ (k : Nat) (f c : Addr) (s : Shared) (H : Hp) (Q : VK) (tl : XK → Hp → VK → Prop), Room k (X.A.deeper (envOfC x sg s.heap.objs.size g cdg)) → 40 ≤ k →
    (∀ (W : WX) (pn : List (Addr × Obj)) (xe : Value → Shared → Prop) (E : L2.St → XK) (p1 p2 : Pos), L2C.Takes ((cxOf CX0 X.prog X.w X.K X.mg X.base Ng x sg g cdg X.A X.stack s H E0).tr pn xe) W → (∀ cls d σ2 H2, E σ2 cls d H2 → W cls d σ2 H2) →
      PE ((cxOf CX0 X.prog X.w X.K X.mg X.base Ng x sg g cdg X.A X.stack s H E0).tr pn xe) (.Call (.Name a p1) [] [] p2) (fun σZ HZ Q => σZ[0]? = some (some (.ref f)) ∧ HZ c = some (LamX.CodeO c q) ∧ tl (E σZ) HZ Q)) →
    H c = some (LamX.CodeO c q) → TT tl H Q →
    ∃ t, PSs (cxOf CX0 X.prog X.w X.K X.mg X.base Ng x sg g cdg X.A X.stack s H E0).nox bg t ∧ t { nx := fun _ H' => Q .non H', rt := Q } (L2.start Ng [.ref f]) H
theorem pe_lamN {X : Cx} {T : List (Addr × Str)} {TT : (XK → Hp → VK → Prop) → Hp → VK → Prop} {x a : Str} {g c P : Addr} {k : Nat} {pg : Arguments} {bg : List Stmt} {sg : Scope} {dV kV doc pm cdv ct oc : Value} {an od : Option Addr} {osl : Array (Option Value)} {Ng : List Str}
    {params : Arguments} {body : Expr} {scope : Scope} {t : XK → TE} {p lpos pos : Pos} (hg : Gl X x) (hm : X.mg x = some (.ref g)) (hk : PySem.W.keepIn X.K (.ref g) = true)
    (lk : X.K.lookup g = some ⟨oc, od, .func (PySem.W.fnOf x x pg bg sg dV kV doc pm an cdv ct), osl⟩) (hcg : PySem.W.codeIn X.K cdv x = true) (hb : Binds X.K (PySem.W.fnOf x x pg bg sg dV kV doc pm an cdv ct) [a] []) (Sg : FnScope Ng [a] sg) (hNg : Ng[0]? = some a) (hva : Vis sg a)
    (hG : GivesN X Ng x sg g cdv bg a (X.env.qual ++ "<lambda>") TT) (TB : LamX.TabB X.base X.mg c P) (hcode : X.env.code = .ref c) (hmT : (P, X.env.qual ++ "<lambda>") ∈ T) (hu : ∀ p ∈ T, p.1 = P → p.2 = X.env.qual ++ "<lambda>") (hr : Room (k + 2) X.A) (k40 : 40 ≤ k + 1) (L : LamX.LamS X.env.scope scope) (hdef : defaultsOf params X.env = ([], []))
    (hbind : ∀ (q : Str) (cl : List (Str × Addr)) (pm cv ctv : Value), bindArgs (PySem.W.kla_fn "<lambda>" q params body scope cl pm cv ctv) ⟨[], []⟩ = pure [])
    (hbody : ∀ (A : Around) (outer : List Env) (s : Shared) (H : Hp) (E : XK) (f c2 : Addr), Room k (A.deeper (LamX.lamEnv X scope s.heap.objs.size f c2)) → PE (lamCxN X A outer s H E scope f c2) body (t E))
    (hdb : (x == ("__debug__" : Str)) = false := by decide) (hd : (a == ("__debug__" : Str)) = false := by decide) (hcd : (a == ("__classdict__" : Str)) = false := by decide) :
    PE X (.Call (.Name x p) [.Lambda params body scope lpos] [] pos) (LamX.tLam T TT t) := by
  refine ⟨fun pins s σ H Q I ⟨hT, y⟩ => ?_⟩
  refine wpAny_Call_Name_kw (ld_glob I hg hm (PySem.W.callWith_K (h₀ := X.base) I.ok.mod.kin hk ?_ (by rfl) (by rfl)) hdb)
  show wpAny _ _ (spliced ((false, eval (.Lambda params body scope lpos) X.env) :: backTo pos (starEach [] X.env))) _ _ s
  refine Calls.spliced_cons (LamX.lam_make2 I TB hcode hmT hu hT hdef (L.has I.ok) fun f c2 pm2 ctv H1 s1 I1 eN T1 hf hfn hfr hco => Calls.spliced_nil ⟨I1.kIn, ?_⟩)
  have run : codeAny (model X.prog X.w) X.A (.call (.ref g) ⟨[.ref f], []⟩) (CR CX0 X.stack X.prog X.w H1 s1 Q E0) s1 := by
    refine LamX.run_ofS (N := Ng) (ps := [a]) (us := [.ref f]) (vs := [.ref f]) lk hcg Sg hr I1.env0 (hb s1 [.ref f] I1.kIn rfl) (.cons rfl .nil) rfl fun hr2 => ?_
    obtain ⟨t2, ht2, hq2⟩ := hG _ f c2 s1 H1 Q (fun E H' Q' => t E σ H' Q') hr2 k40 (fun W pn xe E p1 p2 tk hW => pe_actN (i := 0) I1 L hf hfn hfr (hbind _ _ _ _ _) tk hW hr2 (fun A outer s H E hr3 => hbody A outer s H E f c2 hr3) hNg hva hd hcd) hco (y H1 eN T1)
    exact ⟨t2, ht2.nox, hq2⟩
  refine wpAny_call (codeAny_mono run fun rs s2 hq => ?_)
  cases rs with
  | error e => exact (show False from hq).elim
  | ok fl =>
    cases fl with
    | ret u => exact I1.after hq
    | next => exact False.elim hq
    | brk => exact False.elim hq
    | cont => exact False.elim hq
/-! ### try: return ('value', ask()) / except TermError as e: the error's word and field -/
/-- a class that TermError names -/
structure Wd (K : PySem.W.Frag) (CT D : Addr) (dd : Option Addr) : Prop where
  exc : ExcC K D
  nod : dd = none
  mat : PySem.W.exmOne K (.ref D) (.ref CT) = some true
def spName (K : PySem.W.Frag) (CT : Addr) (word : Addr → Option Str) : Addr → Value → Option Addr → Sp := fun xh cls dd vs H Q _ => ∃ (D : Addr) (nm : Str), cls = .ref D ∧ Wd K CT D dd ∧ word D = some nm ∧ vs = [.ref xh] ∧ ∀ H', Same H H' → Q (.str nm) H'
def spField (word : Addr → Option Str) (fld : Addr → Option Addr → Hp → V → Prop) : Addr → Value → Option Addr → Sp := fun xh cls dd vs H Q _ => ∃ (D : Addr) (nm : Str) (v : V), cls = .ref D ∧ word D = some nm ∧ fld D dd H v ∧ vs = [.ref xh, .str nm] ∧ ∀ H', Same H H' → Q v H'
def tSuite (K : PySem.W.Frag) (CT : Addr) (word : Addr → Option Str) (fld : Addr → Option Addr → Hp → V → Prop) (a : Addr) (cls : Value) (d : Option Addr) : TS :=
  tSeq (tAsg (tCallG (spName K CT word) a cls d 1 (tCons (tVar 1) tNil)) (gName 2)) (tRet (tTup (tCons (tVar 2) (tCons (tCallG (spField word fld) a cls d 2 (tCons (tVar 1) (tCons (tVar 2) tNil))) tNil))))
def TTry (K : PySem.W.Frag) (CT : Addr) (word : Addr → Option Str) (fld : Addr → Option Addr → Hp → V → Prop) : (XK → Hp → VK → Prop) → Hp → VK → Prop := fun tl H Q =>
  ∀ f : Addr, tl (fun cls d H2 => wAs K (.ref CT) 1 (tSuite K CT word fld) (fun _ _ _ _ => False) { nx := fun _ H' => Q .non H', rt := Q } cls d [some (.ref f), none, none] H2) H
    (fun v H' => 2 ≤ sizeLine ∧ ∀ p, H' p = none → Q (.ref p) (upd H' p (.tup [.str ("value" : Str), v])))
theorem wTry {K : PySem.W.Frag} {CT : Addr} {word : Addr → Option Str} {fld : Addr → Option Addr → Hp → V → Prop} {Q : VK} {n : L2.St → Hp → Prop} {cls : Value} {dd : Option Addr} {f D : Addr} {nm : Str} {v : V} {H' : Hp}
    (hst : ∀ D dd H H' v, Same H H' → fld D dd H v → fld D dd H' v) (e : cls = .ref D) (hw : Wd K CT D dd) (ew : word D = some nm) (hf : fld D dd H' v) (h : ∀ (p : Addr) (H2 : Hp), Same H' H2 → H2 p = none → Q (.ref p) (upd H2 p (.tup [.str nm, v]))) :
    wAs K (.ref CT) 1 (tSuite K CT word fld) (fun _ _ _ _ => False) { nx := n, rt := Q } cls dd [some (.ref f), none, none] H' := by
  subst e
  refine ⟨true, hw.mat, fun _ a _ => ?_, fun z => nomatch z⟩
  refine ⟨_, rfl, rfl, D, nm, rfl, hw, ew, rfl, fun H1 k1 => ?_⟩
  refine ⟨_, rfl, _, rfl, _, rfl, rfl, D, nm, v, rfl, ew, hst _ _ _ _ _ k1 hf, rfl, fun H2 k2 => ⟨by show 2 ≤ sizeLine; decide, fun p hp => h p H2 (k1.trans k2) hp⟩⟩
theorem try_gives {X : Cx} {x q : Str} {sg : Scope} {g CT fN fF : Addr} {cdg : Value} {fdN fdF : FuncData} {word : Addr → Option Str} {fld : Addr → Option Addr → Hp → V → Prop} {j1 n1 n2 : Nat} {q1 q2 q3 q4 q5 q6 q7 q8 q9 p1 p2 p3 p4 p5 p6 p7 p8 p9 q10 q11 : Pos}
    (s0 : sg.names.lookup ("_law_ask" : Str) = some .local) (s1 : sg.names.lookup ("_law_e" : Str) = some .local) (s2 : sg.names.lookup ("_law_word" : Str) = some .local) (g1 : sg.names.lookup ("TermError" : Str) = some .globalImplicit) (g2 : sg.names.lookup ("_law_error_name" : Str) = some .globalImplicit) (g3 : sg.names.lookup ("_law_error_field" : Str) = some .globalImplicit)
    (mT : X.mg ("TermError" : Str) = some (.ref CT)) (mN : X.mg ("_law_error_name" : Str) = some (.ref fN)) (mF : X.mg ("_law_error_field" : Str) = some (.ref fF)) (kN : PySem.W.keepIn X.K (.ref fN) = true) (kF : PySem.W.keepIn X.K (.ref fF) = true) (bN : Binds X.K fdN [("_law_e" : Str)] []) (bF : Binds X.K fdF [("_law_e" : Str), "_law_word"] [])
    (GN : FnB X.prog X.w X.K X.mg X.base 3 fN fdN [("_law_e" : Str)] (spName X.K CT word)) (GF : FnB X.prog X.w X.K X.mg X.base 3 fF fdF [("_law_e" : Str), "_law_word"] (spField word fld)) :
    GivesN X [("_law_ask" : Str), "_law_e", "_law_word"] x sg g cdg [.Try [.Return (some (.Tuple [.Constant (.str ("value" : Str)) j1 p1, .Call (.Name ("_law_ask" : Str) p2) [] [] p3] n1 p4)) p5] [.ExceptHandler (some (.Name ("TermError" : Str) p6)) (some ("_law_e" : Str)) [.Assign [.Name ("_law_word" : Str) q1] (.Call (.Name ("_law_error_name" : Str) q2) [.Name ("_law_e" : Str) q3] [] q4) q5, .Return (some (.Tuple [.Name ("_law_word" : Str) q6, .Call (.Name ("_law_error_field" : Str) q7) [.Name ("_law_e" : Str) q8, .Name ("_law_word" : Str) q9] [] p7] n2 p8)) p9] q10] [] [] q11] ("_law_ask" : Str) q (TTry X.K CT word fld) := by
  intro k f c s H Q tl hr k40 act hc y
  have hr3 := hr.mono (show 3 ≤ k by omega)
  have nd : ([("_law_ask" : Str), "_law_e", "_law_word"] : List Str).Nodup := by decide +kernel
  refine ⟨_, pss_one (L2C.ps_try_as (i := 1) (c := .ref CT) (tb := fun W => tRet (tTup (tCons (tC (.str ("value" : Str))) (tCons (fun σZ HZ Q => σZ[0]? = some (some (.ref f)) ∧ HZ c = some (LamX.CodeO c q) ∧ tl (fun cls d H2 => W cls d σZ H2) HZ Q) tNil))))
    (ts := tSuite X.K CT word fld) rfl rfl nd rfl s1 ⟨g1, by decide +kernel, .inl mT⟩
    (fun W pn xe tk _ => pss_one (ps_ret (pe_tup (pa_cons pe_str (pa_cons (act W pn xe (fun σ2 cls d H2 => W cls d σ2 H2) _ _ tk (fun _ _ _ _ h => h)) pa_nil)))))
    (fun a oe cls d pn hz1 hz2 hf => pss_cons (ps_set (i := 2) nd rfl (.inl s2) (by exact pe_callG (X := Cx.suite (cxOf CX0 X.prog X.w X.K X.mg X.base [("_law_ask" : Str), "_law_e", "_law_word"] x sg g cdg X.A X.stack s H E0).nox a ((a, oe) :: pn)) GN ⟨hr3.dp, hr3.un⟩ (hotG_suite2 hf) hz1 hz2 g2 mN kN bN (pa_cons (pe_var (i := 1) rfl (.inl s1)) pa_nil)))
      (pss_one (ps_ret (pe_tup (pa_cons (pe_var (i := 2) rfl (.inl s2)) (pa_cons (by exact pe_callG (X := Cx.suite (cxOf CX0 X.prog X.w X.K X.mg X.base [("_law_ask" : Str), "_law_e", "_law_word"] x sg g cdg X.A X.stack s H E0).nox a ((a, oe) :: pn)) GF ⟨hr3.dp, hr3.un⟩ (hotG_suite2 hf) hz1 hz2 g3 mF kF bF (pa_cons (pe_var (i := 1) rfl (.inl s1)) (pa_cons (pe_var (i := 2) rfl (.inl s2)) pa_nil))) pa_nil))))))), ?_⟩
  exact ⟨rfl, hc, y f⟩
section OPLP
open PySem PySem.Spec PyProof.Rows
/-! ### a lambda of two parameters handed to a def that calls it -/
/-- the object at a is o -/
def PinO (a : Addr) (o : Obj) : HO := .ext fun h => h.get? a = some o
/-- all but what is told by a word stays -/
def ExtE (H H' : Hp) : Prop := ∀ b o, H b = some o → (∀ φ, o ≠ .ext φ) → H' b = some o
theorem ExtE.same {H H' : Hp} (s : Same H H') : ExtE H H' := fun b o e _ => s b o e
theorem ExtE.trans {H H1 H2 : Hp} (a : ExtE H H1) (b : ExtE H1 H2) : ExtE H H2 := fun c o e n => b c o (a c o e n) n
theorem ExtE.tp {H H' : Hp} (e : ExtE H H') : Tp H H' := fun b xs h => by
  rcases h with h | ⟨o, h⟩
  · exact .inl (e _ _ h fun φ z => by cases z)
  · exact .inr ⟨o, e _ _ h fun φ z => by cases z⟩
def dropH (as : List Addr) (H : Hp) : Hp := fun b => if b ∈ as then none else H b
def pinH (as : List Addr) (h : Heap) (H : Hp) : Hp := fun b => if b ∈ as then (h.get? b).map (PinO b) else H b
def mixH (as : List Addr) (Hi Ho : Hp) : Hp := fun b => if b ∈ as then Hi b else Ho b
theorem dropH_in {as : List Addr} {H : Hp} {b : Addr} (h : b ∈ as) : dropH as H b = none := if_pos h
theorem dropH_out {as : List Addr} {H : Hp} {b : Addr} (h : b ∉ as) : dropH as H b = H b := if_neg h
theorem dropH_none {as : List Addr} {H : Hp} {b : Addr} (h : H b = none) : dropH as H b = none := by
  unfold dropH
  split
  · rfl
  · exact h
theorem pinH_in {as : List Addr} {h : Heap} {H : Hp} {b : Addr} {o : Obj} (hb : b ∈ as) (e : h.get? b = some o) : pinH as h H b = some (PinO b o) := by
  unfold pinH
  rw [if_pos hb, e]
  rfl
theorem pinH_out {as : List Addr} {h : Heap} {H : Hp} {b : Addr} (hb : b ∉ as) : pinH as h H b = H b := if_neg hb
theorem hok_drop {P : Program} {w : World} {H : Hp} {h : Heap} {as : List Addr} (x : HOk P w H h) (hx : ∀ b ∈ as, ∀ u, H b = some u → ∃ φ, u = .ext φ) : HOk P w (dropH as H) h := fun a o e => by
  have nn : ∀ b u, H b = some u → (∀ φ, u ≠ .ext φ) → b ∉ as := fun b u q n z => by
    obtain ⟨φ, e⟩ := hx b z u q
    exact n φ e
  by_cases ha : a ∈ as
  · rw [dropH_in ha] at e
    cases e
  · rw [dropH_out ha] at e
    refine (x a o e).stay (fun b u _ q => q) (fun b q => ?_) (fun b xs q => ?_)
    · rw [dropH_out (nn b _ q fun φ z => by cases z)]
      exact q
    · rw [dropH_out (nn b _ q fun φ z => by cases z)]
      exact q
theorem hok_pin {P : Program} {w : World} {H : Hp} {h : Heap} {as : List Addr} (x : HOk P w H h) (hn : ∀ b ∈ as, H b = none) (ho : ∀ b ∈ as, ∃ o, h.get? b = some o) : HOk P w (pinH as h H) h := fun a o e => by
  have nn : ∀ b u, H b = some u → b ∉ as := fun b u q z => by
    rw [hn b z] at q
    cases q
  by_cases ha : a ∈ as
  · obtain ⟨oo, eo⟩ := ho a ha
    rw [pinH_in ha eo] at e
    cases e
    exact ⟨eo, ⟨oo, eo⟩, fun h1 h2 z st => st _ z⟩
  · rw [pinH_out ha] at e
    refine (x a o e).stay (fun b u _ q => q) (fun b q => ?_) (fun b xs q => ?_)
    · rw [pinH_out (nn b _ q)]
      exact q
    · rw [pinH_out (nn b _ q)]
      exact q
/-- a lambda's words -/
structure LF where
  qual : Str
  params : Arguments
  body : Expr
  scope : Scope
  cl : List (Str × Addr)
  c : Addr
def LamO (f : Addr) (L : LF) : HO := .ext fun h => ∃ pm ctv : Value, h.get? f = some (PySem.W.kla_obj "<lambda>" L.qual L.params L.body L.scope L.cl pm L.c ctv)
theorem lamO_ne {f : Addr} {L : LF} (ps : Array Value) : LamO f L ≠ .tbl ps := fun z => by
  unfold LamO at z
  cases z
abbrev LF.nf (L : LF) : NdefX.NF := ⟨"<lambda>", L.qual, L.params, [], L.scope, L.cl, L.c⟩
/-- at f stands a function that gives op a b for any a, b below N, and writes nothing -/
def LamP (P : Program) (w : World) (K : PySem.W.Frag) (mg : Str → Option Value) (base : Heap) (k : Nat) (f : Addr) (N : Nat) (op : Nat → Nat → Nat) (H : Hp) : Prop :=
  ∃ (pn : List (Addr × HO)) (J : Hp → Prop), (∀ H H', ExtE H H' → J H → J H') ∧ J H ∧ (∀ p ∈ pn, H p.1 = some p.2) ∧ (∀ (s : Shared) (H' : Hp), HOk P w H' s.heap → (∀ p ∈ pn, H' p.1 = some p.2) → PySem.W.FnAt f s.heap) ∧
  ∀ (A : Around) (outer : List Env) (s : Shared) (H' : Hp) (us : List Value) (Q : VK) (a b : Nat), Room k A → Env0 P w K mg base A outer s H' → (∀ p ∈ pn, H' p.1 = some p.2) → J H' → a < N → b < N → Vals [.int (a : Int), .int (b : Int)] us → (∀ H'', Same H' H'' → Q (.int (op a b : Nat)) H'') →
    codeAny (model P w) A (.call (.ref f) ⟨us, []⟩) (CR CX0 outer P w H' s Q E0) s
theorem LamP.same {P : Program} {w : World} {K : PySem.W.Frag} {mg : Str → Option Value} {base : Heap} {k : Nat} {f : Addr} {N : Nat} {op : Nat → Nat → Nat} {H H' : Hp} (h : LamP P w K mg base k f N op H) (s : Same H H') : LamP P w K mg base k f N op H' := by
  obtain ⟨pn, J, h1, h2, h3, h4, h5⟩ := h
  exact ⟨pn, J, h1, h1 _ _ (ExtE.same s) h2, fun p hp => s _ _ (h3 p hp), h4, h5⟩
/-- x(a, b), x a name that holds such a function -/
def tLamC (P : Program) (w : World) (K : PySem.W.Frag) (mg : Str → Option Value) (base : Heap) (k i : Nat) (t : L2.TA) : TE := fun σ H Q => ∃ (f : Addr) (N : Nat) (op : Nat → Nat → Nat), σ[i]? = some (some (.ref f)) ∧ LamP P w K mg base k f N op H ∧
  t σ H fun vs H1 => ∃ a b : Nat, vs = [.int (a : Int), .int (b : Int)] ∧ a < N ∧ b < N ∧ LamP P w K mg base k f N op H1 ∧ ∀ H2, Same H1 H2 → Q (.int (op a b : Nat)) H2
theorem pe_lamC {X : Cx} {k j i : Nat} {x : Str} {e : Expr} {es : List Expr} {t : L2.TA} {p pos : Pos} (hr : Room j X.A) (hk : k ≤ j) (hN : X.N[i]? = some x) (hv : Vis X.env.scope x) (ha : PA X (e :: es) t)
    (hd : (x == ("__debug__" : Str)) = false := by decide) (hcd : (x == ("__classdict__" : Str)) = false := by decide)
    (he : starEach (e :: es) X.env = (false, eval e X.env) :: starEach es X.env := by rfl) (hpl : (backTo pos (starEach es X.env)).any (·.1) = false := by rfl) :
    PE X (.Call (.Name x p) (e :: es) [] pos) (tLamC X.prog X.w X.K X.mg X.base k i t) := by
  refine ⟨fun pins s σ H Q I h => ?_⟩
  obtain ⟨f, N, op, hs, hf, ht⟩ := h
  refine wpAny_Call_Name_kw (thn ((pe_var (pos := p) hN hv hd hcd).run pins s σ H (fun v H1 => v = .ref f ∧ H1 = H) I ⟨.ref f, hs, rfl, rfl⟩) fun u s1 ⟨v, H1, I1, r1, q1⟩ => ?_)
  obtain ⟨ev, eH⟩ := q1
  subst ev
  rw [eH] at I1
  obtain rfl : u = Value.ref f := r1
  have at1 : PySem.W.FnAt f s1.heap := by
    obtain ⟨pn, J, _, _, h3, h4, _⟩ := hf
    exact h4 s1 H I1.hok h3
  refine PySem.W.callWith_F (first := []) at1 (thn (ha.run pos pins s1 σ H _ I1 ht) fun us s2 ⟨vs, H2, I2, r, a, b, ev, la, lb, hL, q⟩ => ?_) he hpl
  subst ev
  obtain ⟨pn, J, h1, h2, h3, h4, h5⟩ := hL
  refine ⟨h4 s2 H2 I2.hok h3, ?_⟩
  show wpAny _ _ (call (.ref f) us) _ _ _
  refine wpAny_call (codeAny_mono (h5 X.A X.stack s2 H2 us Q a b (hr.mono hk) I2.env0 h3 h2 la lb r q) fun r s' hq => ?_)
  cases r with
  | error e => exact (show False from hq).elim
  | ok fl =>
    cases fl with
    | ret u => exact I2.after hq
    | next => exact False.elim hq
    | brk => exact False.elim hq
    | cont => exact False.elim hq
/-! ### the lambda is made -/
def tLamV (T : List (Addr × Str)) (mk : Addr → LF) : TE := fun σ H Q => LamX.Tabs T H ∧ ∀ (f c' : Addr) (H1 : Hp), LamX.ExtN H H1 → LamX.Tabs T H1 → H f = none → H1 f = some (LamO f (mk c')) → H1 c' = some (LamX.CodeO c' (mk c').qual) → Q (.ref f) H1
theorem pe_lamV {X : Cx} {T : List (Addr × Str)} {c P : Addr} {params : Arguments} {body : Expr} {scope : Scope} {pos : Pos} (TB : LamX.TabB X.base X.mg c P) (hcode : X.env.code = .ref c) (hm : (P, X.env.qual ++ "<lambda>") ∈ T) (hu : ∀ p ∈ T, p.1 = P → p.2 = X.env.qual ++ "<lambda>") (hdef : defaultsOf params X.env = ([], []))
    (hfree : ∀ y ∈ scope.names, y.2 = .free → X.env.scope.names.lookup y.1 = some .cell ∨ X.env.scope.names.lookup y.1 = some .free) :
    PE X (.Lambda params body scope pos) (tLamV T fun c' => ⟨X.env.qual ++ "<lambda>", params, body, scope, cloFrom X.env.cells scope.names [], c'⟩) := by
  refine ⟨fun pins s σ H Q I ⟨hT, h⟩ => PySem.W.kla_eval hdef ?_⟩
  have hfr : ∀ y ∈ scope.names, y.2 = .free → ∃ c, X.env.cells.lookup y.1 = some c := fun y hy e => (hfree y hy e).elim (fun z => I.ok.has _ (.inl z)) fun z => I.ok.has _ (.inr z)
  obtain ⟨ps, tP, tOk, tAll⟩ := hT _ hm
  have atP : s.heap.get? P = some { cls := .none, data := .fields ps } := I.hok P _ tP
  have laidF : ∀ {H1 : Hp} {s1 : Shared} {pm ctv : Value} {c' : Addr} {tk : Nat}, Inv X pins σ H1 s1 → Inv X pins σ (upd H1 s1.heap.objs.size (LamO s1.heap.objs.size ⟨X.env.qual ++ "<lambda>", params, body, scope, cloFrom X.env.cells scope.names [], c'⟩)) { s1 with heap := s1.heap.push (PySem.W.kla_obj "<lambda>" (X.env.qual ++ "<lambda>") params body scope (cloFrom X.env.cells scope.names []) pm c' ctv), toks := tk } := fun {H1 s1 pm ctv c' tk} J =>
    J.laid (fun b u e => Heap.get?_push_of_some _ e) (Nat.le_refl _) ⟨⟨pm, ctv, Heap.get?_push_size _ rfl⟩, ⟨_, Heap.get?_push_size _ rfl⟩, fun h1 h2 ⟨pm, ctv, z⟩ st => ⟨pm, ctv, st _ z⟩⟩
  rcases hc : codeAmong pos ps.toList with _ | cv
  · refine PySem.W.kla_makeFunction (mg := X.mg) (c := c) (P := P) (ps := ps) (closure_ok hfr) I.ok.glob (I.mod.glob.keeps I.bk) hcode (TB.code.keeps I.bk) atP tOk hc TB.gP (TB.bm.keeps I.bk) fun c' ctv h' tk hx hge hlt hrec htb => ?_
    obtain ⟨c2, oc, vs, t, e2, hoc, hd, hv⟩ := hrec
    cases e2
    have nC : H c' = none := I.hok.fresh hge
    have nF : H h'.objs.size = none := I.hok.fresh (Nat.le_trans hge (Nat.le_of_lt hlt))
    have I1 := LamX.inv_table (q := X.env.qual ++ "<lambda>") (t' := tk) (more := #[rawInt pos.line, rawInt pos.col, .ref c']) (h' := h') I tP (fun b o hb e => hx b o hb e) htb hge ⟨oc, vs, t, hoc, hd, hv⟩
    have nF1 := I1.hok.fresh (Nat.le_refl _)
    have I2 := laidF (pm := (X.mg "__name__").getD .none) (ctv := ctv) (c' := c') (tk := tk) I1
    have ne1 : c' ≠ h'.objs.size := Nat.ne_of_lt hlt
    have neP : P ≠ c' := ne_of_none tP nC
    have nePF : P ≠ h'.objs.size := ne_of_none tP nF
    have hE : LamX.ExtN H (upd (upd (upd H P (.tbl (ps ++ #[rawInt pos.line, rawInt pos.col, .ref c']))) c' (LamX.CodeO c' (X.env.qual ++ "<lambda>"))) h'.objs.size (LamO h'.objs.size ⟨X.env.qual ++ "<lambda>", params, body, scope, cloFrom X.env.cells scope.names [], c'⟩)) := fun b o e n => by
      have nb : b ≠ P := fun z => n ps (Option.some.inj (e.symm.trans (by rw [z]; exact tP)))
      rw [upd_ne (ne_of_none e nF), upd_ne (ne_of_none e nC), upd_ne nb]
      exact e
    have eL : (ps ++ #[rawInt pos.line, rawInt pos.col, .ref c']).toList = ps.toList ++ [rawInt pos.line, rawInt pos.col, .ref c'] := by simp
    refine h h'.objs.size c' _ hE (fun p hp => ?_) nF upd_same (by rw [upd_ne ne1, upd_same]) |> fun q => ⟨.ref h'.objs.size, _, I2, rfl, q⟩
    by_cases hb : p.1 = P
    · refine ⟨_, by rw [hb, upd_ne nePF, upd_ne neP, upd_same], by rw [eL]; exact PySem.TriplesOk_snoc _ _ _ _ tOk, fun p' cv hcv => ?_⟩
      rw [eL] at hcv
      rw [hu p hp hb]
      rcases LamX.among_app _ tOk hcv with z | z
      · obtain ⟨c0, e1, e2⟩ := tAll p' cv z
        exact ⟨c0, e1, hE _ _ e2 LamX.codeO_ne⟩
      · exact ⟨c', z, by rw [upd_ne ne1, upd_same]⟩
    · obtain ⟨ps', a1, a2, a3⟩ := hT p hp
      refine ⟨ps', by rw [upd_ne (ne_of_none a1 nF), upd_ne (ne_of_none a1 nC), upd_ne hb]; exact a1, a2, fun p' cv hcv => ?_⟩
      obtain ⟨c0, e1, e2⟩ := a3 p' cv hcv
      exact ⟨c0, e1, hE _ _ e2 LamX.codeO_ne⟩
  · obtain ⟨c', e, hco⟩ := tAll pos cv hc
    subst e
    refine PySem.W.kla_makeFunctionHit (mg := X.mg) (c := c) (P := P) (ps := ps) (closure_ok hfr) I.ok.glob (I.mod.glob.keeps I.bk) hcode (TB.code.keeps I.bk) atP tOk hc (TB.bm.keeps I.bk) fun ctv h' tk hx hsz => ?_
    have I1 : Inv X pins σ H { s with heap := h', toks := tk } := I.kept hx
    have nF : H h'.objs.size = none := I1.hok.fresh (Nat.le_refl _)
    have I2 := laidF (pm := (X.mg "__name__").getD .none) (ctv := ctv) (c' := c') (tk := tk) I1
    have sm : Same H (upd H h'.objs.size (LamO h'.objs.size ⟨X.env.qual ++ "<lambda>", params, body, scope, cloFrom X.env.cells scope.names [], c'⟩)) := Same.new nF _
    exact ⟨.ref h'.objs.size, _, I2, rfl, h h'.objs.size c' _ (LamX.ExtN.of sm) (hT.ext sm) nF upd_same (sm _ _ hco)⟩
/-- the cells that were captured -/
def capA (cl : List (Str × Addr)) : List Addr := (cl.map (·.1)).filterMap fun y => cl.lookup y
theorem capA_of {cl : List (Str × Addr)} {y : Str} {c : Addr} (e : cl.lookup y = some c) : c ∈ capA cl := List.mem_filterMap.mpr ⟨y, List.mem_map.mpr ⟨(y, c), PySem.mem_of_lookup e, rfl⟩, e⟩
theorem capA_in {cl : List (Str × Addr)} {c : Addr} (h : c ∈ capA cl) : ∃ y, cl.lookup y = some c := by
  obtain ⟨y, _, e⟩ := List.mem_filterMap.mp h
  exact ⟨y, e⟩
/-! ### the def called with it: the cells that it captured stand pinned meanwhile -/
def tCallLam (P : Program) (w : World) (K : PySem.W.Frag) (mg : Str → Option Value) (base : Heap) (k : Nat) (mk : Addr → LF) (sp : Sp) (Nl : List Str) (js : List Nat) (t : L2.TA) (tb : TE) : TE := fun σ H Q => t σ H fun vs H1 => ∃ (f c' : Addr), H1 f = some (LamO f (mk c')) ∧ H1 c' = some (LamX.CodeO c' (mk c').qual) ∧
  ∃ (N : Nat) (op : Nat → Nat → Nat) (J : Hp → Prop), (∀ H H', ExtE H H' → J H → J H') ∧ J H1 ∧
    (∀ (a b : Nat) (H' : Hp), a < N → b < N → J H' → tb (NdefX.startF Nl [.int (a : Int), .int (b : Int)] (js.map (NdefX.slotAt σ))) H' (fun u H'' => u = .int (op a b : Nat) ∧ Same H' H'')) ∧
    ∀ H2, Same H1 H2 → LamP P w K mg base k f N op H2 → sp vs H2 (fun u H3 => Same H2 H3 ∧ ∀ H4, Same H1 H4 → ExtE H3 H4 → Q u H4) E0
theorem lam_run {P : Program} {w : World} {K : PySem.W.Frag} {mg : Str → Option Value} {base : Heap} {Nl ps fr : List Str} {L : LF} {f : Addr} {k : Nat} {ws : List (Option V)} {s1 : Shared} {H1 : Hp} {tb : TE} {N : Nat} {op : Nat → Nat → Nat} {J : Hp → Prop}
    (S : NdefX.NScope Nl ps fr L.scope) (hps : ps.length = 2) (hbind : ∀ (pm ctv : Value) (us : List Value), us.length = ps.length → bindArgs (PySem.W.kla_fn "<lambda>" L.qual L.params L.body L.scope L.cl pm (.ref L.c) ctv) ⟨us, []⟩ = pure (ps.zip us))
    (C1 : NdefX.CellsAt L.cl fr ws s1.heap H1) (hf : H1 f = some (LamO f L)) (hc : H1 L.c = some (LamX.CodeO L.c L.qual)) (st : ∀ H H', ExtE H H' → J H → J H') (hJ : J H1)
    (hb : ∀ (a b : Nat) (H' : Hp), a < N → b < N → J H' → tb (NdefX.startF Nl [.int (a : Int), .int (b : Int)] ws) H' (fun u H'' => u = .int (op a b : Nat) ∧ Same H' H''))
    (hbody : ∀ (A : Around) (outer : List Env) (s : Shared) (H : Hp), Room k (A.deeper (NdefX.envF L.nf f s.heap.objs.size)) → PE (NdefX.ncx CX0 P w K mg base Nl L.nf f A outer s H E0) L.body tb) :
    LamP P w K mg base (k + 1) f N op (pinH (capA L.cl) s1.heap H1) := by
  have hin : ∀ b ∈ capA L.cl, H1 b = none ∧ ∃ o, s1.heap.get? b = some o := fun b hb => by
    obtain ⟨y, e⟩ := capA_in hb
    obtain ⟨h1, v, o, h2, _⟩ := C1.all y b e
    exact ⟨h1, o, h2⟩
  have nin : ∀ b o, H1 b = some o → b ∉ capA L.cl := fun b o e z => by
    rw [(hin b z).1] at e
    cases e
  refine ⟨(f, LamO f L) :: (L.c, LamX.CodeO L.c L.qual) :: (capA L.cl).filterMap (fun b => (s1.heap.get? b).map fun o => (b, PinO b o)), J, st, st _ _ (ExtE.same fun b o e => ?_) hJ, fun p hp => ?_, fun s H' hok hp => ?_, ?_⟩
  · rw [pinH_out (nin b o e)]
    exact e
  · rcases List.mem_cons.mp hp with rfl | hp
    · show pinH _ _ _ f = _
      rw [pinH_out (nin _ _ hf)]
      exact hf
    rcases List.mem_cons.mp hp with rfl | hp
    · show pinH _ _ _ L.c = _
      rw [pinH_out (nin _ _ hc)]
      exact hc
    obtain ⟨b, hb, e⟩ := List.mem_filterMap.mp hp
    obtain ⟨o, ho⟩ := (hin b hb).2
    rw [ho] at e
    cases e
    exact pinH_in hb ho
  · obtain ⟨⟨pm, ctv, e⟩, _⟩ := hok f _ (hp _ List.mem_cons_self)
    exact ⟨_, _, _, _, e⟩
  intro A outer s H' us Q a b hr e0 hp hJ' la lb r q
  have pf : H' f = some (LamO f L) := hp _ List.mem_cons_self
  have pc : H' L.c = some (LamX.CodeO L.c L.qual) := hp _ (List.mem_cons_of_mem _ List.mem_cons_self)
  have pcell : ∀ b ∈ capA L.cl, ∃ o, s1.heap.get? b = some o ∧ H' b = some (PinO b o) ∧ s.heap.get? b = some o := fun b hb => by
    obtain ⟨o, ho⟩ := (hin b hb).2
    have e : H' b = some (PinO b o) := hp (b, PinO b o) (List.mem_cons_of_mem _ (List.mem_cons_of_mem _ (List.mem_filterMap.mpr ⟨b, hb, by rw [ho]; rfl⟩)))
    obtain ⟨z, _⟩ := e0.hok b _ e
    exact ⟨o, ho, e, z⟩
  have e0' : Env0 P w K mg base A outer s (dropH (capA L.cl) H') := ⟨e0.frames, e0.mod, fun b o e => ⟨(e0.bs b o e).1, dropH_none (e0.bs b o e).2⟩, e0.bsz, e0.funs, fun b hb => dropH_none (e0.frf b hb), hok_drop e0.hok fun b hb u eu => by
    obtain ⟨o, _, e, _⟩ := pcell b hb
    rw [e] at eu
    cases eu
    exact ⟨_, rfl⟩, e0.bare⟩
  have C0 : NdefX.CellsAt L.cl fr ws s.heap (dropH (capA L.cl) H') := by
    have keep : ∀ y c, L.cl.lookup y = some c → ∀ v, s1.heap.IsCell c v → s.heap.IsCell c v := fun y c e v ⟨o, ho, hd⟩ => by
      obtain ⟨o', h1, _, h2⟩ := pcell c (capA_of e)
      rw [ho] at h1
      cases h1
      exact ⟨o, h2, hd⟩
    refine ⟨C1.len, fun y c e => ⟨dropH_in (capA_of e), ?_⟩, C1.inj, fun i y e => ?_⟩
    · obtain ⟨v, z⟩ := (C1.all y c e).2
      exact ⟨v, keep y c e v z⟩
    · obtain ⟨c, hc, hv⟩ := C1.has i y e
      refine ⟨c, hc, fun v ev => ?_⟩
      obtain ⟨u, ru, z⟩ := hv v ev
      exact ⟨u, ru, keep y c hc _ z⟩
  obtain ⟨⟨pm, ctv, ho⟩, _⟩ := e0.hok f _ pf
  have lim : s.heap.NoLimit := e0.mod.nolimit.keeps fun b o e => (e0.bs b o e).1
  have hl : ([V.int (a : Int), V.int (b : Int)] : List V).length = ps.length := hps.symm
  refine PySem.W.kla_callFunE hr.depth ho rfl S.co S.gen rfl (NdefX.codeO_at e0.hok pc) ?_
  rw [hbind pm ctv us (by rw [← r.length]; exact hl)]
  refine wpAny_pure (wpAny_newFunctionEnv S.nocell (fun ⟨n, _⟩ hy => S.par n (List.of_mem_zip hy).1) (fun h₁ hns hsb => ⟨lim.fresh _ hsb, ?_⟩) S.kind)
  show codeAny _ _ (.expr L.body (NdefX.envF L.nf f s.heap.objs.size)) _ _
  have kp : ∀ b o, s.heap.get? b = some o → h₁.get? b = some o := fun b o e => hsb.extBut b o (Nat.ne_of_lt (Heap.lt_size e)) (Heap.get?_push_of_some _ e)
  have I := NdefX.inv_startN (CX := CX0) (E := E0) (F := L.nf) (f := f) (tk := s.toks + (ps.zip us).length) S hr.hd e0' hl r C0 hns kp
  have hxE : ExtE H' (dropH (capA L.cl) H') := fun b o e n => by
    rw [dropH_out fun z => ?_]
    · exact e
    · obtain ⟨o', _, e', _⟩ := pcell b z
      rw [e'] at e
      cases e
      exact n _ rfl
  refine PySem.W.kla_codeExpr (wpAny_mono ((hbody A outer s _ (hr.deeper _)).run [] _ _ _ _ I (hb a b _ la lb (st _ _ hxE hJ'))) (fun v s3 ⟨w3, H3, J3, rv, ew, sm⟩ => ?_) fun e s3 z => z)
  have un : Un (frs outer) [] (dropH (capA L.cl) H') H3 s.heap s3.heap := J3.base
  subst ew
  have gone : ∀ b ∈ capA L.cl, H3 b = none := fun b hb => by
    obtain ⟨o, _, _, z⟩ := pcell b hb
    exact un.free b o z (dropH_in hb) (by simp)
  have back : ∀ b, b ∉ capA L.cl → mixH (capA L.cl) H' H3 b = H3 b := fun b hb => if_neg hb
  have inn : ∀ b, b ∈ capA L.cl → mixH (capA L.cl) H' H3 b = H' b := fun b hb => if_pos hb
  refine ⟨_, mixH (capA L.cl) H' H3, J3.os, J3.bare, ⟨fun b o e n nf nx => ?_, fun b o e n nf nx => ?_, fun b o e n nx => ?_, un.there, fun b xs e => ?_, fun b o u e => ?_, fun b qs e => ?_⟩, fun b u e => ?_, rv, q _ fun b o e => ?_⟩
  · exact un.keep b o e (dropH_none n) nf nx
  · exact un.slot b o e (dropH_none n) nf nx
  · by_cases hb : b ∈ capA L.cl
    · rw [inn b hb]
      exact n
    · rw [back b hb]
      exact un.free b o e (dropH_none n) nx
  · have hb : b ∉ capA L.cl := fun z => by
      obtain ⟨o', _, e', _⟩ := pcell b z
      rw [e'] at e
      cases e
    rw [back b hb]
    exact un.tups b xs (by rw [dropH_out hb]; exact e)
  · have hb : b ∉ capA L.cl := fun z => by
      obtain ⟨o', _, e', _⟩ := pcell b z
      rw [e'] at e
      cases e
    rw [back b hb]
    exact un.frzs b o u (by rw [dropH_out hb]; exact e)
  · have hb : b ∉ capA L.cl := fun z => by
      obtain ⟨o', _, e', _⟩ := pcell b z
      rw [e'] at e
      cases e
    rw [back b hb]
    exact un.tbls b qs (by rw [dropH_out hb]; exact e)
  · by_cases hb : b ∈ capA L.cl
    · rw [inn b hb] at e
      obtain ⟨o, _, e', z⟩ := pcell b hb
      rw [e'] at e
      cases e
      have nfr : b ∉ frs outer := fun y => by
        rw [e0.frf b y] at e'
        cases e'
      have z3 := un.keep b o z (dropH_in hb) nfr (by simp)
      exact ⟨z3, ⟨o, z3⟩, fun h1 h2 y st => st _ y⟩
    · rw [back b hb] at e
      refine (J3.hok b u e).stay (fun c v _ y => y) (fun c y => ?_) (fun c xs y => ?_)
      · rw [back c fun z => by rw [gone c z] at y; cases y]
        exact y
      · rw [back c fun z => by rw [gone c z] at y; cases y]
        exact y
  · by_cases hb : b ∈ capA L.cl
    · rw [inn b hb]
      exact e
    · rw [back b hb]
      exact sm b o (by rw [dropH_out hb]; exact e)
theorem pe_callLam {X : Cx} {g : Addr} {kg kl : Nat} {gd : FuncData} {psg psl fr Nl : List Str} {js : List Nat} {sp : Sp} {x : Str} {e1 : Expr} {t : L2.TA} {tb : TE} {params : Arguments} {body : Expr} {scope : Scope} {p pos lp : Pos}
    (G : FnOk X.prog X.w X.K X.mg X.base CX0 kg g gd psg sp) (hr : Room kg X.A) (hg : Gl X x) (hm : X.mg x = some (.ref g)) (hk : PySem.W.keepIn X.K (.ref g) = true) (hb : Binds X.K gd psg []) (S : NdefX.NScope Nl psl fr scope) (hps : psl.length = 2) (hdf : NdefX.ndefB X.env.scope scope fr = true) (hjs : js.map (fun j => X.N[j]?) = fr.map some) (hfn : ∀ y, X.fn y = true)
    (hbind : ∀ (q : Str) (cl : List (Str × Addr)) (pm cv ctv : Value) (us : List Value), us.length = psl.length → bindArgs (PySem.W.kla_fn "<lambda>" q params body scope cl pm cv ctv) ⟨us, []⟩ = pure (psl.zip us))
    (hbody : ∀ (A : Around) (outer : List Env) (s : Shared) (H : Hp) (f : Addr) (cl : List (Str × Addr)) (c' : Addr), Room kl (A.deeper (NdefX.envF (LF.nf ⟨X.env.qual ++ "<lambda>", params, body, scope, cl, c'⟩) f s.heap.objs.size)) → PE (NdefX.ncx CX0 X.prog X.w X.K X.mg X.base Nl (LF.nf ⟨X.env.qual ++ "<lambda>", params, body, scope, cl, c'⟩) f A outer s H E0) body tb) (ha : PA X [e1, .Lambda params body scope lp] t)
    (hdb : (x == ("__debug__" : Str)) = false := by decide) (he : starEach [e1, .Lambda params body scope lp] X.env = (false, eval e1 X.env) :: starEach [.Lambda params body scope lp] X.env := by rfl) (hpl : (backTo pos (starEach [.Lambda params body scope lp] X.env)).any (·.1) = false := by rfl) :
    PE X (.Call (.Name x p) [e1, .Lambda params body scope lp] [] pos) (tCallLam X.prog X.w X.K X.mg X.base (kl + 1) (fun c' => ⟨X.env.qual ++ "<lambda>", params, body, scope, cloFrom X.env.cells scope.names [], c'⟩) sp Nl js t tb) := by
  refine ⟨fun pins s σ H Q I h => wpAny_Call_Name_kw (ld_glob I hg hm ?_ hdb)⟩
  refine PySem.W.callWith_K (h₀ := X.base) I.ok.mod.kin hk (thn (ha.run pos pins s σ H _ I h) fun us s1 ⟨vs, H1, I1, r, f, c', hf, hc, N, op, J, st, hJ, hB, q⟩ => ⟨I1.kIn, ?_⟩) he hpl
  have C1 := NdefX.cells_of (js := js) I1 (NdefX.Caps.made I1.ok (NdefX.ndef_free hdf) (NdefX.ndef_fr hdf) hjs)
  have sub : ∀ c ∈ capA (cloFrom X.env.cells scope.names []), ∃ y, X.env.cells.lookup y = some c := fun c h => by
    obtain ⟨y, e⟩ := capA_in h
    refine ⟨y, NdefX.clo_cm (fun y hy e => (NdefX.ndef_free hdf y hy e).elim (fun z => I1.ok.has _ (.inl z)) fun z => I1.ok.has _ (.inr z)) e⟩
  have hnone : ∀ b ∈ capA (cloFrom X.env.cells scope.names []), H1 b = none ∧ ∃ o, s1.heap.get? b = some o := fun b hb => by
    obtain ⟨y, e⟩ := sub b hb
    obtain ⟨v, o, ho, _⟩ := I1.cell y b e
    exact ⟨I1.freeC y b e, o, ho⟩
  have big : ∀ b ∈ capA (cloFrom X.env.cells scope.names []), X.s_0.heap.objs.size ≤ b := fun b hb => by
    obtain ⟨y, e⟩ := sub b hb
    exact I1.ok.cab y b (hfn y) e
  have nfr : ∀ b ∈ capA (cloFrom X.env.cells scope.names []), b ∉ frs X.stack := fun b hb z => by
    obtain ⟨y, e⟩ := sub b hb
    rcases List.mem_cons.mp (I1.stkSub b z) with e' | e'
    · exact I1.cne y b e e'
    · obtain ⟨_, o, ho, _⟩ := I1.ok.funs.mem e'
      exact absurd (Nat.lt_of_lt_of_le (Heap.lt_size ho) (big b hb)) (Nat.lt_irrefl _)
  have out : ∀ b, H1 b = none → b ∉ capA (cloFrom X.env.cells scope.names []) → pinH (capA (cloFrom X.env.cells scope.names [])) s1.heap H1 b = none := fun b e n => by rw [pinH_out n]; exact e
  have sm : Same H1 (pinH (capA (cloFrom X.env.cells scope.names [])) s1.heap H1) := fun b o e => by
    rw [pinH_out fun z => by rw [(hnone b z).1] at e; cases e]
    exact e
  have eb := I1.env0
  have e0 : Env0 X.prog X.w X.K X.mg X.base X.A X.stack s1 (pinH (capA (cloFrom X.env.cells scope.names [])) s1.heap H1) := ⟨eb.frames, eb.mod, fun b o e => ⟨(eb.bs b o e).1, out b (eb.bs b o e).2 fun z => absurd (Nat.lt_of_lt_of_le (Heap.lt_size e) (Nat.le_trans I1.ok.bsz (big b z))) (Nat.lt_irrefl _)⟩, eb.bsz, eb.funs,
    fun b hb => out b (eb.frf b hb) fun z => nfr b z hb, hok_pin eb.hok (fun b hb => (hnone b hb).1) (fun b hb => (hnone b hb).2), eb.bare⟩
  have hL := lam_run (K := X.K) (mg := X.mg) (base := X.base) (w := X.w) (P := X.prog) (L := ⟨X.env.qual ++ "<lambda>", params, body, scope, cloFrom X.env.cells scope.names [], c'⟩) S hps (fun pm ctv us hu => hbind _ _ _ _ _ us hu) C1 hf hc st hJ hB (fun A outer s H hr2 => hbody A outer s H f _ _ hr2)
  have hsp := q _ sm hL
  have hlen := G.len _ _ _ _ hsp
  show wpAny _ _ (call (.ref g) us) _ _ _
  have hbd := hb s1 us I1.kIn (by rw [List.append_nil, ← r.length]; exact hlen)
  rw [List.append_nil] at hbd
  refine wpAny_call (codeAny_mono (G.run X.A X.stack s1 _ ⟨us, []⟩ us vs _ E0 hr e0 hbd r hsp) fun rs s2 hq => ?_)
  cases rs with
  | error e => exact (show False from hq).elim
  | ok fl =>
    cases fl with
    | next => exact False.elim hq
    | brk => exact False.elim hq
    | cont => exact False.elim hq
    | ret u =>
      obtain ⟨v, H3, os, bare, un, hok, rv, sm3, q4⟩ := hq
      have held : ∀ b ∈ capA (cloFrom X.env.cells scope.names []), ∃ o, s1.heap.get? b = some o ∧ s2.heap.get? b = some o ∧ H3 b = some (PinO b o) := fun b hb => by
        obtain ⟨o, ho⟩ := (hnone b hb).2
        have e := sm3 _ _ (pinH_in (H := H1) hb ho)
        obtain ⟨z, _⟩ := hok b _ e
        exact ⟨o, ho, z, e⟩
      have nin : ∀ b o, H1 b = some o → b ∉ capA (cloFrom X.env.cells scope.names []) := fun b o e z => by
        rw [(hnone b z).1] at e
        cases e
      have smF : Same H1 (dropH (capA (cloFrom X.env.cells scope.names [])) H3) := fun b o e => by
        rw [dropH_out (nin b o e)]
        exact sm3 _ _ (sm _ _ e)
      refine I1.after ⟨v, dropH (capA (cloFrom X.env.cells scope.names [])) H3, os, bare, ⟨fun b o e n nf nx => ?_, fun b o e n nf nx => ?_, fun b o e n nx => ?_, un.there, fun b xs e => smF _ _ e, fun b o u e => smF _ _ e, fun b qs e => ⟨#[], by rw [smF _ _ e]; simp⟩⟩, hok_drop hok fun b hb u eu => ?_, rv, q4 _ smF fun b o e n => ?_⟩
      · by_cases hb : b ∈ capA (cloFrom X.env.cells scope.names [])
        · obtain ⟨o', h1, h2, _⟩ := held b hb
          rw [e] at h1
          cases h1
          exact h2
        · exact un.keep b o e (out b n hb) nf nx
      · by_cases hb : b ∈ capA (cloFrom X.env.cells scope.names [])
        · exact absurd nf (nfr b hb)
        · exact un.slot b o e (out b n hb) nf nx
      · by_cases hb : b ∈ capA (cloFrom X.env.cells scope.names [])
        · exact dropH_in hb
        · rw [dropH_out hb]
          exact un.free b o e (out b n hb) nx
      · obtain ⟨o, _, _, e'⟩ := held b hb
        rw [e'] at eu
        cases eu
        exact ⟨_, rfl⟩
      · rw [dropH_out fun z => ?_]
        · exact e
        · obtain ⟨o', _, _, e'⟩ := held b z
          rw [e'] at e
          cases e
          exact n _ rfl
end OPLP
section
open PySem PySem.Calls PySem.Spec PyProof.Rows L2
variable {X : Cx} {pins : List (Addr × Obj)} {σ : L2.St} {H : Hp}
theorem fp_mono {H H' : Hp} {b : Addr} (f : FpOk X pins H b) (n : H' b = none) : FpOk X pins H' b := ⟨n, f.2⟩
theorem inv_ch {s : Shared} {h2 : Heap} {b : Addr} {tk : Nat} (I : Inv X pins σ H s) (f : FpOk X pins H b) (k : ∀ c o, c ≠ b → s.heap.get? c = some o → h2.get? c = some o) : Inv X pins σ H { s with heap := h2, toks := tk } := by
  obtain ⟨f0, f1, f2, f3, f4, f5⟩ := f
  exact I.turned k f0 f1 f3 f4 f5
/-- two untracked objects of our own have changed, one of them is tracked from now on -/
theorem inv_two {s : Shared} {a k : Addr} {o : HO} {h2 : Heap} {tk : Nat} (I : Inv X pins σ H s) (fa : FpOk X pins H a) (fk : FpOk X pins H k) (hk : ∀ b u, b ≠ a → b ≠ k → s.heap.get? b = some u → h2.get? b = some u)
    (new : ObjOk X.prog X.w (upd H a o) h2 a o) : Inv X pins σ (upd H a o) { s with heap := h2, toks := tk } := by
  have nn : ∀ b u, H b = some u → b ≠ a ∧ b ≠ k := fun b u e => ⟨ne_of_none e fa.1, ne_of_none e fk.1⟩
  have nc : ∀ b, b ∉ [a, k] → b ≠ a ∧ b ≠ k := fun b h => ⟨fun z => h (by rw [z]; exact List.mem_cons_self), fun z => h (by rw [z]; exact List.mem_cons_of_mem _ List.mem_cons_self)⟩
  have old : ∀ b u, H b = some u → upd H a o b = some u := fun b u e => by rw [upd_ne (nn b u e).1]; exact e
  refine I.step (g' := s.gens) (d' := s.drawn) (ch := [a, k]) (fun b hb => ?_) (fun b u _ _ hc e _ => hk b u (nc b hc).1 (nc b hc).2 e) (fun b u _ _ hc e _ => ⟨u.slots, hk b u (nc b hc).1 (nc b hc).2 e⟩)
    (fun b u hc e n => by rw [upd_ne (nc b hc).1]; exact n) (fun b u hc e => ⟨u, hk b u (nc b hc).1 (nc b hc).2 e⟩) (fun b xs e => old _ _ e) (fun b u v e => old _ _ e) (fun b ps e => ⟨#[], by rw [old _ _ e]; simp⟩) (fun m hm => ?_) (fun b u e => ?_) I.bare
  · rcases List.mem_cons.mp hb with rfl | hb
    · exact ⟨fa.2.2.2.1, fa.2.1, fa.2.2.2.2.1, fa.2.2.2.2.2⟩
    · cases List.mem_singleton.mp hb
      exact ⟨fk.2.2.2.1, fk.2.1, fk.2.2.2.2.1, fk.2.2.2.2.2⟩
  · obtain ⟨u, es, ep, hu, r⟩ := hm
    exact ⟨u, es, ep, hk _ u (Ne.symm fa.2.1) (Ne.symm fk.2.1) hu, r⟩
  · by_cases hb : b = a
    · subst hb
      rw [upd_same] at e
      cases e
      exact new
    · rw [upd_ne hb] at e
      refine (I.hok b u e).stay (fun c v hc q => ?_) (fun c q => old _ _ q) fun c xs q => old _ _ q
      rcases hc with z | z
      · rw [z] at q ⊢
        exact hk b v hb (nn b u e).2 q
      · exact hk c v (nn c _ z).1 (nn c _ z).2 q
end
section
open PySem PySem.Calls PySem.Spec PyProof.Rows L2
variable {X : Cx} {pins : List (Addr × Obj)} {σ : L2.St} {H : Hp} {s : Shared}
/-! ### a list comprehension whose element knows the frame around it -/
def tLcI (K : PySem.W.Frag) (tl : TE) (g : TG) (tt : TT) (te : L2.St → TE) (vs : List Nat) : TE := fun σ H Q => tl σ H fun x H1 => ∃ a xs, x = .ref a ∧ SqL K H1 a xs ∧ ∀ D, H1 D = Option.none → ∃ Pv : Nat → Hp → Prop, Pv 0 (upd H1 D (.lst [])) ∧ (∀ i G, i ≤ xs.length → Pv i G → SqL K G a xs) ∧
  (∀ i v G, xs[i]? = some v → Pv i G → g v (wipe σ vs) G fun σ2 G2 => wipe σ2 vs = wipe σ vs ∧ tt σ2 G2 fun b G3 => if b = true then te σ σ2 G3 fun y G4 => ∃ acc, G4 D = some (.lst acc) ∧ acc.length < sizeLine ∧ Pv (i + 1) (upd G4 D (.lst (acc ++ [y]))) else Pv (i + 1) G3) ∧ ∀ G, Pv xs.length G → Q (.ref D) G
theorem pe_lcI {elt tg iter : Expr} {ifs : List Expr} {scope : Scope} {own : List (Str × Nat)} {pos : Pos} {tl : TE} {g : TG} {tt : TT} {te : L2.St → TE} (hcalm : X.calm = true) (hN : X.N.Nodup) (hi : PE X iter tl) (ok : BlkOk X.N X.env.scope scope own)
    (hg : ∀ (s : Shared) (H : Hp) (C : Addr) (cl : List (Str × Addr)) (fp : List Addr), PG (X.blk s H scope (compEnvC scope cl C X.env) fp) tg g)
    (ht : ∀ (s : Shared) (H : Hp) (C : Addr) (cl : List (Str × Addr)) (fp : List Addr), PTs (X.blk s H scope (compEnvC scope cl C X.env) fp) ifs tt)
    (he : ∀ (s : Shared) (H : Hp) (C : Addr) (cl : List (Str × Addr)) (fp : List Addr) (pins : List (Addr × Obj)) (σ : L2.St), (∀ {pz : List (Addr × Obj)} {σ' : L2.St} {G : Hp} {s' : Shared}, Inv (X.blk s H scope (compEnvC scope cl C X.env) fp) pz σ' G s' → Inv X pins σ G s') → PE (X.blk s H scope (compEnvC scope cl C X.env) fp) elt (te σ)) (hs : ∀ x, foldedSetIterable iter X.env x = pure x := by intro _; rfl) :
    PE X (.ListComp elt [⟨tg, iter, ifs, 0⟩] scope pos) (tLcI X.K tl g tt te (own.map (·.2))) := by
  refine ⟨fun pins s σ H Q I h => ?_⟩
  rw [eval_ListComp]
  have hfree : ∀ y ∈ scope.names, y.2 = .free → ∃ c, X.env.cells.lookup y.1 = some c := fun y hy e => (ok.free y hy e).elim (fun k => I.ok.has _ (.inl k)) (fun k => I.ok.has _ (.inr k))
  refine wpAny_comprehension_free (use := Option.none) rfl hs (closure_ok hfree) ok.kind (fun y hy e => by rw [ok.uniq y hy, e]) (thn (hi.run pins s σ H _ I h) fun xv s1 ⟨x, H1, I1, r1, a, xs, ex, hL, k⟩ => ?_)
  subst ex
  cases r1
  obtain ⟨its, rv, hl, hz⟩ := I1.list hL
  refine PySem.wpAny_pyIter_list hl.isList ?_
  -- the iterator's object, the new list, the block's frame
  have I2 : Inv X pins σ H1 { s1 with heap := s1.heap.push { cls := .type "list_iterator", data := .fields #[.ref a, .int 0 0] } } := I1.kept (t' := s1.toks) fun b o e => Heap.get?_push_of_some _ e
  have hit2 : ({ s1 with heap := s1.heap.push { cls := .type "list_iterator", data := .fields #[.ref a, .int 0 0] } } : Shared).heap.IsListIter s1.heap.objs.size a 0 := ⟨_, Heap.get?_push_size _ rfl, rfl, rfl⟩
  have it0 : H1 s1.heap.objs.size = Option.none := I1.hok.fresh (Nat.le_refl _)
  have fit : FpOk X pins H1 s1.heap.objs.size := I1.fpOk (Nat.le_refl _) it0
  have ltit : s1.heap.objs.size < ({ s1 with heap := s1.heap.push { cls := .type "list_iterator", data := .fields #[.ref a, .int 0 0] } } : Shared).heap.objs.size := by
    show _ < (s1.heap.push _).objs.size
    rw [Heap.size_push]
    exact Nat.lt_succ_self _
  generalize ({ s1 with heap := s1.heap.push { cls := .type "list_iterator", data := .fields #[.ref a, .int 0 0] } } : Shared) = s2 at *
  generalize s1.heap.objs.size = it at *
  refine wpAny_newObj_type (newEnv_comp ?_) (by show 0 ≤ sizeLine; decide)
  obtain ⟨Pv, p0, pl, pt, pd⟩ := k s2.heap.objs.size (I2.hok.fresh (Nat.le_refl _))
  have I3 : Inv X pins σ (upd H1 s2.heap.objs.size (.lst [])) { s2 with heap := s2.heap.push { cls := .type "list", data := .seq ([] : List Value).toArray } } :=
    I2.laid (t' := s2.toks) (fun b o e => Heap.get?_push_of_some _ e) (Nat.le_refl _) ⟨Nat.zero_le _, [], 0, .nil, Heap.get?_push_size _ rfl⟩
  have hit3 : ({ s2 with heap := s2.heap.push { cls := .type "list", data := .seq ([] : List Value).toArray } } : Shared).heap.IsListIter it a 0 := by
    obtain ⟨o, y1, y2⟩ := hit2
    exact ⟨o, Heap.get?_push_of_some _ y1, y2⟩
  have lt3 : it < ({ s2 with heap := s2.heap.push { cls := .type "list", data := .seq ([] : List Value).toArray } } : Shared).heap.objs.size := by
    show _ < (s2.heap.push _).objs.size
    rw [Heap.size_push]
    exact Nat.lt_succ_of_lt ltit
  have fit3 : FpOk X pins (upd H1 s2.heap.objs.size (.lst [])) it := ⟨by rw [upd_ne (Nat.ne_of_lt ltit)]; exact it0, fit.2⟩
  generalize hDD : s2.heap.objs.size = D at *
  generalize ({ s2 with heap := s2.heap.push { cls := .type "list", data := .seq ([] : List Value).toArray } } : Shared) = s3 at *
  generalize upd H1 D (.lst []) = H3 at *
  have I4 := block_start I3 ok hN (fp := [it]) fun b hm => by
    rw [List.mem_singleton.mp hm]
    exact ⟨fit3, lt3⟩
  -- the block's context, by letters
  have pg := fun cl => hg s3 H3 s3.heap.objs.size cl [it]
  have pts := fun cl => ht s3 H3 s3.heap.objs.size cl [it]
  have pe := fun cl => he s3 H3 s3.heap.objs.size cl [it] pins σ (fun {pz σ' G s'} J => I3.call' (ch := [it]) J.os J.base J.hok J.bare fun b hm => by
    rw [List.mem_singleton.mp hm]
    exact ⟨fit3.2.2.2.1, fit3.2.1, fit3.2.2.2.2.1, fit3.2.2.2.2.2⟩)
  have hit4 : ({ s3 with heap := pushCells (s3.heap.push { cls := .type "dict", data := .dict #[] }) scope.names } : Shared).heap.IsListIter it a 0 := by
    obtain ⟨o, y1, y2⟩ := hit3
    exact ⟨o, pushCells_keeps _ _ _ _ (Heap.get?_push_of_some _ y1), y2⟩
  show codeAny _ _ (.compStart (.ListComp elt [⟨tg, iter, ifs, 0⟩] scope pos) 0 (.ref it) (.ref D) (compEnvC scope (cellsFrom (s3.heap.objs.size + 1) scope.names (cloFrom X.env.cells scope.names [])) s3.heap.objs.size X.env)) (compPost (model X.prog X.w) X.A X.xe Option.none (EP X pins σ Q) (.ref D) s3.heap.objs.size) { s3 with heap := pushCells (s3.heap.push { cls := .type "dict", data := .dict #[] }) scope.names }
  specialize pg (cellsFrom (s3.heap.objs.size + 1) scope.names (cloFrom X.env.cells scope.names []))
  specialize pts (cellsFrom (s3.heap.objs.size + 1) scope.names (cloFrom X.env.cells scope.names []))
  specialize pe (cellsFrom (s3.heap.objs.size + 1) scope.names (cloFrom X.env.cells scope.names []))
  have eL : (compEnvC scope (cellsFrom (s3.heap.objs.size + 1) scope.names (cloFrom X.env.cells scope.names [])) s3.heap.objs.size X.env).locals = s3.heap.objs.size := rfl
  generalize compEnvC scope (cellsFrom (s3.heap.objs.size + 1) scope.names (cloFrom X.env.cells scope.names [])) s3.heap.objs.size X.env = ce at *
  generalize ({ s3 with heap := pushCells (s3.heap.push { cls := .type "dict", data := .dict #[] }) scope.names } : Shared) = s4 at *
  have mem1 : it ∈ [it] := List.mem_singleton.mpr rfl
  have fpk : ∀ {σ' : L2.St} {G : Hp} {s' : Shared}, Inv (X.blk s3 H3 scope ce [it]) [] σ' G s' → G it = Option.none → FpOk (X.blk s3 H3 scope ce [it]) [] G it := fun {σ' G s'} J g0 =>
    ⟨g0, (J.ok.exf it mem1).1, J.ok.exfs it mem1, .inl mem1, fun y c e => (J.ok.exf it mem1).2 y c e, fun p hp => absurd (show p ∈ ([] : List (Addr × Obj)) ++ [] from hp) (by simp)⟩
  have loop : ∀ s4 : Shared, Inv (X.blk s3 H3 scope ce [it]) [] (wipe σ (own.map (·.2))) H3 s4 → s4.heap.IsListIter it a 0 → codeAny (model X.prog X.w) X.A (.compLoop (.ListComp elt [⟨tg, iter, ifs, 0⟩] scope pos) 0 (.ref it) (.ref D) ce) (compPost (model X.prog X.w) X.A X.xe Option.none (EP X pins σ Q) (.ref D) s3.heap.objs.size) s4 := by
    intro s4 I4 hit4
    refine compLoop_any (fun n s' => ∃ j G, n = xs.length - j ∧ j ≤ xs.length ∧ Inv (X.blk s3 H3 scope ce [it]) [] (wipe σ (own.map (·.2))) G s' ∧ s'.heap.IsListIter it a j ∧ G it = Option.none ∧ Pv j G) ?_ _ ⟨0, H3, rfl, Nat.zero_le _, I4, hit4, fit3.1, p0⟩
    rintro n s5 ⟨j, G, rfl, le, I5, hi5, g5, pv⟩
    have hL5 : SqL (X.blk s3 H3 scope ce [it]).K G a xs := pl j G le pv
    obtain ⟨its5, rv5, hl5, hz5⟩ := I5.list hL5
    obtain ⟨f0, f1, f2, f3, f4, f5⟩ := fpk I5 g5
    rcases Nat.lt_or_ge j xs.length with lt | ge
    · obtain ⟨u, hu, ru⟩ := rv5.get (List.getElem?_eq_getElem lt)
      refine PySem.wpAny_pyNext_list_item hi5 hl5.isList (x := u) (by simpa using hu) fun g6 hi6 sb6 => ?_
      have I6 : Inv (X.blk s3 H3 scope ce [it]) [] (wipe σ (own.map (·.2))) G { s5 with heap := g6 } := I5.turned (t' := s5.toks) (fun b o nb e => (sb6.2 b nb).trans e) f0 f1 f3 f4 f5
      obtain ⟨o6, y1, y2, y3⟩ := id hi6
      refine go_of (s := { s5 with heap := g6 }) y1 y2 y3 (by decide) ?_
      have I6p := I6.pinned (fp := [it]) (fun b hm => by rw [List.mem_singleton.mp hm]; exact fpk I6 g5) (fun b hm => by rw [List.mem_singleton.mp hm]; exact ⟨o6, y1, fun v z => by rw [y3] at z; cases z⟩)
      refine thnF (pg.run _ _ _ G _ u _ I6p ru (pt j _ G (List.getElem?_eq_getElem lt) pv)) fun _ s8 ⟨σ8, H8, I8, hw8, q8⟩ => ?_
      refine thnF (pts.run _ s8 σ8 H8 _ I8 q8) fun b s9 ⟨H9, I9, q9⟩ => ?_
      have fin : ∀ {s' : Shared} {G' : Hp}, Inv (X.blk s3 H3 scope ce [it]) ([] ++ pinsAt [it] g6) σ8 G' s' → Pv (j + 1) G' → ∃ m, m < xs.length - j ∧ ∃ j' G', m = xs.length - j' ∧ j' ≤ xs.length ∧ Inv (X.blk s3 H3 scope ce [it]) [] (wipe σ (own.map (·.2))) G' s' ∧ s'.heap.IsListIter it a j' ∧ G' it = Option.none ∧ Pv j' G' := fun {s' G'} J nx => by
        have pin := J.pin (it, o6) (List.mem_append_right _ (List.mem_append_right _ (mem_pinsAt mem1 y1)))
        have hln : (wipe σ (own.map (·.2))).length = σ8.length := by rw [← hw8, wipe_length]
        refine ⟨xs.length - (j + 1), by omega, j + 1, G', rfl, lt, (J.unpinned (pins := [])).weak hln (fun i v e => ?_), ⟨o6, pin.1, y2, y3⟩, pin.2.1, nx⟩
        rw [← hw8] at e
        exact (wipe_some e).1
      cases b with
      | false =>
        simp only [Bool.false_eq_true, if_false] at q9 ⊢
        exact fin I9 q9
      | true =>
        simp only [if_true] at q9 ⊢
        refine thnF (pe.run _ s9 σ8 H9 _ I9 q9) fun z s10 ⟨yv, H10, I10, r10, acc, hD10, hz10, nx⟩ => ?_
        exact app_ok (X := X.blk s3 H3 scope ce [it]) I10 hD10 hz10 r10 fun s11 I11 => fin I11 nx
    · have ej : j = xs.length := Nat.le_antisymm le ge
      subst ej
      refine PySem.wpAny_pyNext_list_end (I5.ok.hd hcalm) hi5 hl5.isList (by have := rv5.length; simp; omega) fun g6 eb => ?_
      have I6 : Inv (X.blk s3 H3 scope ce [it]) [] (wipe σ (own.map (·.2))) G { s5 with heap := g6 } := I5.turned (t' := s5.toks) (fun b o nb e => eb b o nb e) f0 f1 f3 f4 f5
      have I7 : Inv X pins σ G { s5 with heap := g6 } := I3.call' (ch := [it]) I6.os I6.base I6.hok I6.bare fun b hm => by
        rw [List.mem_singleton.mp hm]
        exact ⟨fit3.2.2.2.1, fit3.2.1, fit3.2.2.2.2.1, fit3.2.2.2.2.2⟩
      have nC : G s3.heap.objs.size = Option.none := by
        have z : G ce.locals = Option.none := I6.free
        rw [eL] at z
        exact z
      obtain ⟨m, hn, _⟩ := I6.loc
      have hn : g6.Ns ce.locals m := hn
      rw [eL] at hn
      obtain ⟨k0, k1, k2, k3, k4, k5⟩ := I3.fpOk (Nat.le_refl _) nC
      exact ⟨m, hn, fun g7 sb => ⟨.ref D, G, I7.turned (t' := s5.toks) (fun b o nb e => (sb.2 b nb).trans e) k0 k1 k3 k4 k5, rfl, pd G pv⟩⟩
  refine codeAny_compStart_list (loop s4 I4 hit4) ?_
  exact PySem.wpAny_pyIter_listiter hit4 (loop s4 I4 hit4)
end
section
open PySem PySem.Calls PySem.Spec PyProof.Rows L2
/-! ### a lambda that stands in the heap's account, handed to a def from within a comprehension -/
theorem pe_actT {X : Cx} {pins : List (Addr × Obj)} {σ : L2.St} {H : Hp} {s : Shared} {CXg : CXT} {Eg : XK} {Ng : List Str} {qg : Str} {sg : Scope} {g f c : Addr} {cdg : Value} {params : Arguments} {body : Expr} {scope : Scope} {k i : Nat} {a : Str} {pn : List (Addr × Obj)} {xe : Value → Shared → Prop} {W : WX} {E : L2.St → XK} {tb : XK → TE} {p1 p2 : Pos}
    (I : Inv X pins σ H s) (L : LamX.LamS X.env.scope scope)
    (hbind : ∀ (q : Str) (cl : List (Str × Addr)) (pm cv ctv : Value), bindArgs (PySem.W.kla_fn "<lambda>" q params body scope cl pm cv ctv) ⟨[], []⟩ = pure [])
    (tk : L2C.Takes ((cxOf CXg X.prog X.w X.K X.mg X.base Ng qg sg g cdg X.A X.stack s H Eg).tr pn xe) W) (hW : ∀ cls d σ2 H2, E σ2 cls d H2 → W cls d σ2 H2) (hr : Room (k + 1) (X.A.deeper (envOfC qg sg s.heap.objs.size g cdg)))
    (hbody : ∀ (A : Around) (outer : List Env) (s : Shared) (H : Hp) (E : XK), Room k (A.deeper (LamX.lamEnv X scope s.heap.objs.size f c)) → PE (lamCxN X A outer s H E scope f c) body (tb E))
    (hN : Ng[i]? = some a) (hv : Vis sg a) (hd : (a == ("__debug__" : Str)) = false := by decide) (hcd : (a == ("__classdict__" : Str)) = false := by decide) :
    PE ((cxOf CXg X.prog X.w X.K X.mg X.base Ng qg sg g cdg X.A X.stack s H Eg).tr pn xe) (.Call (.Name a p1) [] [] p2) (fun σZ HZ Q => σZ[i]? = some (some (.ref f)) ∧ HZ c = some (LamX.CodeO c (X.env.qual ++ "<lambda>")) ∧ HZ f = some (LamO f ⟨X.env.qual ++ "<lambda>", params, body, scope, cloFrom X.env.cells scope.names [], c⟩) ∧ tb (E σZ) σ HZ Q) := by
  refine ⟨fun pz sz σz Hz Q Iz ⟨hs, hc, hl, y⟩ => ?_⟩
  refine wpAny_Call_Name_kw (thn ((pe_var (pos := p1) (i := i) hN hv hd hcd).run pz sz σz Hz (fun v H1 => v = .ref f ∧ H1 = Hz) Iz ⟨.ref f, hs, rfl, rfl⟩) fun u s1 ⟨v, H1, I1, r1, ev, eH⟩ => ?_)
  subst ev eH
  cases (show u = Value.ref f from r1)
  obtain ⟨⟨pm, ctv, of1⟩, _⟩ := I1.hok f _ hl
  refine PySem.W.callWith_F0 ⟨_, _, _, _, of1⟩ ?_
  obtain ⟨⟨oc, vs, t, hoc, hdc, hvc⟩, _, _⟩ := I1.hok c _ hc
  have run : codeAny (model X.prog X.w) (X.A.deeper (envOfC qg sg s.heap.objs.size g cdg)) (.call (.ref f) ⟨[], []⟩) (CR (L2C.CX X.prog X.w) (envOfC qg sg s.heap.objs.size g cdg :: X.stack) X.prog X.w H1 s1 Q (E σz)) s1 := by
    refine PySem.W.kla_callFunE hr.depth of1 rfl L.co L.gen rfl ⟨c, oc, vs, t, rfl, hoc, hdc, hvc⟩ ?_
    rw [hbind]
    refine wpAny_pure (wpAny_newFunctionEnv (fun y hy => (L.own y hy).2) (fun y hy => absurd hy (by simp)) (fun g1 hns hsb => ⟨I1.nolimit.fresh _ hsb, ?_⟩) L.kind)
    have kp : ∀ b o, s1.heap.get? b = some o → g1.get? b = some o := fun b o e => hsb.extBut b o (Nat.ne_of_lt (Heap.lt_size e)) (Heap.get?_push_of_some _ e)
    have J := LamX.lam_start2 (E := E σz) (f := f) (c' := c) (tk := s1.toks + ([] : List (Str × Value)).length) I L I1.env0 hr.hd I1.base hns kp
    refine PySem.W.kla_codeExpr (wpAny_mono ((hbody _ _ s1 H1 (E σz) (hr.deeper _)).run [] _ _ H1 Q (J.wish _) y) (fun v s3 ⟨w3, H3, J3, rv, q⟩ => ⟨w3, H3, J3.os, J3.bare, J3.base, J3.hok, rv, q⟩) fun e s3 z => z)
  refine wpAny_call (codeAny_mono run fun rs s2 hq => ?_)
  cases rs with
  | error e => exact tk e s2 (L2C.XE.of_call I1 (fun cls d H' h => hW cls d σz H' h) hq)
  | ok fl =>
    cases fl with
    | ret u => exact I1.after hq
    | next => exact False.elim hq
    | brk => exact False.elim hq
    | cont => exact False.elim hq
/-- x(v) from within a comprehension, v holding such a lambda of the frame around -/
def tAsk (K : PySem.W.Frag) (q : Str) (TT : (XK → Hp → VK → Prop) → Hp → VK → Prop) (mk : Addr → LF) (i : Nat) (t : XK → TE) (σ : L2.St) : TE := fun σ2 G Q => ∃ f c : Addr, σ2[i]? = some (some (.ref f)) ∧ G c = some (LamX.CodeO c q) ∧ TT (fun E H' Q' => H' f = some (LamO f (mk c)) ∧ t E σ H' Q') G Q
theorem pe_ask {X : Cx} {TT : (XK → Hp → VK → Prop) → Hp → VK → Prop} {x a v : Str} {g : Addr} {k i : Nat} {pg : Arguments} {bg : List Stmt} {sg : Scope} {dV kV doc pm cdv ct oc : Value} {an od : Option Addr} {osl : Array (Option Value)} {Ng : List Str}
    {params : Arguments} {body : Expr} {scope scB : Scope} {t : XK → TE} {p p2 pos : Pos} {s0 : Shared} {H0 : Hp} {ce : Env} {fp : List Addr} {pins : List (Addr × Obj)} {σ : L2.St}
    (back : ∀ {pz : List (Addr × Obj)} {σ' : L2.St} {G : Hp} {s' : Shared}, Inv (X.blk s0 H0 scB ce fp) pz σ' G s' → Inv X pins σ G s')
    (hg : Gl (X.blk s0 H0 scB ce fp) x) (hm : X.mg x = some (.ref g)) (hk : PySem.W.keepIn X.K (.ref g) = true)
    (lk : X.K.lookup g = some ⟨oc, od, .func (PySem.W.fnOf x x pg bg sg dV kV doc pm an cdv ct), osl⟩) (hcg : PySem.W.codeIn X.K cdv x = true) (hb : Binds X.K (PySem.W.fnOf x x pg bg sg dV kV doc pm an cdv ct) [a] []) (Sg : FnScope Ng [a] sg) (hNg : Ng[0]? = some a) (hva : Vis sg a)
    (hG : GivesN X Ng x sg g cdv bg a (X.env.qual ++ "<lambda>") TT) (hr : Room (k + 2) X.A) (k40 : 40 ≤ k + 1) (L : LamX.LamS X.env.scope scope)
    (hbind : ∀ (q : Str) (cl : List (Str × Addr)) (pm cv ctv : Value), bindArgs (PySem.W.kla_fn "<lambda>" q params body scope cl pm cv ctv) ⟨[], []⟩ = pure [])
    (hbody : ∀ (A : Around) (outer : List Env) (s : Shared) (H : Hp) (E : XK) (f c2 : Addr), Room k (A.deeper (LamX.lamEnv X scope s.heap.objs.size f c2)) → PE (lamCxN X A outer s H E scope f c2) body (t E))
    (hN : X.N[i]? = some v) (hv : Vis ce.scope v)
    (hdb : (x == ("__debug__" : Str)) = false := by decide) (hd : (a == ("__debug__" : Str)) = false := by decide) (hcd : (a == ("__classdict__" : Str)) = false := by decide) (hvd : (v == ("__debug__" : Str)) = false := by decide) (hvc : (v == ("__classdict__" : Str)) = false := by decide) :
    PE (X.blk s0 H0 scB ce fp) (.Call (.Name x p) [.Name v p2] [] pos) (tAsk X.K (X.env.qual ++ "<lambda>") TT (fun c => ⟨X.env.qual ++ "<lambda>", params, body, scope, cloFrom X.env.cells scope.names [], c⟩) i t σ) := by
  refine ⟨fun pz s σ2 G Q J ⟨f, c2, hs, hco, y⟩ => ?_⟩
  refine wpAny_Call_Name_kw (ld_glob J hg hm (PySem.W.callWith_K (h₀ := X.base) J.ok.mod.kin hk ?_ (by rfl) (by rfl)) hdb)
  show wpAny _ _ (spliced ((false, eval (.Name v p2) (X.blk s0 H0 scB ce fp).env) :: backTo pos (starEach [] (X.blk s0 H0 scB ce fp).env))) _ _ s
  refine Calls.spliced_cons (thn ((pe_var (pos := p2) (i := i) (X := X.blk s0 H0 scB ce fp) hN hv hvd hvc).run pz s σ2 G (fun w H1 => w = .ref f ∧ H1 = G) J ⟨.ref f, hs, rfl, rfl⟩) fun u s1 ⟨w, H1, J1, r1, ew, eH⟩ => Calls.spliced_nil ⟨J1.kIn, ?_⟩)
  subst ew eH
  cases (show u = Value.ref f from r1)
  have I1 := back J1
  have run : codeAny (model X.prog X.w) X.A (.call (.ref g) ⟨[.ref f], []⟩) (CR CX0 X.stack X.prog X.w H1 s1 Q E0) s1 := by
    refine LamX.run_ofS (N := Ng) (ps := [a]) (us := [.ref f]) (vs := [.ref f]) lk hcg Sg hr I1.env0 (hb s1 [.ref f] I1.kIn rfl) (.cons rfl .nil) rfl fun hr2 => ?_
    obtain ⟨t2, ht2, hq2⟩ := hG _ f c2 s1 H1 Q _ hr2 k40 (fun W pn xe E p1 p2 tk hW => pe_actT (i := 0) I1 L hbind tk hW hr2 (fun A outer s H E hr3 => hbody A outer s H E f c2 hr3) hNg hva hd hcd) hco y
    exact ⟨t2, ht2.nox, hq2⟩
  refine wpAny_call (codeAny_mono run fun rs s2 hq => ?_)
  cases rs with
  | error e => exact (show False from hq).elim
  | ok fl =>
    cases fl with
    | ret u => exact J1.after hq
    | next => exact False.elim hq
    | brk => exact False.elim hq
    | cont => exact False.elim hq
theorem pe_or {X : Cx} {e : Expr} {t u : TE} (h1 : PE X e t) (h2 : PE X e u) : PE X e (fun σ H Q => t σ H Q ∨ u σ H Q) := ⟨fun pins s σ H Q I h => h.elim (fun z => h1.run pins s σ H Q I z) fun z => h2.run pins s σ H Q I z⟩
end
def top (i : Nat) : Stmt := PySem.Challenge.pw_uponboth_k03_valid_terms.main.body.getD i (.Pass ⟨0, 0, 0, 0⟩)
structure Blt (mg : Str → Option Value) : Prop where
  len : mg "len" = none
  list : mg "list" = none
  tuple : mg "tuple" = none
  dict : mg "dict" = none
  bool : mg "bool" = none
  isinstance : mg "isinstance" = none
  max : mg "max" = none
  min : mg "min" = none
  range : mg "range" = none
  all : mg "all" = none
  sorted : mg "sorted" = none
  enumerate : mg "enumerate" = none
  sum : mg "sum" = none
  str : mg "str" = none
  int : mg "int" = none
/-- the state of the draws: a list of ints, a place, a rest, a seed -/
def Rng (H : Hp) (r : Addr) : Prop := ∃ (c : Addr) (ns : List Int) (i b s : Int), H r = some (.lst [.ref c, .int i, .int b, .int s]) ∧ H c = some (.lst (ns.map V.int)) ∧ c ≠ r ∧ 0 ≤ i ∧ 0 ≤ b ∧ 0 ≤ s ∧ s < 2147483647
theorem Rng.lst {H : Hp} {r : Addr} (h : Rng H r) : ∃ ys, H r = some (.lst ys) := by
  obtain ⟨c, ns, i, b, s, h, _⟩ := h
  exact ⟨_, h⟩
theorem Rng.same {H H' : Hp} {r : Addr} (e : Same H H') (h : Rng H r) : Rng H' r := by
  obtain ⟨c, ns, i, b, s, h1, h2, h3⟩ := h
  exact ⟨c, ns, i, b, s, e _ _ h1, e _ _ h2, h3⟩
theorem cut63 {ns : List Int} : cutV (ns.map V.int) none (some 63) = (ns.take 63).map V.int := by
  unfold cutV
  rw [HT.sIx_none, show HT.sIx (ns.map V.int).length (ns.map V.int).length (some 63) = min 63 (ns.map V.int).length from HT.sIx_nat _ _ 63]
  rw [List.drop_zero, Nat.sub_zero, List.map_take]
  rcases Nat.le_total 63 (ns.map V.int).length with h | h
  · rw [Nat.min_eq_left h]
  · rw [Nat.min_eq_right h, List.take_of_length_le (Nat.le_refl _), List.take_of_length_le h]
def spDraws (K : PySem.W.Frag) : Sp := fun vs H Q _ => ∃ (a : Addr) (ns : List Int), vs = [.ref a] ∧ SqL K H a (ns.map V.int) ∧ ∀ (r : Addr) (H' : Hp), Same H H' → H r = none → Rng H' r → Q (.ref r) H'
def spDraw : Sp := fun vs H Q _ => ∃ (r : Addr) (n : Int), vs = [.ref r, .int n] ∧ Rng H r ∧ 0 < n ∧ n < 1073741824 ∧ ∀ (v : Int) (H' : Hp), 0 ≤ v → v < n → Rng H' r → But r H H' → Q (.int v) H'
theorem fn_none {P : Program} {w : World} {K : PySem.W.Frag} {mg : Str → Option Value} {base : Heap} {f : Addr} {fd : FuncData} {CX : CXT} {ps : List Str} {sp : Sp} {k : Nat} (no : ∀ vs H Q E, ¬ sp vs H Q E) : FnOk P w K mg base CX k f fd ps sp :=
  ⟨fun vs H Q E h => absurd h (no vs H Q E), fun A outer s H args us vs Q E _ _ _ _ h => absurd h (no vs H Q E)⟩
def spTerm (K : PySem.W.Frag) (n : Nat) : Sp := fun vs H Q _ => ∃ (r : Addr) (many : Int) (k : Nat), k < n ∧ vs = [.ref r, .int many, .int (2 ^ k)] ∧ k ≤ 6 ∧ 1 ≤ many ∧ many ≤ 2 ^ k ∧ Rng H r ∧
  ∀ (v : V) (t : Tree) (H' : Hp), TA K H' v t → (t.sz : Int) = many → t.dp ≤ k → Rng H' r → But r H H' → Q v H'
def spComb (K : PySem.W.Frag) : Sp := fun vs H Q _ => ∃ (m : Int) (b : Bool), vs = [.int m, .bl b] ∧ 1 ≤ m ∧ m ≤ 40 ∧
  ∀ (v : V) (t : Tree) (H' : Hp), TA K H' v t → (t.sz : Int) = m → (t.dp : Int) = m - 1 → Same H H' → Q v H'
def spAny (K : PySem.W.Frag) : Sp := fun vs H Q _ => ∃ (r : Addr) (top : Int), vs = [.ref r, .int top] ∧ 1 ≤ top ∧ top ≤ 64 ∧ Rng H r ∧
  ∀ (v : V) (t : Tree) (H' : Hp), TA K H' v t → (t.sz : Int) ≤ top → t.dp ≤ 6 → Rng H' r → But r H H' → Q v H'
/-- a def over one tree that gives g of it and makes nothing that stays -/
def spTree (K : PySem.W.Frag) (g : Tree → V) (n : Nat) : Sp := fun vs H Q _ => ∃ (v : V) (t : Tree), vs = [v] ∧ TA K H v t ∧ t.dp < n ∧ n ≤ 40 ∧ ∀ H', Same H H' → Q (g t) H'
theorem spTree_no {K : PySem.W.Frag} {g : Tree → V} : ∀ vs H Q E, ¬ spTree K g 0 vs H Q E := fun vs H Q E h => by
  obtain ⟨v, t, _, _, h, _⟩ := h
  omega
def spIsPair (K : PySem.W.Frag) : Sp := fun vs H Q _ => ∃ (v : V) (t : Tree), vs = [v] ∧ TA K H v t ∧ Q (.bl (!t.isL)) H
def spOkTerm (K : PySem.W.Frag) (g : V) : Sp := fun vs H Q _ => ∃ (v : V) (t : Tree), vs = [v] ∧ TA K H v t ∧ t.sz ≤ 12 ∧ t.dp ≤ 6 ∧ ∀ H', Same H H' → Q g H'
/-- an item of the pile: a term and how deep it stands -/
def Item (K : PySem.W.Frag) (H : Hp) (p : V × Tree × Nat) : Prop := ∃ (a : Addr) (u : V), p.1 = .ref a ∧ SqT K H a [u, .int p.2.2] ∧ TA K H u p.2.1 ∧ p.2.2 + p.2.1.dp ≤ 6
theorem Item.mono {K : PySem.W.Frag} {H H' : Hp} (e : Tp H H') {p : V × Tree × Nat} (h : Item K H p) : Item K H' p := by
  obtain ⟨a, u, h1, h2, h3, h4⟩ := h
  exact ⟨a, u, h1, e.sqT h2, ta_mono e h3, h4⟩
def szs (ps : List (V × Tree × Nat)) : Nat := (ps.map fun p => p.2.1.sz).sum
def nds (ps : List (V × Tree × Nat)) : Nat := (ps.map fun p => p.2.1.nodes).sum
theorem szs_snoc (ps : List (V × Tree × Nat)) (p) : szs (ps ++ [p]) = szs ps + p.2.1.sz := by
  unfold szs
  rw [List.map_append, List.sum_append]
  simp
theorem nds_snoc (ps : List (V × Tree × Nat)) (p) : nds (ps ++ [p]) = nds ps + p.2.1.nodes := by
  unfold nds
  rw [List.map_append, List.sum_append]
  simp
theorem szs_len : ∀ ps : List (V × Tree × Nat), ps.length ≤ szs ps
  | [] => Nat.zero_le _
  | p :: ps => by
    have h := szs_len ps
    have h2 := p.2.1.sz_pos
    show ps.length + 1 ≤ (p.2.1.sz :: ps.map fun p => p.2.1.sz).sum
    rw [List.sum_cons]
    unfold szs at h
    omega
structure Cst (mg : Str → Option Value) : Prop where
  MAX_SIZE : ∃ t, mg "MAX_SIZE" = some (.int 12 t)
  MAX_DEPTH : ∃ t, mg "MAX_DEPTH" = some (.int 6 t)
def spOkTree (K : PySem.W.Frag) (g : Tree → V) : Sp := fun vs H Q _ => ∃ (v : V) (t : Tree), vs = [v] ∧ TA K H v t ∧ t.sz ≤ 12 ∧ t.dp ≤ 6 ∧ ∀ H', Same H H' → Q (g t) H'
def Tree.spine : Tree → List Tree
  | .L => [.L]
  | .N l r => .N l r :: l.spine
def spSpine (K : PySem.W.Frag) : Sp := fun vs H Q _ => ∃ (v : V) (t : Tree), vs = [v] ∧ TA K H v t ∧ t.sz ≤ 12 ∧ t.dp ≤ 6 ∧ ∀ (p : Addr) (vs : List V) (H' : Hp), Same H H' → H p = none → H' p = some (.lst vs) → DpAll K H' vs (t.spine.map Tree.d) → Q (.ref p) H'
theorem dpAll_snoc {K : PySem.W.Frag} {H : Hp} : ∀ {vs : List V} {ds : List PyData} {v : V} {d : PyData}, DpAll K H vs ds → Dp K H v d → DpAll K H (vs ++ [v]) (ds ++ [d])
  | _, _, _, _, .nil, h => .cons h .nil
  | _, _, _, _, .cons h1 h2, h => .cons h1 (dpAll_snoc h2 h)
theorem dpAll_len {K : PySem.W.Frag} {H : Hp} : ∀ {vs : List V} {ds : List PyData}, DpAll K H vs ds → vs.length = ds.length
  | _, _, .nil => rfl
  | _, _, .cons _ h2 => congrArg (· + 1) (dpAll_len h2)
theorem dpAll_at {K : PySem.W.Frag} {H : Hp} : ∀ {vs : List V} {ds : List PyData}, DpAll K H vs ds → ∀ (i : Nat) (d : PyData), ds[i]? = some d → ∃ v, vs[i]? = some v ∧ Dp K H v d
  | _, _, .nil, i, d, e => by simp at e
  | _, _, .cons h1 h2, 0, d, e => ⟨_, rfl, by cases e; exact h1⟩
  | _, _, .cons h1 h2, i + 1, d, e => dpAll_at h2 i d e
theorem dpAll_tp {K : PySem.W.Frag} {H H' : Hp} (e : Tp H H') : ∀ {ts : List Tree} {vs : List V}, DpAll K H vs (ts.map Tree.d) → DpAll K H' vs (ts.map Tree.d)
  | [], _, h => by
    cases h
    exact .nil
  | t :: ts, _, h => by
    cases h with
    | cons h1 h2 => exact .cons (ta_mono e h1) (dpAll_tp e h2)
theorem Tree.spine_len : ∀ t : Tree, t.spine.length ≤ t.dp + 1
  | .L => Nat.le_refl _
  | .N l r => by
    have h := spine_len l
    show l.spine.length + 1 ≤ max l.dp r.dp + 1 + 1
    omega
theorem Tree.spine_mem : ∀ {t u : Tree}, u ∈ t.spine → u.dp ≤ t.dp
  | .L, u, h => by
    cases List.mem_singleton.mp h
    exact Nat.le_refl _
  | .N l r, u, h => by
    rcases List.mem_cons.mp h with e | h
    · rw [e]
      exact Nat.le_refl _
    · have h2 := spine_mem h
      show u.dp ≤ max l.dp r.dp + 1
      omega
theorem Tree.spine_self : ∀ t : Tree, t ∈ t.spine
  | .L => List.mem_singleton.mpr rfl
  | .N _ _ => List.mem_cons_self
/-- the walk down the left: at p stands the list of what was met, its last one is still to be looked at -/
def Spn (K : PySem.W.Frag) (H H' : Hp) (p : Addr) (t : Tree) (m : Nat) : Prop := ∃ (vs : List V) (u : V) (ts : List Tree) (t' : Tree), Same H H' ∧ H' p = some (.lst (vs ++ [u])) ∧ DpAll K H' vs (ts.map Tree.d) ∧ TA K H' u t' ∧ ts ++ t'.spine = t.spine ∧ m = t'.nodes
theorem Spn.dp {t t' : Tree} {ts : List Tree} (et : ts ++ t'.spine = t.spine) (hd : t.dp ≤ 6) : t'.dp ≤ 63 := by
  have h : t' ∈ t.spine := by
    rw [← et]
    exact List.mem_append_right _ t'.spine_self
  have := Tree.spine_mem h
  omega
theorem Spn.lt {K : PySem.W.Frag} {H' : Hp} {vs : List V} {u : V} {t t' : Tree} {ts : List Tree} (hA : DpAll K H' vs (ts.map Tree.d)) (et : ts ++ t'.spine = t.spine) (hd : t.dp ≤ 6) : (vs ++ [u]).length < sizeLine := by
  have h1 := dpAll_len hA
  have h2 := congrArg List.length et
  have h3 := t.spine_len
  rw [List.length_map] at h1
  rw [List.length_append] at h2
  rw [List.length_append, List.length_singleton]
  exact small1000 (by omega)
theorem Spn.next {K : PySem.W.Frag} {H H' : Hp} {p p5 b : Addr} {vs : List V} {x1 x2 : V} {t l r : Tree} {ts : List Tree} (hp0 : H p = none) (sm : Same H H') (s5 : Same H' (upd H' p5 (.tup []))) (hl : H' p = some (.lst (vs ++ [.ref b]))) (hA : DpAll K H' vs (ts.map Tree.d)) (hS : SqT K H' b [x1, x2]) (hL : TA K H' x1 l) (hR : TA K H' x2 r)
    (et : ts ++ (Tree.N l r).spine = t.spine) : Spn K H (upd (upd H' p5 (.tup [])) p (.lst ((vs ++ [.ref b]) ++ [x1]))) p t l.nodes := by
  have tp : Tp H' (upd (upd H' p5 (.tup [])) p (.lst ((vs ++ [.ref b]) ++ [x1]))) := (Tp.same s5).trans (Tp.but (s5 _ _ hl) But.set)
  refine ⟨vs ++ [.ref b], x1, ts ++ [.N l r], l, fun c o e => ?_, upd_same, ?_, ta_mono tp hL, ?_, rfl⟩
  · rw [upd_ne (ne_of_none e hp0)]
    exact s5 _ _ (sm _ _ e)
  · rw [List.map_append]
    exact dpAll_snoc (dpAll_tp tp hA) (ta_node (tp.sqT hS) (ta_mono tp hL) (ta_mono tp hR))
  · rw [List.append_assoc]
    exact et
/-! ### data and their built-in types -/
def tn : PyData → String
  | .none => "NoneType"
  | .bool _ => "bool"
  | .int _ => "int"
  | .str _ => "str"
  | .list _ => "list"
  | .tuple _ => "tuple"
  | .dict _ => "dict"
def isT : PyData → Bool
  | .tuple _ => true
  | _ => false
def isLs : PyData → Bool
  | .list _ => true
  | _ => false
def isB : PyData → Bool
  | .bool _ => true
  | _ => false
theorem dp_ty {K : PySem.W.Frag} {H : Hp} {x : V} {d : PyData} (h : Dp K H x d) : TyX K H x (.type (tn d)) := by
  cases h with
  | non => exact .base .non
  | bl b => exact .base (.bl b)
  | int i => exact .base (.int i)
  | str z => exact .base (.str z)
  | lst hs _ => exact tyx_lst hs
  | tup hs _ => exact tyx_tup hs
theorem kit_dict {K : PySem.W.Frag} {H : Hp} {x : V} {d : PyData} (h : Dp K H x d) : PySem.W.kitOne K (.type (tn d)) (.type "dict") = some false := by
  cases h with
  | non => exact kit_ty (show kitB "NoneType" "dict" = some false by decide +kernel)
  | bl _ => exact kit_ty (show kitB "bool" "dict" = some false by decide +kernel)
  | int _ => exact kit_ty (show kitB "int" "dict" = some false by decide +kernel)
  | str _ => exact kit_ty (show kitB "str" "dict" = some false by decide +kernel)
  | lst _ _ => exact kit_ty (show kitB "list" "dict" = some false by decide +kernel)
  | tup _ _ => exact kit_ty (show kitB "tuple" "dict" = some false by decide +kernel)
theorem kit_tuple {K : PySem.W.Frag} {H : Hp} {x : V} {d : PyData} (h : Dp K H x d) : PySem.W.kitOne K (.type (tn d)) (.type "tuple") = some (isT d) := by
  cases h with
  | non => exact kit_ty (show kitB "NoneType" "tuple" = some false by decide +kernel)
  | bl _ => exact kit_ty (show kitB "bool" "tuple" = some false by decide +kernel)
  | int _ => exact kit_ty (show kitB "int" "tuple" = some false by decide +kernel)
  | str _ => exact kit_ty (show kitB "str" "tuple" = some false by decide +kernel)
  | lst _ _ => exact kit_ty (show kitB "list" "tuple" = some false by decide +kernel)
  | tup _ _ => exact kit_ty (show kitB "tuple" "tuple" = some true by decide +kernel)
theorem kit_list {K : PySem.W.Frag} {H : Hp} {x : V} {d : PyData} (h : Dp K H x d) : PySem.W.kitOne K (.type (tn d)) (.type "list") = some (isLs d) := by
  cases h with
  | non => exact kit_ty (show kitB "NoneType" "list" = some false by decide +kernel)
  | bl _ => exact kit_ty (show kitB "bool" "list" = some false by decide +kernel)
  | int _ => exact kit_ty (show kitB "int" "list" = some false by decide +kernel)
  | str _ => exact kit_ty (show kitB "str" "list" = some false by decide +kernel)
  | lst _ _ => exact kit_ty (show kitB "list" "list" = some true by decide +kernel)
  | tup _ _ => exact kit_ty (show kitB "tuple" "list" = some false by decide +kernel)
theorem kit_bool {K : PySem.W.Frag} {H : Hp} {x : V} {d : PyData} (h : Dp K H x d) : PySem.W.kitOne K (.type (tn d)) (.type "bool") = some (isB d) := by
  cases h with
  | non => exact kit_ty (show kitB "NoneType" "bool" = some false by decide +kernel)
  | bl _ => exact kit_ty (show kitB "bool" "bool" = some true by decide +kernel)
  | int _ => exact kit_ty (show kitB "int" "bool" = some false by decide +kernel)
  | str _ => exact kit_ty (show kitB "str" "bool" = some false by decide +kernel)
  | lst _ _ => exact kit_ty (show kitB "list" "bool" = some false by decide +kernel)
  | tup _ _ => exact kit_ty (show kitB "tuple" "bool" = some false by decide +kernel)
theorem kit_seq {K : PySem.W.Frag} {H : Hp} {x : V} {d : PyData} (h : Dp K H x d) : PySem.W.kitAny K (.type (tn d)) [.type "tuple", .type "list"] = some (isT d || isLs d) := by
  refine kitAny_cons (kit_tuple h) (fun e => kitAny_cons (kit_list h) (fun e2 => ?_) (fun e2 => ?_)) (fun e => ?_)
  · rw [e, e2]
    exact kitAny_nil
  · rw [e, e2]
    rfl
  · rw [e]
    rfl
mutual
/-- no list or tuple in it is longer than 1000 -/
def wide : PyData → Bool
  | .list xs | .tuple xs => decide (xs.length ≤ 1000) && wideAll xs
  | .none | .bool _ | .int _ | .str _ | .dict _ => true
def wideAll : List PyData → Bool
  | [] => true
  | x :: xs => wide x && wideAll xs
end
/-- two data that are the same are told to be the same -/
def spSame (K : PySem.W.Frag) (n : Nat) : Sp := fun vs H Q _ => ∃ (x y : V) (d : PyData), vs = [x, y] ∧ Dp K H x d ∧ Dp K H y d ∧ SeqAt.shaped d = true ∧ d.depth < n ∧ wide d = true ∧ ∀ H', Same H H' → Q (.bl true) H'
theorem shaped_at {ds : List PyData} {d : PyData} (hc : PyData.canLayAll0 ds = true) (hm : d ∈ ds) : d.canLay0 = true := by
  induction ds with
  | nil => cases hm
  | cons a r ih =>
    have h' : a.canLay0 = true ∧ PyData.canLayAll0 r = true := by simpa [PyData.canLayAll0] using hc
    rcases List.mem_cons.mp hm with e | hm
    · rw [e]
      exact h'.1
    · exact ih h'.2 hm
theorem depth_at {ds : List PyData} {d : PyData} (hm : d ∈ ds) : d.depth ≤ PyData.depthAll ds := by
  induction ds with
  | nil => cases hm
  | cons a r ih =>
    show d.depth ≤ max a.depth (PyData.depthAll r)
    rcases List.mem_cons.mp hm with e | hm
    · rw [e]
      omega
    · have := ih hm
      omega
theorem wide_at {ds : List PyData} {d : PyData} (hc : wideAll ds = true) (hm : d ∈ ds) : wide d = true := by
  induction ds with
  | nil => cases hm
  | cons a r ih =>
    have h' : wide a = true ∧ wideAll r = true := by simpa [wideAll] using hc
    rcases List.mem_cons.mp hm with e | hm
    · rw [e]
      exact h'.1
    · exact ih h'.2 hm
theorem all_rep : ∀ n : Nat, (List.replicate n true).all id = true
  | 0 => rfl
  | n + 1 => all_rep n
def spLaw (K : PySem.W.Frag) : Sp := fun vs H Q _ => ∃ (a : Addr) (ns : List Int), vs = [.ref a] ∧ SqL K H a (ns.map V.int) ∧ ∀ H', Q (.bl true) H'
/-! ### texts of trees -/
namespace Tree
def cs : Tree → List Nat
  | L => [120]
  | N l r => 40 :: (l.cs ++ (r.cs ++ [41]))
def txt (t : Tree) : Str := ⟨t.cs.toArray⟩
theorem cs_len : ∀ t : Tree, t.cs.length + 2 = 3 * t.sz
  | L => rfl
  | N l r => by
    have h1 := cs_len l
    have h2 := cs_len r
    show (40 :: (l.cs ++ (r.cs ++ [41]))).length + 2 = 3 * (l.sz + r.sz)
    rw [List.length_cons, List.length_append, List.length_append, List.length_singleton]
    omega
theorem txt_len (t : Tree) : t.txt.length = t.cs.length := by
  show t.cs.toArray.size = _
  simp
theorem txtN (l r : Tree) : (((Str.ofString "(" ++ l.txt) ++ r.txt) ++ Str.ofString ")") = (N l r).txt := by
  show (⟨((#[40] ++ l.cs.toArray) ++ r.cs.toArray) ++ #[41]⟩ : Str) = ⟨(40 :: (l.cs ++ (r.cs ++ [41]))).toArray⟩
  congr 1
  apply Array.toList_inj.mp
  simp
theorem txtL : Str.ofString "x" = L.txt := rfl
end Tree
def spText (K : PySem.W.Frag) (n : Nat) : Sp := fun vs H Q _ => ∃ (v : V) (t : Tree), vs = [v] ∧ TA K H v t ∧ t.dp < n ∧ n ≤ 40 ∧ t.sz ≤ 1000 ∧ ∀ H', Same H H' → Q (.str t.txt) H'
theorem spText_no {K : PySem.W.Frag} : ∀ vs H Q E, ¬ spText K 0 vs H Q E := fun vs H Q E h => by
  obtain ⟨v, t, _, _, h, _⟩ := h
  omega
theorem fits {n : Nat} (h : n ≤ 10000) : n ≤ sizeLine := Nat.le_trans h (by decide)
/-- the reader's pile: the lists of operands that are open, the innermost first -/
def room (ts : List Tree) (rest : List (List Tree)) : Nat := if rest.length = 0 then 1 else 2
def stp : List (List Tree) → Nat → Option (List (List Tree))
  | [], _ => none
  | ts :: rest, c => if c = 120 then (if ts.length < room ts rest then some ((ts ++ [.L]) :: rest) else none)
    else if c = 40 then (if ts.length < room ts rest then some ([] :: ts :: rest) else none)
    else if c = 41 then (match ts, rest with
      | [a, b], us :: more => some ((us ++ [.N a b]) :: more)
      | _, _ => none)
    else none
theorem stp_x (ts : List Tree) (rest : List (List Tree)) : stp (ts :: rest) 120 = if ts.length < room ts rest then some ((ts ++ [.L]) :: rest) else none := rfl
theorem stp_o (ts : List Tree) (rest : List (List Tree)) : stp (ts :: rest) 40 = if ts.length < room ts rest then some ([] :: ts :: rest) else none := rfl
theorem stp_c (ts : List Tree) (rest : List (List Tree)) : stp (ts :: rest) 41 = (match ts, rest with
      | [a, b], us :: more => some ((us ++ [.N a b]) :: more)
      | _, _ => none) := rfl
theorem stp_else (ts : List Tree) (rest : List (List Tree)) {c : Nat} (h1 : c ≠ 120) (h2 : c ≠ 40) (h3 : c ≠ 41) : stp (ts :: rest) c = none := by
  show (if c = 120 then _ else if c = 40 then _ else if c = 41 then _ else none) = none
  rw [if_neg h1, if_neg h2, if_neg h3]
def rn : List (List Tree) → List Nat → Option (List (List Tree))
  | st, [] => some st
  | st, c :: cs => (stp st c).bind fun st' => rn st' cs
theorem rn_tree : ∀ (t : Tree) (ts : List Tree) (rest : List (List Tree)) (more : List Nat), ts.length < room ts rest → rn (ts :: rest) (t.cs ++ more) = rn ((ts ++ [t]) :: rest) more
  | .L, ts, rest, more, h => by
    show (stp (ts :: rest) 120).bind (fun st' => rn st' more) = _
    rw [stp_x, if_pos h]
    rfl
  | .N l r, ts, rest, more, h => by
    have e : (Tree.N l r).cs ++ more = 40 :: (l.cs ++ (r.cs ++ (41 :: more))) := by
      show (40 :: (l.cs ++ (r.cs ++ [41]))) ++ more = _
      simp
    rw [e]
    show (stp (ts :: rest) 40).bind (fun st' => rn st' (l.cs ++ (r.cs ++ (41 :: more)))) = _
    have e1 : stp (ts :: rest) 40 = some ([] :: ts :: rest) := by
      rw [stp_o, if_pos h]
    rw [e1]
    show rn ([] :: ts :: rest) (l.cs ++ (r.cs ++ (41 :: more))) = _
    rw [rn_tree l [] (ts :: rest) _ (by show 0 < if (ts :: rest).length = 0 then 1 else 2; rw [if_neg (by simp)]; decide)]
    rw [rn_tree r _ (ts :: rest) _ (by show 1 < if (ts :: rest).length = 0 then 1 else 2; rw [if_neg (by simp)]; decide)]
    rfl
theorem rn_all (t : Tree) : rn [[]] t.cs = some [[t]] := by
  have h := rn_tree t [] [] [] (by decide)
  rw [List.append_nil] at h
  rw [h]
  rfl
theorem tlen {t : Tree} (h : t.sz ≤ 1000) : t.txt.length ≤ 3000 := by
  have h1 := t.cs_len
  have h2 := t.txt_len
  omega
theorem slen (a b : Str) : (a ++ b).length = a.length + b.length := by
  show (a.cps ++ b.cps).size = a.cps.size + b.cps.size
  simp
def spOkText (K : PySem.W.Frag) : Sp := fun vs H Q _ => ∃ (v : V) (t : Tree), vs = [v] ∧ TA K H v t ∧ t.sz ≤ 12 ∧ t.dp ≤ 6 ∧ ∀ H', Same H H' → Q (.str t.txt) H'
def spRoom : Sp := fun vs H Q _ => ∃ (p a : Addr) (as : List Addr) (ws : List V), vs = [.ref p] ∧ H p = some (.lst ((as ++ [a]).map V.ref)) ∧ H a = some (.lst ws) ∧ as.length ≤ 10000 ∧ ws.length ≤ 10000 ∧ Q (.bl (decide ((ws.length : Int) < if as.length = 0 then 1 else 2))) H
/-- reading the text of a tree gives the tree -/
def spRead (K : PySem.W.Frag) : Sp := fun vs H Q _ => ∃ t : Tree, vs = [.str t.txt] ∧ t.sz ≤ 1000 ∧ ∀ (v : V) (H' : Hp), TA K H' v t → Same H H' → Q v H'
def spParse (K : PySem.W.Frag) : Sp := fun vs H Q _ => ∃ t : Tree, vs = [.str t.txt] ∧ t.sz ≤ 12 ∧ t.dp ≤ 6 ∧ ∀ (v : V) (H' : Hp), TA K H' v t → Same H H' → Q v H'
inductive Pile (K : PySem.W.Frag) (G : Hp) : List Addr → List (List Tree) → Prop
  | nil : Pile K G [] []
  | cons {a : Addr} {vs : List V} {ts : List Tree} {as : List Addr} {st : List (List Tree)} : G a = some (.lst vs) → DpAll K G vs (ts.map Tree.d) → Pile K G as st → Pile K G (a :: as) (ts :: st)
theorem Pile.mono {K : PySem.W.Frag} {G G' : Hp} (tp : Tp G G') : ∀ {as : List Addr} {st : List (List Tree)}, (∀ a ∈ as, ∀ o, G a = some o → G' a = some o) → Pile K G as st → Pile K G' as st
  | _, _, _, .nil => .nil
  | _, _, k, .cons h1 h2 h3 => .cons (k _ List.mem_cons_self _ h1) (dpAll_tp tp h2) (Pile.mono tp (fun a ha => k a (List.mem_cons_of_mem _ ha)) h3)
/-- the pile at p, all of it new since H -/
def PileAt (K : PySem.W.Frag) (H G : Hp) (p : Addr) (st : List (List Tree)) : Prop := ∃ as : List Addr, G p = some (.lst (as.reverse.map V.ref)) ∧ as.Nodup ∧ p ∉ as ∧ H p = none ∧ (∀ a ∈ as, H a = none) ∧ Pile K G as st
theorem cs_small : ∀ (t : Tree) (c : Nat), c ∈ t.cs → c < 128
  | .L, c, h => by
    rw [List.mem_singleton.mp h]
    decide
  | .N l r, c, h => by
    have h : c ∈ 40 :: (l.cs ++ (r.cs ++ [41])) := h
    rcases List.mem_cons.mp h with e | h
    · rw [e]
      decide
    rcases List.mem_append.mp h with h | h
    · exact cs_small l c h
    rcases List.mem_append.mp h with h | h
    · exact cs_small r c h
    · rw [List.mem_singleton.mp h]
      decide
theorem txt_ok (t : Tree) : PyData.strOk t.txt = true := by
  show t.cs.toArray.all (· < 0x110000) = true
  rw [Array.all_eq_true']
  intro c hc
  have h := cs_small t c (by simpa using hc)
  exact decide_eq_true (by omega)
/-! ### the twenty errors of the law's words -/
def enames : List Str := ["InvalidTerm", "InvalidText", "InvalidPath", "PathNotFound", "NotRewritable", "TooLarge", "InvalidSize", "InvalidIndex", "InvalidWord", "InvalidStep", "InvalidElement", "InvalidModel", "NestingTooDeep", "InvalidLabel", "DuplicateName", "UnknownName", "LimitReached", "InvalidCommand", "EmptyHistory", "InvalidSnapshot"]
def en (i : Nat) : Str := enames.getD i ""
/-- where their classes stand -/
def Errs (mg : Str → Option Value) (cl : Nat → Addr) : Prop := ∀ i, i < 20 → mg (en i) = some (.ref (cl i))
/-- D's word is the j-th -/
structure Isw (K : PySem.W.Frag) (cl : Nat → Addr) (D : Addr) (j : Nat) : Prop where
  lt : j < 20
  kit : ∀ i, i < 20 → PySem.W.kitOne K (.ref D) (.ref (cl i)) = some (decide (i = j))
/-- the state between two rows: a list of n pairs -/
def NmI (H0 : Hp) (xh : Addr) (j n : Nat) (σ : L2.St) (H : Hp) : Prop := ∃ (L : Addr) (ps : List Addr), σ = [some (.ref xh), some (.ref L), none, none] ∧ Same H0 H ∧ ps.length = n ∧ H L = some (.lst (ps.map V.ref)) ∧
  ∀ i p, ps[i]? = some p → H p = some (.tup [.str (en i), .bl (decide (i = j))])
def tIs (K : PySem.W.Frag) (D xh c : Addr) : TE := fun σ H Q => tCons (tVar 0) (tCons (tC (.ref c)) tNil) σ H fun vs H1 => rIsB K D xh vs H1 Q
def tPr (K : PySem.W.Frag) (D xh : Addr) (cl : Nat → Addr) (i : Nat) : TE := tTup (tCons (tC (.str (en i))) (tCons (tIs K D xh (cl i)) tNil))
theorem tPr_ok {K : PySem.W.Frag} {D xh : Addr} {cl : Nat → Addr} {i j : Nat} {σ : L2.St} {H : Hp} {Q : VK} (hj : Isw K cl D j) (hi : i < 20) (e : σ[0]? = some (some (.ref xh))) (q : ∀ p, H p = none → Q (.ref p) (upd H p (.tup [.str (en i), .bl (decide (i = j))]))) : tPr K D xh cl i σ H Q := by
  exact ⟨_, e, _, _, _, rfl, .own _, hj.kit i hi, two_le, q⟩
theorem pairs_new {H0 H : Hp} {xh : Addr} {j n : Nat} {ps : List Addr} {p1 p2 : Addr} (hl : ps.length = n) (hp : ∀ i p, ps[i]? = some p → H p = some (.tup [.str (en i), .bl (decide (i = j))])) (n1 : H p1 = none)
    (n2 : upd H p1 (.tup [.str (en n), .bl (decide (n = j))]) p2 = none) :
    ∀ i p, (ps ++ [p1, p2])[i]? = some p → upd (upd H p1 (.tup [.str (en n), .bl (decide (n = j))])) p2 (.tup [.str (en (n + 1)), .bl (decide (n + 1 = j))]) p = some (.tup [.str (en i), .bl (decide (i = j))]) := by
  intro i p e
  have s1 := Same.new n1 (.tup [.str (en n), .bl (decide (n = j))])
  have s2 := Same.new n2 (.tup [.str (en (n + 1)), .bl (decide (n + 1 = j))])
  rcases Nat.lt_or_ge i ps.length with lt | ge
  · rw [List.getElem?_append_left lt] at e
    exact s2 _ _ (s1 _ _ (hp i p e))
  · rw [List.getElem?_append_right ge] at e
    obtain ⟨k, rfl⟩ : ∃ k, i = n + k := ⟨i - n, by omega⟩
    rw [show n + k - ps.length = k by omega] at e
    match k, e with
    | 0, e => cases e; exact s2 _ _ upd_same
    | 1, e => cases e; exact upd_same
theorem two_pr {K : PySem.W.Frag} {D xh : Addr} {cl : Nat → Addr} {i j : Nat} {σ : L2.St} {H : Hp} {Q : VK} (hj : Isw K cl D j) (hi : i + 1 < 20) (e : σ[0]? = some (some (.ref xh)))
    (q : ∀ p1 p2 L, H p1 = none → upd H p1 (.tup [.str (en i), .bl (decide (i = j))]) p2 = none → upd (upd H p1 (.tup [.str (en i), .bl (decide (i = j))])) p2 (.tup [.str (en (i + 1)), .bl (decide (i + 1 = j))]) L = none →
      Q (.ref L) (upd (upd (upd H p1 (.tup [.str (en i), .bl (decide (i = j))])) p2 (.tup [.str (en (i + 1)), .bl (decide (i + 1 = j))])) L (.lst [.ref p1, .ref p2]))) :
    tLst (tCons (tPr K D xh cl i) (tCons (tPr K D xh cl (i + 1)) tNil)) σ H Q := by
  show tPr K D xh cl i σ H (fun x H1 => tPr K D xh cl (i + 1) σ H1 fun y H2 => [x, y].length ≤ sizeLine ∧ ∀ p, H2 p = none → Q (.ref p) (upd H2 p (.lst [x, y])))
  refine tPr_ok hj (by omega) e fun p1 n1 => ?_
  refine tPr_ok hj hi e fun p2 n2 => ?_
  exact ⟨two_le, fun L nL => q p1 p2 L n1 n2 nL⟩
theorem nm_first {K : PySem.W.Frag} {D xh : Addr} {cl : Nat → Addr} {j : Nat} {H : Hp} {nx : L2.St → Hp → Prop} (hj : Isw K cl D j) (q : ∀ σ' H', NmI H xh j 2 σ' H' → nx σ' H') :
    tLst (tCons (tPr K D xh cl 0) (tCons (tPr K D xh cl 1) tNil)) [some (.ref xh), none, none, none] H fun x H1 => gName 1 x [some (.ref xh), none, none, none] H1 nx := by
  refine two_pr (i := 0) hj (by decide) rfl fun p1 p2 L n1 n2 nL => ?_
  have s3 := Same.new nL (.lst [.ref p1, .ref p2])
  exact q _ _ ⟨L, [p1, p2], rfl, ((Same.new n1 _).trans (Same.new n2 _)).trans s3, rfl, upd_same, fun i p e => s3 _ _ (pairs_new (ps := []) (n := 0) (H0 := H) (xh := xh) rfl (fun i p e => nomatch e) n1 n2 i p e)⟩
theorem nm_step {K : PySem.W.Frag} {D xh : Addr} {cl : Nat → Addr} {j n : Nat} {H0 H : Hp} {σ : L2.St} {nx : L2.St → Hp → Prop} (hj : Isw K cl D j) (hn : n + 1 < 20) (I : NmI H0 xh j n σ H) (q : ∀ σ' H', NmI H0 xh j (n + 2) σ' H' → nx σ' H') :
    tVar 1 σ H fun x H1 => (tLst (tCons (tPr K D xh cl n) (tCons (tPr K D xh cl (n + 1)) tNil))) σ H1 fun y H2 => rCat x y H2 fun z H3 => gName 1 z σ H3 nx := by
  obtain ⟨L, ps, rfl, sm, hl, hL, hp⟩ := I
  refine ⟨_, rfl, ?_⟩
  refine two_pr hj hn rfl fun p1 p2 b n1 n2 nb => ?_
  have s1 := (Same.new n1 (.tup [.str (en n), .bl (decide (n = j))])).trans (Same.new n2 (.tup [.str (en (n + 1)), .bl (decide (n + 1 = j))]))
  have s2 := Same.new nb (.lst [.ref p1, .ref p2])
  refine ⟨L, b, _, _, rfl, rfl, s2 _ _ (s1 _ _ hL), upd_same, ?_, fun r nr => ?_⟩
  · rw [List.length_map, hl]
    have : 100 ≤ sizeLine := by decide
    show n + 2 ≤ sizeLine
    omega
  · have s3 := Same.new nr (.lst (ps.map V.ref ++ [.ref p1, .ref p2]))
    refine q _ _ ⟨r, ps ++ [p1, p2], rfl, ((sm.trans s1).trans s2).trans s3, by rw [List.length_append, hl]; rfl, by rw [upd_same, List.map_append]; rfl, fun i p e => s3 _ _ (s2 _ _ (pairs_new (H0 := H) (xh := xh) hl hp n1 n2 i p e))⟩
theorem pe_no {X : Cx} {e : Expr} : PE X e (fun _ _ _ => False) := ⟨fun _ _ _ _ _ _ h => h.elim⟩
/-- a word without a field -/
def plainErr (j : Nat) : Bool := decide (j < 20) && !([1, 9, 17, 14, 15, 5, 19].contains j)
theorem plain_in3 : ∀ j, j < 20 → plainErr j = true → inV (.str (en j)) [.str (en 1), .str (en 9), .str (en 17)] = false := by decide +kernel
theorem plain_in2 : ∀ j, j < 20 → plainErr j = true → inV (.str (en j)) [.str (en 14), .str (en 15)] = false := by decide +kernel
theorem plain_big : ∀ j, j < 20 → plainErr j = true → decide (V.str (en j) = V.str (en 5)) = false := by decide +kernel
theorem plain_row : ∀ j, j < 20 → plainErr j = true → decide (V.str (en j) = V.str (en 19)) = false := by decide +kernel
theorem plain_lt {j : Nat} (h : plainErr j = true) : j < 20 := by
  unfold plainErr at h
  rw [Bool.and_eq_true] at h
  exact of_decide_eq_true h.1
theorem FnB.mono {P : Program} {w : World} {K : PySem.W.Frag} {mg : Str → Option Value} {base : Heap} {j k : Nat} {f : Addr} {fd : FuncData} {ps : List Str} {sp : Addr → Value → Option Addr → Sp} (F : FnB P w K mg base j f fd ps sp) (h : j ≤ k) : FnB P w K mg base k f fd ps sp :=
  fun A outer s H args us vs Q xh oh hr => F A outer s H args us vs Q xh oh (hr.mono h)
/-- the law's promise, its table empty -/
def spLawT (K : PySem.W.Frag) (Pt : Addr) : Sp := fun vs H Q _ => ∃ (a : Addr) (ns : List Int), vs = [.ref a] ∧ SqL K H a (ns.map V.int) ∧ H Pt = some (.tbl #[]) ∧ ∀ H', Q (.bl true) H'
/-- a def that may raise, with the context told -/
theorem Fun.okN {P : Program} {w : World} {K : PySem.W.Frag} {mg : Str → Option Value} {base : Heap} {x qual : Str} {st : Stmt} {f : Addr} {fd : FuncData} {N ps : List Str} {k : Nat} {sp : Sp} (F : L2.Fun K x qual st f fd) (S : FnScope N ps (defScope st)) (len : ∀ vs H Q E, sp vs H Q E → vs.length = ps.length)
    (hbody : ∀ (cdv : Value) (A : Around) (outer : List Env) (s : Shared) (H : Hp) (vs : List V) (Q : VK) (E : XK), Room k (A.deeper (PyProof.Rows.envOfC qual (defScope st) s.heap.objs.size f cdv)) → sp vs H Q E →
      ∃ t, PSs (cxOf (L2N.CX P w) P w K mg base N qual (defScope st) f cdv A outer s H E) (defBody st) t ∧ t { nx := fun _ H' => Q .non H', rt := Q } (L2.start N vs) H) : FnOk P w K mg base (L2N.CX P w) (k + 1) f fd ps sp := by
  obtain ⟨oc, od, kV, doc, pm, an, cdv, ct, osl, rfl, lk, hcd⟩ := F.ex
  exact fn_of lk hcd S len fun A outer s H vs Q E hr hsp => hbody cdv A outer s H vs Q E hr hsp
/-- what a raise of the class wants -/
structure ErrC (K : PySem.W.Frag) (mg : Str → Option Value) (x : Str) (C : Addr) : Prop where
  q : PySem.W.excIn K C [.type "ValueError", .type "Exception", .type "BaseException", .type "object"] "ValueError.__new__" = true
  g : mg x = some (.ref C)
  k : PySem.W.keepIn K (.ref C) = true
  b : PySem.W.subIn K (.ref C) (.type "BaseException") = some true
  t : PySem.W.typeIn K (.ref C) = some (.type "type")
theorem passF {X : Cx} : Passes (L2N.CX X.prog X.w) X (fun _ _ _ => False) := fun _ _ _ _ _ _ _ ⟨_, _, _, _, _, _, _, _, _, _, _, _, z⟩ => z.elim
theorem passL {X : Cx} {A : Around} {outer : List Env} {s : Shared} {H : Hp} {E : XK} {scope : Scope} {f c : Addr} : Passes (L2N.CX X.prog X.w) (lamCxN X A outer s H E scope f c) E :=
  L2C.passesN (X := lamCxN X A outer s H E scope f c) (L2C.takes_of rfl rfl rfl rfl)
theorem passLC {X : Cx} {A : Around} {outer : List Env} {s : Shared} {H : Hp} {E : XK} {scope : Scope} {f c : Addr} : Passes (L2C.CX X.prog X.w) (lamCxN X A outer s H E scope f c) E :=
  L2C.passes (X := lamCxN X A outer s H E scope f c) (L2C.takes_of rfl rfl rfl rfl)
theorem fourV {a b c d : V} : ([a, b, c, d] : List V).length ≤ sizeLine := by show 4 ≤ sizeLine; decide
theorem fiveV {a b c d e : V} : ([a, b, c, d, e] : List V).length ≤ sizeLine := by show 5 ≤ sizeLine; decide
theorem tabs_set {T : List (Addr × Str)} {H H' : Hp} {D : Addr} {xs : List V} (t : LamX.Tabs T H) (hD : H D = some (.lst xs)) (e : ∀ b o, b ≠ D → H b = some o → H' b = some o) : LamX.Tabs T H' := fun p hp => by
  obtain ⟨ps, h1, h2, h3⟩ := t p hp
  refine ⟨ps, e _ _ (fun z => by rw [z, hD] at h1; cases h1) h1, h2, fun pos cv ec => ?_⟩
  obtain ⟨c, rfl, hc⟩ := h3 pos cv ec
  exact ⟨c, rfl, e _ _ (fun z => by rw [z, hD] at hc; cases hc) hc⟩
theorem passD {P : Program} {w : World} {K : PySem.W.Frag} {mg : Str → Option Value} {base : Heap} {N : List Str} {q : Str} {sc : Scope} {f : Addr} {cdv : Value} {A : Around} {outer : List Env} {s : Shared} {H : Hp} {E : XK} : Passes (L2N.CX P w) (cxOf (L2N.CX P w) P w K mg base N q sc f cdv A outer s H E) E :=
  L2N.passes_call (X := cxOf (L2N.CX P w) P w K mg base N q sc f cdv A outer s H E) (W := fun cls d _ H => E cls d H) (L2N.takes_of rfl rfl rfl rfl) fun _ _ _ _ h => h
/-! ### nested tuples of any form -/
mutual
def tupD : PyData → Bool
  | .tuple xs => tupL xs
  | .none | .bool _ | .int _ | .str _ | .list _ | .dict _ => false
def tupL : List PyData → Bool
  | [] => true
  | x :: xs => tupD x && tupL xs
end
mutual
def ndD : PyData → Nat
  | .tuple xs => ndL xs + 1
  | .none | .bool _ | .int _ | .str _ | .list _ | .dict _ => 1
def ndL : List PyData → Nat
  | [] => 0
  | x :: xs => ndD x + ndL xs
end
def add2 : Option Nat → Option Nat → Option Nat
  | some a, some b => some (a + b)
  | _, _ => none
theorem add2_none (o : Option Nat) : add2 o none = none := by cases o <;> rfl
theorem add2_assoc (a b c : Option Nat) : add2 (add2 a b) c = add2 a (add2 b c) := by
  cases a <;> cases b <;> cases c <;> first | rfl | exact congrArg some (Nat.add_assoc _ _ _)
theorem add2_zero (a : Option Nat) : add2 a (some 0) = a := by cases a <;> rfl
/-- how many generators, where the depth is at most b -/
def szD : Nat → PyData → Option Nat
  | _, .tuple [] => some 1
  | b + 1, .tuple [x, y] => add2 (szD b x) (szD b y)
  | _, _ => none
def okd (d : PyData) : Bool := match szD 6 d with
  | some n => decide (n ≤ 12)
  | none => false
def isPr : PyData → Bool
  | .tuple [_, _] => true
  | _ => false
def isE : PyData → Bool
  | .tuple [] => true
  | _ => false
theorem eqvE {d : PyData} (h : tupD d = true) : PyData.eqv d (.tuple []) = isE d := by
  cases d with
  | tuple xs => cases xs <;> rfl
  | none => exact absurd h (by decide)
  | bool _ => exact absurd h (by simp [tupD])
  | int _ => exact absurd h (by simp [tupD])
  | str _ => exact absurd h (by simp [tupD])
  | list _ => exact absurd h (by simp [tupD])
  | dict _ => exact absurd h (by simp [tupD])
theorem szD_E (b : Nat) : szD b (.tuple []) = some 1 := by cases b <;> rfl
theorem szD_pr (b : Nat) (x y : PyData) : szD (b + 1) (.tuple [x, y]) = add2 (szD b x) (szD b y) := rfl
theorem szD_bad {b : Nat} {d : PyData} (h1 : isE d = false) (h2 : isPr d = false ∨ b = 0) : szD b d = none := by
  cases d with
  | tuple xs =>
    match xs, b, h1, h2 with
    | [], _, h1, _ => exact absurd h1 (by decide)
    | [x, y], 0, _, _ => rfl
    | [x, y], b + 1, _, .inl h => exact Bool.noConfusion h
    | [x], 0, _, _ => rfl
    | [x], b + 1, _, _ => rfl
    | x :: y :: z :: r, 0, _, _ => rfl
    | x :: y :: z :: r, b + 1, _, _ => rfl
  | none => cases b <;> rfl
  | bool _ => cases b <;> rfl
  | int _ => cases b <;> rfl
  | str _ => cases b <;> rfl
  | list _ => cases b <;> rfl
  | dict _ => cases b <;> rfl
def rem : List (V × PyData × Nat) → Option Nat
  | [] => some 0
  | p :: ps => add2 (szD (6 - p.2.2) p.2.1) (rem ps)
theorem rem_app : ∀ ps qs : List (V × PyData × Nat), rem (ps ++ qs) = add2 (rem ps) (rem qs)
  | [], qs => by
    show rem qs = add2 (some 0) (rem qs)
    cases rem qs with
    | none => rfl
    | some n => exact congrArg some (Nat.zero_add n).symm
  | p :: ps, qs => by
    show add2 (szD (6 - p.2.2) p.2.1) (rem (ps ++ qs)) = add2 (add2 (szD (6 - p.2.2) p.2.1) (rem ps)) (rem qs)
    rw [rem_app ps qs, add2_assoc]
theorem rem_snoc (ps : List (V × PyData × Nat)) (p : V × PyData × Nat) : rem (ps ++ [p]) = add2 (rem ps) (szD (6 - p.2.2) p.2.1) := by
  rw [rem_app]
  show add2 (rem ps) (add2 _ (some 0)) = _
  rw [add2_zero]
def fnl (n : Nat) : Option Nat → Bool
  | some m => decide (n + m ≤ 12)
  | none => false
theorem fnl_one (n : Nat) (o : Option Nat) : fnl n (add2 o (some 1)) = fnl (n + 1) o := by
  cases o with
  | none => rfl
  | some m =>
    show decide (n + (m + 1) ≤ 12) = decide (n + 1 + m ≤ 12)
    rw [show n + (m + 1) = n + 1 + m by omega]
theorem fnl_big {n : Nat} (h : 12 < n) (o : Option Nat) : fnl n o = false := by
  cases o with
  | none => rfl
  | some m => exact decide_eq_false (by omega)
theorem okd_fnl (v : V) (d : PyData) : okd d = fnl 0 (rem [(v, d, 0)]) := by
  show okd d = fnl 0 (add2 (szD 6 d) (some 0))
  rw [add2_zero]
  unfold okd
  cases szD 6 d with
  | none => rfl
  | some n =>
    show decide (n ≤ 12) = decide (0 + n ≤ 12)
    rw [Nat.zero_add]
def ndn (ps : List (V × PyData × Nat)) : Nat := (ps.map fun p => ndD p.2.1).sum
theorem ndn_snoc (ps : List (V × PyData × Nat)) (p) : ndn (ps ++ [p]) = ndn ps + ndD p.2.1 := by
  unfold ndn
  rw [List.map_append, List.sum_append]
  simp
theorem ndD_pos : ∀ d : PyData, 0 < ndD d := by
  intro d
  cases d with
  | tuple xs => exact Nat.succ_pos _
  | none => decide
  | bool _ => exact Nat.one_pos
  | int _ => exact Nat.one_pos
  | str _ => exact Nat.one_pos
  | list _ => exact Nat.one_pos
  | dict _ => exact Nat.one_pos
theorem ndn_len : ∀ ps : List (V × PyData × Nat), ps.length ≤ ndn ps
  | [] => Nat.zero_le _
  | p :: ps => by
    have h := ndn_len ps
    have h2 := ndD_pos p.2.1
    show ps.length + 1 ≤ (ndD p.2.1 :: ps.map fun p => ndD p.2.1).sum
    rw [List.sum_cons]
    unfold ndn at h
    omega
/-- a value that is a nested tuple -/
structure NT (K : PySem.W.Frag) (H : Hp) (v : V) (d : PyData) : Prop where
  dp : Dp K H v d
  tup : tupD d = true
  shp : SeqAt.shaped d = true
mutual
theorem dp_tp {K : PySem.W.Frag} {H H' : Hp} (e : Tp H H') : ∀ (d : PyData) {v : V}, tupD d = true → Dp K H v d → Dp K H' v d
  | .tuple ds, _, t, h => by
    cases h with
    | tup hs ha => exact .tup (e.sqT hs) (dpAll_tpD e ds t ha)
  | .none, _, t, _ => absurd t (by decide)
  | .bool _, _, t, _ => absurd t (by simp [tupD])
  | .int _, _, t, _ => absurd t (by simp [tupD])
  | .str _, _, t, _ => absurd t (by simp [tupD])
  | .list _, _, t, _ => absurd t (by simp [tupD])
  | .dict _, _, t, _ => absurd t (by simp [tupD])
theorem dpAll_tpD {K : PySem.W.Frag} {H H' : Hp} (e : Tp H H') : ∀ (ds : List PyData) {vs : List V}, tupL ds = true → DpAll K H vs ds → DpAll K H' vs ds
  | [], _, _, h => by
    cases h
    exact .nil
  | d :: ds, _, t, h => by
    have t' : tupD d = true ∧ tupL ds = true := Bool.and_eq_true_iff.mp t
    cases h with
    | cons h1 h2 => exact .cons (dp_tp e d t'.1 h1) (dpAll_tpD e ds t'.2 h2)
end
theorem NT.tp {K : PySem.W.Frag} {H H' : Hp} {v : V} {d : PyData} (e : Tp H H') (h : NT K H v d) : NT K H' v d := ⟨dp_tp e d h.tup h.dp, h.tup, h.shp⟩
theorem NT.inv {K : PySem.W.Frag} {H : Hp} {v : V} {d : PyData} (h : NT K H v d) : ∃ a xs ds, v = .ref a ∧ d = .tuple ds ∧ SqT K H a xs ∧ DpAll K H xs ds := by
  obtain ⟨h1, h2, _⟩ := h
  cases h1 with
  | tup hs ha => exact ⟨_, _, _, rfl, rfl, hs, ha⟩
  | non => exact absurd h2 (by decide)
  | bl b => exact absurd h2 (by simp [tupD])
  | int i => exact absurd h2 (by simp [tupD])
  | str z => exact absurd h2 (by simp [tupD])
  | lst _ _ => exact absurd h2 (by simp [tupD])
theorem shaped_sub {ds : List PyData} {d : PyData} (h : SeqAt.shaped (.tuple ds) = true) (hm : d ∈ ds) : SeqAt.shaped d = true := by
  have hc : PyData.canLayAll0 ds = true := SeqAt.canLay_of_shaped h
  have hd := SeqAt.depth_of_shaped h
  have hd' : (PyData.tuple ds).depth = PyData.depthAll ds + 1 := rfl
  have hdi := depth_at hm
  unfold SeqAt.shaped
  rw [shaped_at hc hm, decide_eq_true (by omega)]
  rfl
theorem NT.pr {K : PySem.W.Frag} {H : Hp} {v : V} {d : PyData} (h : NT K H v d) (hp : isPr d = true) : ∃ a x y d1 d2, v = .ref a ∧ d = .tuple [d1, d2] ∧ SqT K H a [x, y] ∧ NT K H x d1 ∧ NT K H y d2 := by
  obtain ⟨a, xs, ds, rfl, rfl, hS, hA⟩ := h.inv
  obtain ⟨d1, d2, rfl⟩ : ∃ d1 d2, ds = [d1, d2] := by
    rcases ds with _ | ⟨d1, _ | ⟨d2, _ | ⟨d3, r⟩⟩⟩
    · exact absurd hp (by simp [isPr])
    · exact absurd hp (by simp [isPr])
    · exact ⟨d1, d2, rfl⟩
    · exact absurd hp (by simp [isPr])
  cases hA with
  | cons h1 h2 =>
    cases h2 with
    | cons h2 h3 =>
      cases h3
      have t : (tupD d1 && (tupD d2 && true)) = true := h.tup
      have t1 := Bool.and_eq_true_iff.mp t
      have t2 := Bool.and_eq_true_iff.mp t1.2
      exact ⟨a, _, _, d1, d2, rfl, rfl, hS, ⟨h1, t1.1, shaped_sub h.shp (by simp)⟩, ⟨h2, t2.1, shaped_sub h.shp (by simp)⟩⟩
theorem tree_tup : ∀ t : Tree, tupD t.d = true
  | .L => rfl
  | .N l r => by
    show (tupD l.d && (tupD r.d && true)) = true
    rw [tree_tup l, tree_tup r]
    rfl
theorem tree_nd : ∀ t : Tree, ndD t.d = t.nodes
  | .L => rfl
  | .N l r => by
    show ndD l.d + (ndD r.d + 0) + 1 = l.nodes + r.nodes + 1
    rw [tree_nd l, tree_nd r]
    omega
theorem tree_nodes : ∀ t : Tree, t.nodes + 1 = 2 * t.sz
  | .L => rfl
  | .N l r => by
    have h1 := tree_nodes l
    have h2 := tree_nodes r
    show l.nodes + r.nodes + 1 + 1 = 2 * (l.sz + r.sz)
    omega
theorem tree_szD : ∀ (t : Tree) (b : Nat), szD b t.d = if t.dp ≤ b then some t.sz else none
  | .L, b => by
    show szD b (.tuple []) = if 0 ≤ b then some 1 else none
    rw [if_pos (Nat.zero_le _)]
    exact szD_E b
  | .N l r, 0 => by
    show none = if max l.dp r.dp + 1 ≤ 0 then some (l.sz + r.sz) else none
    rw [if_neg (by omega)]
  | .N l r, b + 1 => by
    show add2 (szD b l.d) (szD b r.d) = if max l.dp r.dp + 1 ≤ b + 1 then some (l.sz + r.sz) else none
    rw [tree_szD l b, tree_szD r b]
    by_cases h1 : l.dp ≤ b
    · by_cases h2 : r.dp ≤ b
      · rw [if_pos h1, if_pos h2, if_pos (by omega)]
        rfl
      · rw [if_neg h2, add2_none, if_neg (show ¬ (max l.dp r.dp + 1 ≤ b + 1) by omega)]
    · rw [if_neg h1, if_neg (show ¬ (max l.dp r.dp + 1 ≤ b + 1) by omega)]
      rfl
theorem tree_okd (t : Tree) : okd t.d = (decide (t.dp ≤ 6) && decide (t.sz ≤ 12)) := by
  unfold okd
  rw [tree_szD]
  by_cases h : t.dp ≤ 6
  · rw [if_pos h, decide_eq_true h]
    rfl
  · rw [if_neg h, decide_eq_false h]
    rfl
theorem szD_tree : ∀ (b : Nat) (d : PyData) (n : Nat), szD b d = some n → ∃ t : Tree, d = t.d ∧ t.sz = n ∧ t.dp ≤ b := by
  intro b
  induction b with
  | zero =>
    intro d n h
    by_cases e : isE d = true
    · cases d with
      | tuple xs =>
        cases xs with
        | nil => exact ⟨.L, rfl, Option.some.inj h, Nat.zero_le _⟩
        | cons _ _ => exact absurd e (by simp [isE])
      | none => exact absurd e (by simp [isE])
      | bool _ => exact absurd e (by simp [isE])
      | int _ => exact absurd e (by simp [isE])
      | str _ => exact absurd e (by simp [isE])
      | list _ => exact absurd e (by simp [isE])
      | dict _ => exact absurd e (by simp [isE])
    · rw [szD_bad (by simpa using e) (.inr rfl)] at h
      cases h
  | succ b ih =>
    intro d n h
    by_cases e : isE d = true
    · cases d with
      | tuple xs =>
        cases xs with
        | nil => exact ⟨.L, rfl, Option.some.inj h, Nat.zero_le _⟩
        | cons _ _ => exact absurd e (by simp [isE])
      | none => exact absurd e (by simp [isE])
      | bool _ => exact absurd e (by simp [isE])
      | int _ => exact absurd e (by simp [isE])
      | str _ => exact absurd e (by simp [isE])
      | list _ => exact absurd e (by simp [isE])
      | dict _ => exact absurd e (by simp [isE])
    · by_cases e2 : isPr d = true
      · cases d with
        | tuple xs =>
          match xs, e2, h with
          | [x, y], _, h =>
            have h0 : add2 (szD b x) (szD b y) = some n := h
            clear h
            cases h1 : szD b x with
            | none => rw [h1] at h0; cases h0
            | some m =>
              cases h2 : szD b y with
              | none => rw [h2, add2_none] at h0; cases h0
              | some k =>
                rw [h1, h2] at h0
                have h' : m + k = n := Option.some.inj h0
                obtain ⟨t1, rfl, q1, r1⟩ := ih x m h1
                obtain ⟨t2, rfl, q2, r2⟩ := ih y k h2
                exact ⟨.N t1 t2, rfl, by show t1.sz + t2.sz = n; omega, by show max t1.dp t2.dp + 1 ≤ b + 1; omega⟩
        | none => exact absurd e2 (by simp [isPr])
        | bool _ => exact absurd e2 (by simp [isPr])
        | int _ => exact absurd e2 (by simp [isPr])
        | str _ => exact absurd e2 (by simp [isPr])
        | list _ => exact absurd e2 (by simp [isPr])
        | dict _ => exact absurd e2 (by simp [isPr])
      · rw [szD_bad (by simpa using e) (.inl (by simpa using e2))] at h
        cases h
theorem okd_tree {d : PyData} (h : okd d = true) : ∃ t : Tree, d = t.d ∧ t.sz ≤ 12 ∧ t.dp ≤ 6 := by
  unfold okd at h
  cases e : szD 6 d with
  | none => rw [e] at h; cases h
  | some n =>
    rw [e] at h
    obtain ⟨t, h1, h2, h3⟩ := szD_tree 6 d n e
    exact ⟨t, h1, by rw [h2]; exact of_decide_eq_true h, h3⟩
theorem NT.of {K : PySem.W.Frag} {H : Hp} {v : V} {t : Tree} (h : TA K H v t) (hd : t.dp ≤ 63) : NT K H v t.d := ⟨h, tree_tup t, Tree.shaped hd⟩
def spIsPairD (K : PySem.W.Frag) : Sp := fun vs H Q _ => ∃ (v : V) (d : PyData), vs = [v] ∧ NT K H v d ∧ Q (.bl (isPr d)) H
def spIsTerm (K : PySem.W.Frag) : Sp := fun vs H Q _ => ∃ (v : V) (d : PyData), vs = [v] ∧ NT K H v d ∧ ndD d ≤ 1000 ∧ ∀ H', Same H H' → Q (.bl (okd d)) H'
/-- check_term: nothing, or the error -/
def spChk (K : PySem.W.Frag) (C : Addr) : Sp := fun vs H Q E => ∃ (v : V) (d : PyData), vs = [v] ∧ NT K H v d ∧ ndD d ≤ 1000 ∧ (okd d = true → ∀ H', Same H H' → Q .non H') ∧ (okd d = false → ∀ H', Same H H' → E (.ref C) none H')
def ItemD (K : PySem.W.Frag) (H : Hp) (p : V × PyData × Nat) : Prop := ∃ (a : Addr) (u : V), p.1 = .ref a ∧ SqT K H a [u, .int p.2.2] ∧ NT K H u p.2.1 ∧ p.2.2 ≤ 6
theorem ItemD.mono {K : PySem.W.Frag} {H H' : Hp} (e : Tp H H') {p : V × PyData × Nat} (h : ItemD K H p) : ItemD K H' p := by
  obtain ⟨a, u, h1, h2, h3, h4⟩ := h
  exact ⟨a, u, h1, e.sqT h2, h3.tp e, h4⟩
/-! ### picking -/
theorem But.sqL {K : PySem.W.Frag} {r l : Addr} {H H' : Hp} {xs : List V} (e : But r H H') (n : l ≠ r) (h : SqL K H l xs) : SqL K H' l xs := by
  rcases h with (h | ⟨o, h⟩) | h
  · exact .inl (.inl (e _ _ n h))
  · exact .inl (.inr ⟨o, e _ _ n h⟩)
  · exact .inr h
theorem But.sqT {K : PySem.W.Frag} {r l : Addr} {H H' : Hp} {xs : List V} (e : But r H H') (n : l ≠ r) (h : SqT K H l xs) : SqT K H' l xs := by
  rcases h with (h | ⟨o, h⟩) | h
  · exact .inl (.inl (e _ _ n h))
  · exact .inl (.inr ⟨o, e _ _ n h⟩)
  · exact .inr h
def spPick (K : PySem.W.Frag) : Sp := fun vs H Q _ => ∃ (r l : Addr) (xs : List V), vs = [.ref r, .ref l] ∧ Rng H r ∧ (SqL K H l xs ∨ SqT K H l xs) ∧ 0 < xs.length ∧ xs.length ≤ 10000 ∧ l ≠ r ∧ ∀ v H', v ∈ xs → Rng H' r → But r H H' → Q v H'
theorem rix_in {K : PySem.W.Frag} {H : Hp} {a : Addr} {xs : List V} {n : Int} {Q : VK} (h : SqL K H a xs ∨ SqT K H a xs) (h0 : 0 ≤ n) (h1 : n < xs.length) (q : ∀ v, v ∈ xs → Q v H) : rIx K (.ref a) (.int n) H Q := by
  have lt : n.toNat < xs.length := by omega
  obtain ⟨v, hi⟩ : ∃ v, xs[n.toNat]? = some v := ⟨_, List.getElem?_eq_getElem lt⟩
  have hq := q v (List.mem_of_getElem? hi)
  have e : atI xs n = some v := by
    have e : n = ((n.toNat : Nat) : Int) := by omega
    rw [e]
    exact atI_nat hi
  rcases h with h | h
  · exact .inl ⟨a, xs, n, v, rfl, rfl, h, e, hq⟩
  · exact .inr (.inl ⟨a, xs, n, v, rfl, rfl, h, e, hq⟩)
/-! ### written nested tuples -/
def Mk (K : PySem.W.Frag) (te : TE) (d : PyData) : Prop := ∀ σ H (Q : VK), (∀ v H', Same H H' → Dp K H' v d → Q v H') → te σ H Q
theorem mk0 {K : PySem.W.Frag} : Mk K (tTup tNil) (.tuple []) := fun σ H Q q => ⟨zero_le', fun p np => q _ _ (Same.new np _) (Dp.tup (SqT.here upd_same) .nil)⟩
theorem mk1 {K : PySem.W.Frag} {e : TE} {d : PyData} (h : Mk K e d) : Mk K (tTup (tCons e tNil)) (.tuple [d]) := fun σ H Q q =>
  h σ H _ fun v H1 s1 h1 => ⟨one_le, fun p np => q _ _ (s1.trans (Same.new np _)) (Dp.tup (SqT.here upd_same) (.cons (dp_same (Same.new np _) _ h1) .nil))⟩
theorem mk2 {K : PySem.W.Frag} {e1 e2 : TE} {d1 d2 : PyData} (h : Mk K e1 d1) (h' : Mk K e2 d2) : Mk K (tTup (tCons e1 (tCons e2 tNil))) (.tuple [d1, d2]) := fun σ H Q q =>
  h σ H _ fun v H1 s1 h1 => h' σ H1 _ fun v2 H2 s2 h2 => ⟨two_le, fun p np => q _ _ ((s1.trans s2).trans (Same.new np _)) (Dp.tup (SqT.here upd_same) (.cons (dp_same (s2.trans (Same.new np _)) _ h1) (.cons (dp_same (Same.new np _) _ h2) .nil)))⟩
theorem mk3 {K : PySem.W.Frag} {e1 e2 e3 : TE} {d1 d2 d3 : PyData} (h : Mk K e1 d1) (h' : Mk K e2 d2) (h'' : Mk K e3 d3) : Mk K (tTup (tCons e1 (tCons e2 (tCons e3 tNil)))) (.tuple [d1, d2, d3]) := fun σ H Q q =>
  h σ H _ fun v H1 s1 h1 => h' σ H1 _ fun v2 H2 s2 h2 => h'' σ H2 _ fun v3 H3 s3 h3 => ⟨by show 3 ≤ sizeLine; decide, fun p np => q _ _ (((s1.trans s2).trans s3).trans (Same.new np _)) (Dp.tup (SqT.here upd_same) (.cons (dp_same ((s2.trans s3).trans (Same.new np _)) _ h1) (.cons (dp_same (s3.trans (Same.new np _)) _ h2) (.cons (dp_same (Same.new np _) _ h3) .nil))))⟩
theorem lst5 {K : PySem.W.Frag} {e1 e2 e3 e4 e5 : TE} {d1 d2 d3 d4 d5 : PyData} (h1 : Mk K e1 d1) (h2 : Mk K e2 d2) (h3 : Mk K e3 d3) (h4 : Mk K e4 d4) (h5 : Mk K e5 d5) {i : Nat} {B : TS} {D : Ends} {σ : L2.St} {H : Hp}
    (q : ∀ a v1 v2 v3 v4 v5 H', Same H H' → H a = none → H' a = some (.lst [v1, v2, v3, v4, v5]) → DpAll K H' [v1, v2, v3, v4, v5] [d1, d2, d3, d4, d5] → B D (σ.set i (some (.ref a))) H') : tSeq (tAsg (tLst (tCons e1 (tCons e2 (tCons e3 (tCons e4 (tCons e5 tNil)))))) (gName i)) B D σ H :=
  h1 σ H _ fun v1 H1 s1 k1 => h2 σ H1 _ fun v2 H2 s2 k2 => h3 σ H2 _ fun v3 H3 s3 k3 => h4 σ H3 _ fun v4 H4 s4 k4 => h5 σ H4 _ fun v5 H5 s5 k5 => ⟨fiveV, fun a na => by
    have sa := Same.new na (.lst [v1, v2, v3, v4, v5])
    exact q a v1 v2 v3 v4 v5 _ (s1.trans (s2.trans (s3.trans (s4.trans (s5.trans sa))))) ((s1.trans (s2.trans (s3.trans (s4.trans s5)))).free na) upd_same
      (.cons (dp_same (s2.trans (s3.trans (s4.trans (s5.trans sa)))) _ k1) (.cons (dp_same (s3.trans (s4.trans (s5.trans sa))) _ k2) (.cons (dp_same (s4.trans (s5.trans sa)) _ k3) (.cons (dp_same (s5.trans sa) _ k4) (.cons (dp_same sa _ k5) .nil)))))⟩
/-- a value that no term is -/
def BadV (K : PySem.W.Frag) (H : Hp) (v : V) : Prop := ∃ d, NT K H v d ∧ ndD d ≤ 1000 ∧ okd d = false
theorem BadV.tp {K : PySem.W.Frag} {H H' : Hp} {v : V} (e : Tp H H') (h : BadV K H v) : BadV K H' v := by
  obtain ⟨d, h1, h2⟩ := h
  exact ⟨d, h1.tp e, h2⟩
def spBadT (K : PySem.W.Frag) : Sp := fun vs H Q _ => ∃ r : Addr, vs = [.ref r] ∧ Rng H r ∧ ∀ v H', BadV K H' v → Rng H' r → But r H H' → Q v H'
theorem BadV.tree {K : PySem.W.Frag} {H : Hp} {v : V} {t : Tree} (h : TA K H v t) (hd : t.dp ≤ 63) (hz : t.sz ≤ 100) (no : 6 < t.dp ∨ 12 < t.sz) : BadV K H v := by
  have e := tree_nodes t
  refine ⟨t.d, NT.of h hd, by rw [tree_nd]; omega, ?_⟩
  rw [tree_okd]
  rcases no with no | no
  · rw [decide_eq_false (by omega)]
    rfl
  · rw [decide_eq_false (show ¬ t.sz ≤ 12 by omega), Bool.and_false]
section OPN
open PySem.Spec PyProof.Rows
/-! ### t[::-1] -/
section
variable {prog : Program} {w : World} {A : Around} {E : Value → Shared → Prop} {s : Shared}
theorem sliceApplied_rev {sl : Addr} {vs : Value} {n : Nat} {Q : Int × Int × Nat → Shared → Prop} (hs : s.heap.IsSliceOf sl .none .none vs) (ps : IsPart vs (some (-1))) (h : Q ((n : Int) - 1, -1, n) s) : wpAny (model prog w) A (Builtin.Slice.sliceApplied (.ref sl) (pure (n : Int))) Q E s := by
  obtain ⟨os, hos, hcs, hds⟩ := id hs
  unfold Builtin.Slice.sliceApplied Builtin.Slice.sliceFields
  refine wpAny_bind (wpAny_bind (wpAny_field hos hds (x := .none) rfl (wpAny_bind (wpAny_field hos hds (x := .none) rfl (wpAny_bind (wpAny_field hos hds (x := vs) rfl (wpAny_pure ?_)))))))
  refine wpAny_bind (HT.slicePart_ ps ?_)
  show wpAny _ _ (if ((-1 : Int) == 0) = true then _ else _) _ _ s
  rw [if_neg (by decide)]
  refine wpAny_bind (HT.slicePart_ .none (wpAny_bind (HT.slicePart_ .none (wpAny_bind (wpAny_pure ?_)))))
  show wpAny _ _ (pure ((n : Int) - 1, (-1 : Int), Builtin.Slice.slicePlaces ((n : Int) - 1) (-1) (-1))) _ _ s
  have e : Builtin.Slice.slicePlaces ((n : Int) - 1) (-1) (-1) = n := by
    unfold Builtin.Slice.slicePlaces
    have h1 : ¬ ((-1 : Int) > 0) := by decide
    rw [if_neg h1, show (- -1 : Int) = 1 by decide]
    simp only [Int.ediv_one]
    split <;> omega
  rw [e]
  exact wpAny_pure h
theorem pick_rev (xs : Array Value) : ((List.range xs.size).filterMap fun (m : Nat) => xs[(((xs.size : Nat) : Int) - 1 + (m : Int) * -1).toNat]?).toArray = xs.toList.reverse.toArray := by
  congr 1
  rw [← PySem.W.krv_all xs, ← List.filterMap_reverse, ← PySem.W.krv_range, List.filterMap_map]
  have key : ∀ l : List Nat, (∀ m ∈ l, m < xs.size) → l.filterMap (fun (m : Nat) => xs[(((xs.size : Nat) : Int) - 1 + (m : Int) * -1).toNat]?) = l.filterMap ((fun x => xs[x]?) ∘ fun k => xs.size - 1 - k) := by
    intro l
    induction l with
    | nil => intro _; rfl
    | cons a r ih =>
      intro h
      have ha := h a List.mem_cons_self
      rw [List.filterMap_cons, List.filterMap_cons, ih fun m hm => h m (List.mem_cons_of_mem _ hm)]
      have e : (((xs.size : Nat) : Int) - 1 + (a : Int) * -1).toNat = xs.size - 1 - a := by omega
      rw [e]
      rfl
  exact key _ fun m hm => List.mem_range.mp hm
theorem getItem_tuple_rev {t sl : Addr} {items : Array Value} {vs : Value} {Q : Value → Shared → Prop} (ht : IsTup s.heap t items) (hs : s.heap.IsSliceOf sl .none .none vs) (ps : IsPart vs (some (-1)))
    (h : Q (.ref s.heap.objs.size) { s with heap := s.heap.push { cls := .type "tuple", data := .seq items.toList.reverse.toArray } })
    (hsz : items.size ≤ sizeLine) : wpAny (model prog w) A (getItem (.ref t) (.ref sl)) Q E s := by
  have htake : sizeOk (.seq items.toList.reverse.toArray) := by
    show items.toList.reverse.toArray.size ≤ sizeLine
    rw [List.size_toArray, List.length_reverse, Array.length_toList]
    exact hsz
  obtain ⟨os, hos, hcs, hds⟩ := id hs
  have hTs : s.TypeIs (.ref sl) "slice" := ⟨os, hos, hcs⟩
  unfold getItem
  try with_reducible refine wpAny_holding ?_
  first | refine wpAny_bind (wpAny_pure ?_) | skip
  refine wpAny_bind (wpAny_sequenceKey ht.typeIs (by decide) ?_)
  refine wpAny_bind (wpAny_callSpecial?_slot (name := Str.ofString "__getitem__") ht.typeIs PyProof.Rows.slot_tuple_getitem
    (wpAny_call_entry PyProof.Rows.slot_tuple_getitem ht.typeIs entry_tuple_getitem ?_ (args_tuple_getitem _ _)))
  show wpAny _ _ (Builtin.Tuple.tupleItemsOf (.ref t) >>= _) _ _ s
  refine wpAny_bind (tupleItemsOf_ ht ?_)
  refine wpAny_bind (wpAny_typeOf hTs ?_)
  rw [if_pos (by decide)]
  refine wpAny_bind (sliceApplied_rev hs ps ?_)
  have hno : ¬ ((((items.size : Nat) : Int) - 1 == 0 && (-1 : Int) == 1 && items.size == items.size) = true) := by
    intro q
    rw [Bool.and_eq_true, Bool.and_eq_true] at q
    exact absurd q.1.2 (by decide)
  show wpAny _ _ (if (((items.size : Nat) : Int) - 1 == 0 && (-1 : Int) == 1 && items.size == items.size) = true then _ else _) _ _ s
  rw [if_neg hno, pick_rev]
  first
    | exact wpAny_bind (m := Builtin.Tuple.tupleExact _) (wpAny_newObj_type (wpAny_pure ⟨_, rfl, wpAny_pure h⟩) htake)
    | exact wpAny_bind (m := Builtin.Tuple.tupleExact _) (wpAny_newObj_type (wpAny_bind (wpAny_pure (wpAny_pure ⟨_, rfl, wpAny_pure h⟩))) htake)
    | exact wpAny_bind (wpAny_bind (m := Builtin.Tuple.tupleExact _) (wpAny_newObj_type (wpAny_pure (wpAny_pure ⟨_, rfl, wpAny_pure h⟩)) htake))
    | exact wpAny_bind (wpAny_bind (m := Builtin.Tuple.tupleExact _) (wpAny_newObj_type (wpAny_pure ⟨_, rfl, wpAny_pure h⟩) htake))
end
def tRevT (K : PySem.W.Frag) (te : TE) : TE := fun σ H Q => te σ H fun x H1 => ∃ a xs, x = .ref a ∧ SqT K H1 a xs ∧ ∀ p, H1 p = none → Q (.ref p) (upd H1 p (.tup xs.reverse))
theorem pe_revT {X : Cx} {e : Expr} {te : TE} {k : Nat} {p1 p2 p3 pos : Pos} (he : PE X e te) : PE X (.Subscript e (.Slice none none (some (.UnaryOp .USub (.Constant (.int 1) k p1) p2)) p3) pos) (tRevT X.K te) := by
  refine ⟨fun pins s σ H Q I h => ?_⟩
  refine Subscript_ (thn (he.run pins s σ H _ I h) fun v s1 ⟨x, H1, I1, r1, q1⟩ => ?_)
  obtain ⟨a, xs, ex, hx, q⟩ := q1
  subst ex
  cases r1
  have hst : PO X (some (.UnaryOp .USub (.Constant (.int 1) k p1) p2)) (tPart (tUn (rU fun i => .int (-i)) (tC (.int 1)))) := po_some (pe_un un_neg pe_int)
  refine wpAny_Slice (thn (po_none.run pins s1 σ H1 (fun o H2 => o = none ∧ H2 = H1) I1 ⟨rfl, rfl⟩) fun vl s2 ⟨l, H2, I2, pl, el, e2⟩ => ?_)
  subst el e2
  refine thn (po_none.run pins s2 σ H2 (fun o H3 => o = none ∧ H3 = H2) I2 ⟨rfl, rfl⟩) fun vu s3 ⟨u, H3, I3, pu, eu, e3⟩ => ?_
  subst eu e3
  refine thn (hst.run pins s3 σ H3 (fun o H4 => o = some (-1) ∧ H4 = H3) I3 ⟨1, rfl, -1, rfl, rfl, rfl⟩) fun vs s4 ⟨o, H4, I4, ps, eo, e4⟩ => ?_
  subst eo e4
  cases pl
  cases pu
  have I5 : Inv X pins σ H4 { s4 with heap := s4.heap.push { cls := .type "slice", data := .fields #[.none, .none, vs] } } := I4.kept (t' := s4.toks) fun b ob q => Heap.get?_push_of_some _ q
  obtain ⟨its, r, ht, hz⟩ := I5.tuple hx
  have hlen := r.length
  show wpAny (model X.prog X.w) X.A (subscriptTail e (.Slice none none (some (.UnaryOp .USub (.Constant (.int 1) k p1) p2)) p3) (.ref a) (.ref s4.heap.objs.size)) (EP X pins σ Q) X.xe { s4 with heap := s4.heap.push { cls := .type "slice", data := .fields #[.none, .none, vs] } }
  refine tail_any (ops := [.ref a, .ref s4.heap.objs.size]) ht.typeIs (PyProof.Rows.slot_tuple_getitem.lookup) ?_ (by with_unfolding_all rfl)
  refine getItem_tuple_rev ht (Heap.IsSliceOf.new _ .none .none vs) ps ?_ (by rw [List.size_toArray]; omega)
  refine ⟨.ref _, _, I5.laid (t' := s4.toks) (o := .tup xs.reverse) (fun b ob q => Heap.get?_push_of_some _ q) (Nat.le_refl _) ?_, rfl, q _ (I5.hok.fresh (Nat.le_refl _))⟩
  exact ⟨by rw [List.length_reverse]; exact hz, _, r.reverse, IsTup.new _ _⟩
/-! ### comprehensions that map -/
theorem take_snoc {α : Type} {l : List α} {i : Nat} {x : α} (h : l[i]? = some x) : l.take (i + 1) = l.take i ++ [x] := by
  rw [List.take_add_one, h]
  rfl
section
variable {K : PySem.W.Frag} {a : Addr} {xs : List V} {ψ : V → V} {g : TG} {te : TE} {vs : List Nat} {σ : L2.St} {H1 : Hp} {D : Addr} {Qd : Hp → Prop}
theorem lc_mapT (hD : H1 D = none) (hS : SqT K H1 a xs) (hl : xs.length ≤ 10000)
    (hs : ∀ x G (R : V → Hp → Prop), x ∈ xs → Same H1 G → (∀ H4, Same G H4 → R (ψ x) H4) → g x (wipe σ vs) G fun σ2 H2 => wipe σ2 vs = wipe σ vs ∧ te σ2 H2 R)
    (hd : ∀ G, Same H1 G → G D = some (.lst (xs.map ψ)) → Qd G) :
    ∃ W : Nat → Nat → Hp → Prop, (∃ m, W 0 m (upd H1 D (.lst []))) ∧ ∀ i m H, W i m H →
      ((Itt K a).stop i H ∧ Qd H) ∨ ((Itt K a).go i H ∧ ∃ Nx : Hp → Prop, (∀ H', Nx H' → ∃ m', m' < m ∧ W (i + 1) m' H') ∧ ∀ x H', (Itt K a).yld i H x H' → g x (wipe σ vs) H' fun σ2 H2 => wipe σ2 vs = wipe σ vs ∧ tYes σ2 H2 fun b H3 =>
        if b = true then te σ2 H3 fun y H4 => ∃ acc, H4 D = some (.lst acc) ∧ acc.length < sizeLine ∧ Nx (upd H4 D (.lst (acc ++ [y]))) else Nx H3) := by
  refine lc_tup (K := K) (a := a) (xs := xs) (tt := tYes) (fun i G => Same H1 G ∧ G D = some (.lst ((xs.take i).map ψ))) ⟨Same.new hD _, upd_same⟩ (fun i G _ z => (Tp.same z.1).sqT hS) ?_ ?_
  · rintro i x G hi ⟨sm, hl2⟩
    refine hs x G _ (List.mem_of_getElem? hi) sm fun H4 s4 => ⟨_, s4 _ _ hl2, ?_, fun b o z => ?_, ?_⟩
    · have := (List.getElem?_eq_some_iff.mp hi).1
      rw [List.length_map, List.length_take]
      exact Nat.lt_of_lt_of_le (by omega : _ < 10001) (by decide)
    · rw [upd_ne (ne_of_none z hD)]
      exact s4 _ _ (sm _ _ z)
    · rw [upd_same, take_snoc hi, List.map_append]
      rfl
  · rintro G ⟨sm, h⟩
    rw [List.take_of_length_le (Nat.le_refl _)] at h
    exact hd G sm h
theorem lc_mapL (hD : H1 D = none) (hS : SqL K H1 a xs) (hl : xs.length ≤ 10000)
    (hs : ∀ x G (R : V → Hp → Prop), x ∈ xs → Same H1 G → (∀ H4, Same G H4 → R (ψ x) H4) → g x (wipe σ vs) G fun σ2 H2 => wipe σ2 vs = wipe σ vs ∧ te σ2 H2 R)
    (hd : ∀ G, Same H1 G → G D = some (.lst (xs.map ψ)) → Qd G) :
    ∃ W : Nat → Nat → Hp → Prop, (∃ m, W 0 m (upd H1 D (.lst []))) ∧ ∀ i m H, W i m H →
      ((Itl K a).stop i H ∧ Qd H) ∨ ((Itl K a).go i H ∧ ∃ Nx : Hp → Prop, (∀ H', Nx H' → ∃ m', m' < m ∧ W (i + 1) m' H') ∧ ∀ x H', (Itl K a).yld i H x H' → g x (wipe σ vs) H' fun σ2 H2 => wipe σ2 vs = wipe σ vs ∧ tYes σ2 H2 fun b H3 =>
        if b = true then te σ2 H3 fun y H4 => ∃ acc, H4 D = some (.lst acc) ∧ acc.length < sizeLine ∧ Nx (upd H4 D (.lst (acc ++ [y]))) else Nx H3) := by
  refine lc_list (K := K) (a := a) (xs := xs) (tt := tYes) (fun i G => Same H1 G ∧ G D = some (.lst ((xs.take i).map ψ))) ⟨Same.new hD _, upd_same⟩ (fun i G _ z => z.1.seq hS) ?_ ?_
  · rintro i x G hi ⟨sm, hl2⟩
    refine hs x G _ (List.mem_of_getElem? hi) sm fun H4 s4 => ⟨_, s4 _ _ hl2, ?_, fun b o z => ?_, ?_⟩
    · have := (List.getElem?_eq_some_iff.mp hi).1
      rw [List.length_map, List.length_take]
      exact Nat.lt_of_lt_of_le (by omega : _ < 10001) (by decide)
    · rw [upd_ne (ne_of_none z hD)]
      exact s4 _ _ (sm _ _ z)
    · rw [upd_same, take_snoc hi, List.map_append]
      rfl
  · rintro G ⟨sm, h⟩
    rw [List.take_of_length_le (Nat.le_refl _)] at h
    exact hd G sm h
theorem lc_mapRT (hD : H1 D = none) (hS : SqT K H1 a xs) (hl : xs.length ≤ 10000)
    (hs : ∀ x G (R : V → Hp → Prop), x ∈ xs → Same H1 G → (∀ H4, Same G H4 → R (ψ x) H4) → g x (wipe σ vs) G fun σ2 H2 => wipe σ2 vs = wipe σ vs ∧ te σ2 H2 R)
    (hd : ∀ G, Same H1 G → G D = some (.lst (xs.reverse.map ψ)) → Qd G) :
    ∃ W : Nat → Nat → Hp → Prop, (∃ m, W 0 m (upd H1 D (.lst []))) ∧ ∀ i m H, W i m H →
      ((RT.ItvT K a xs.length).stop i H ∧ Qd H) ∨ ((RT.ItvT K a xs.length).go i H ∧ ∃ Nx : Hp → Prop, (∀ H', Nx H' → ∃ m', m' < m ∧ W (i + 1) m' H') ∧ ∀ x H', (RT.ItvT K a xs.length).yld i H x H' → g x (wipe σ vs) H' fun σ2 H2 => wipe σ2 vs = wipe σ vs ∧ tYes σ2 H2 fun b H3 =>
        if b = true then te σ2 H3 fun y H4 => ∃ acc, H4 D = some (.lst acc) ∧ acc.length < sizeLine ∧ Nx (upd H4 D (.lst (acc ++ [y]))) else Nx H3) := by
  refine ⟨fun i m G => m = xs.length - i ∧ i ≤ xs.length ∧ Same H1 G ∧ G D = some (.lst ((xs.reverse.take i).map ψ)), ⟨_, rfl, Nat.zero_le _, Same.new hD _, upd_same⟩, ?_⟩
  rintro i m G ⟨rfl, hi, sm, hl2⟩
  rcases Nat.lt_or_ge i xs.length with lt | ge
  · have hS' := (Tp.same sm).sqT hS
    have lt' : xs.length - 1 - i < xs.length := by omega
    have hx : xs[xs.length - 1 - i]? = some xs[xs.length - 1 - i] := List.getElem?_eq_getElem lt'
    have hr : xs.reverse[i]? = some xs[xs.length - 1 - i] := by rw [List.getElem?_reverse lt]; exact hx
    refine .inr ⟨⟨lt, xs, _, hS', hx⟩, fun G => Same H1 G ∧ G D = some (.lst ((xs.reverse.take (i + 1)).map ψ)), fun H' z => ⟨_, (by omega : xs.length - (i + 1) < xs.length - i), rfl, by omega, z.1, z.2⟩, ?_⟩
    rintro x G' ⟨rfl, hy⟩
    have ex := (hy xs hS').symm.trans hx
    cases ex
    refine hs _ G' _ (List.getElem_mem lt') sm fun H4 s4 => ⟨_, s4 _ _ hl2, ?_, fun b o z => ?_, ?_⟩
    · rw [List.length_map, List.length_take, List.length_reverse]
      exact Nat.lt_of_lt_of_le (by omega : _ < 10001) (by decide)
    · rw [upd_ne (ne_of_none z hD)]
      exact s4 _ _ (sm _ _ z)
    · rw [upd_same, take_snoc hr, List.map_append]
      rfl
  · refine .inl ⟨ge, hd G sm ?_⟩
    rw [hl2, List.take_of_length_le (by rw [List.length_reverse]; exact ge)]
end
/-! ### words -/
def ab (n : Int) : Int := if n < 0 then -n else n
def isLet (n : Int) : Bool := decide (n ≠ 0) && decide (ab n ≤ 40)
def okW (ns : List Int) : Bool := decide (ns.length ≤ 300) && ns.all isLet
def inv (ns : List Int) : List Int := ns.reverse.map fun n => -n
def sgn (m l : Int) : Int := if 0 < l then m else -m
def shf (k : Int) (ns : List Int) : List Int := ns.map fun n => sgn (ab n + k) n
abbrev WT (K : PySem.W.Frag) (H : Hp) (a : Addr) (ns : List Int) : Prop := SqT K H a (ns.map V.int)
theorem cat_ok {K : PySem.W.Frag} {H : Hp} {a b : Addr} {xs ys : List V} {Q : VK} (ha : SqT K H a xs) (hb : SqT K H b ys) (hl : xs.length + ys.length ≤ sizeLine) (q : ∀ p H', Same H H' → SqT K H' p (xs ++ ys) → Q (.ref p) H') : rCatA K (.ref a) (.ref b) H Q := by
  refine ⟨a, b, xs, ys, rfl, rfl, ha, hb, hl, fun e => ?_, fun _ e => ?_, fun _ _ p np => ?_⟩
  · subst e
    exact q b H (Same.refl _) hb
  · subst e
    exact q a H (Same.refl _) (by rw [List.append_nil]; exact ha)
  · exact q p _ (Same.new np _) (SqT.here upd_same)
def vInt : V → Int
  | .int n => n
  | _ => 0
theorem map_int {ψ : Int → V} (ns : List Int) : (ns.map V.int).map (fun v => ψ (vInt v)) = ns.map ψ := by
  rw [List.map_map]
  rfl
theorem mem_int {ns : List Int} {x : V} (h : x ∈ ns.map V.int) : ∃ n, n ∈ ns ∧ x = .int n := by
  obtain ⟨n, h1, h2⟩ := List.mem_map.mp h
  exact ⟨n, h1, h2.symm⟩
def spLet : Sp := fun vs H Q _ => ∃ n : Int, vs = [.int n] ∧ Q (.bl (isLet n)) H
def spAre (K : PySem.W.Frag) : Sp := fun vs H Q _ => ∃ (a : Addr) (ns : List Int), vs = [.ref a] ∧ WT K H a ns ∧ ns.length ≤ 10000 ∧ ∀ H', Same H H' → Q (.bl (ns.all isLet)) H'
def spChkW (K : PySem.W.Frag) (C : Addr) : Sp := fun vs H Q E => ∃ (a : Addr) (ns : List Int), vs = [.ref a] ∧ WT K H a ns ∧ ns.length ≤ 10000 ∧ (okW ns = true → ∀ H', Same H H' → Q .non H') ∧ (okW ns = false → ∀ H', Same H H' → E (.ref C) none H')
/-- a def over one word that gives a new one -/
def spWW (K : PySem.W.Frag) (φ : List Int → List Int) : Sp := fun vs H Q _ => ∃ (a : Addr) (ns : List Int), vs = [.ref a] ∧ WT K H a ns ∧ ns.length ≤ 10000 ∧ ∀ p H', Same H H' → WT K H' p (φ ns) → Q (.ref p) H'
def spSgn : Sp := fun vs H Q _ => ∃ m l : Int, vs = [.int m, .int l] ∧ Q (.int (sgn m l)) H
def spShf (K : PySem.W.Frag) : Sp := fun vs H Q _ => ∃ (a : Addr) (ns : List Int) (k : Int), vs = [.ref a, .int k] ∧ WT K H a ns ∧ ns.length ≤ 10000 ∧ ∀ p H', Same H H' → WT K H' p (shf k ns) → Q (.ref p) H'
/-- inverse: the word, or the error -/
def spInvE (K : PySem.W.Frag) (C : Addr) : Sp := fun vs H Q E => ∃ (a : Addr) (ns : List Int), vs = [.ref a] ∧ WT K H a ns ∧ ns.length ≤ 10000 ∧ (okW ns = true → ∀ p H', Same H H' → WT K H' p (inv ns) → Q (.ref p) H') ∧ (okW ns = false → ∀ H', Same H H' → E (.ref C) none H')
/-- shifted: the word, or the first error -/
def spShfE (K : PySem.W.Frag) (CW CS : Addr) : Sp := fun vs H Q E => ∃ (a : Addr) (ns : List Int) (k : Int), vs = [.ref a, .int k] ∧ WT K H a ns ∧ ns.length ≤ 10000 ∧ (okW ns = true → 0 ≤ k → k ≤ 20 → (shf k ns).all isLet = true → ∀ p H', Same H H' → WT K H' p (shf k ns) → Q (.ref p) H') ∧
  (okW ns = false → ∀ H', Same H H' → E (.ref CW) none H') ∧ (okW ns = true → ¬ (0 ≤ k ∧ k ≤ 20) → ∀ H', Same H H' → E (.ref CS) none H') ∧ (okW ns = true → 0 ≤ k → k ≤ 20 → (shf k ns).all isLet = false → ∀ H', Same H H' → E (.ref CW) none H')
/-- the law's sign, step by sign -/
def lsg (n : Int) : Int := if 0 < n then 1 else -1
theorem shf_law (k n : Int) : n + k * lsg n = sgn (ab n + k) n := by
  unfold lsg sgn ab
  by_cases h : 0 < n
  · rw [if_pos h, if_pos h, if_neg (by omega), Int.mul_one]
  · rw [if_neg h, if_neg h]
    by_cases h2 : n < 0
    · rw [if_pos h2, Int.mul_neg, Int.mul_one]
      omega
    · rw [if_neg h2, Int.mul_neg, Int.mul_one]
      omega
def spSign : Sp := fun vs H Q _ => ∃ n : Int, vs = [.int n] ∧ Q (.int (lsg n)) H
/-- the law's own shift: a step below 2 ^ 64 -/
def spShfL (K : PySem.W.Frag) : Sp := fun vs H Q _ => ∃ (a : Addr) (ns : List Int) (k : Int), vs = [.ref a, .int k] ∧ WT K H a ns ∧ ns.length ≤ 10000 ∧ -1000 ≤ k ∧ k ≤ 1000 ∧ ∀ p H', Same H H' → WT K H' p (shf k ns) → Q (.ref p) H'
theorem shf_len (k : Int) (ns : List Int) : (shf k ns).length = ns.length := by unfold shf; rw [List.length_map]
theorem inv_len (ns : List Int) : (inv ns).length = ns.length := by unfold inv; rw [List.length_map, List.length_reverse]
structure BltW (mg : Str → Option Value) : Prop where
  abs : mg "abs" = none
  reversed : mg "reversed" = none
  any : mg "any" = none
structure CstW (mg : Str → Option Value) : Prop where
  MAX_LETTER : ∃ t, mg "MAX_LETTER" = some (.int 40 t)
  MAX_LETTERS : ∃ t, mg "MAX_LETTERS" = some (.int 300 t)
end OPN
section WDT
def wD (ns : List Int) : PyData := .tuple (ns.map .int)
theorem dp_ints {K : PySem.W.Frag} {H : Hp} : ∀ ns : List Int, DpAll K H (ns.map V.int) (ns.map PyData.int)
  | [] => .nil
  | n :: ns => .cons (.int n) (dp_ints ns)
theorem dp_wt {K : PySem.W.Frag} {H : Hp} {p : Addr} {ns : List Int} (h : WT K H p ns) : Dp K H (.ref p) (wD ns) := Dp.tup h (dp_ints ns)
theorem lay_ints : ∀ ns : List Int, PyData.canLayAll0 (ns.map .int) = true
  | [] => rfl
  | n :: ns => by
    show (PyData.canLay0 (.int n) && PyData.canLayAll0 (ns.map .int)) = true
    rw [lay_ints ns]
    rfl
theorem depth_ints : ∀ ns : List Int, PyData.depthAll (ns.map .int) ≤ 1
  | [] => Nat.zero_le _
  | n :: ns => by
    have h := depth_ints ns
    have e : (PyData.int n).depth ≤ 1 := by first | exact Nat.le_refl _ | exact Nat.zero_le _
    show max (PyData.int n).depth (PyData.depthAll (ns.map .int)) ≤ 1
    omega
theorem wD_depth (ns : List Int) : (wD ns).depth ≤ 2 := by
  have h := depth_ints ns
  show PyData.depthAll (ns.map .int) + 1 ≤ 2
  omega
theorem wD_shaped (ns : List Int) : SeqAt.shaped (wD ns) = true := by
  have h := wD_depth ns
  unfold SeqAt.shaped
  rw [show (wD ns).canLay0 = PyData.canLayAll0 (ns.map .int) from rfl, lay_ints, decide_eq_true (by omega)]
  rfl
theorem wide_ints : ∀ ns : List Int, wideAll (ns.map .int) = true
  | [] => rfl
  | n :: ns => by
    show (wide (.int n) && wideAll (ns.map .int)) = true
    rw [wide_ints ns]
    rfl
theorem wD_wide {ns : List Int} (h : ns.length ≤ 1000) : wide (wD ns) = true := by
  show (decide ((ns.map PyData.int).length ≤ 1000) && wideAll (ns.map .int)) = true
  rw [List.length_map, decide_eq_true h, wide_ints]
  rfl
/-- the same word twice -/
theorem same_w {K : PySem.W.Frag} {H : Hp} {p q : Addr} {ns : List Int} {Q : VK} {E : XK} (h1 : WT K H p ns) (h2 : WT K H q ns) (hl : ns.length ≤ 1000) (k : ∀ H', Same H H' → Q (.bl true) H') : spSame K 12 [.ref p, .ref q] H Q E :=
  ⟨_, _, wD ns, rfl, dp_wt h1, dp_wt h2, wD_shaped ns, by have := wD_depth ns; omega, wD_wide hl, k⟩
theorem ne_w {K : PySem.W.Frag} {H : Hp} {p q : Addr} {ns : List Int} {Q : VK} (h1 : WT K H p ns) (h2 : WT K H q ns) (k : Q (.bl false) H) : rNeD K (.ref p) (.ref q) H Q := by
  refine ⟨wD ns, wD ns, dp_wt h1, dp_wt h2, wD_shaped ns, wD_shaped ns, ?_⟩
  rw [SeqAt.eqv_refl _ (SeqAt.canLay_of_shaped (wD_shaped ns))]
  exact k
theorem eq_w {K : PySem.W.Frag} {H : Hp} {p q : Addr} {ns : List Int} {Q : VK} (h1 : WT K H p ns) (h2 : WT K H q ns) (k : Q (.bl true) H) : rEqD K (.ref p) (.ref q) H Q := by
  refine ⟨wD ns, wD ns, dp_wt h1, dp_wt h2, wD_shaped ns, wD_shaped ns, ?_⟩
  rw [SeqAt.eqv_refl _ (SeqAt.canLay_of_shaped (wD_shaped ns))]
  exact k
end WDT
theorem Tp.extN {H H' : Hp} (e : LamX.ExtN H H') : Tp H H' := fun b xs h => by
  rcases h with h | ⟨o, h⟩
  · exact .inl (e _ _ h (fun _ => by intro y; cases y))
  · exact .inr ⟨o, e _ _ h (fun _ => by intro y; cases y)⟩
theorem Rng.extN {H H' : Hp} {r : Addr} (e : LamX.ExtN H H') (h : Rng H r) : Rng H' r := by
  obtain ⟨c, ns, i, b, s, h1, h2, h3⟩ := h
  exact ⟨c, ns, i, b, s, e _ _ h1 (fun _ => by intro y; cases y), e _ _ h2 (fun _ => by intro y; cases y), h3⟩
theorem tabs1 {Pt : Addr} {q : Str} {H : Hp} (h : H Pt = some (.tbl #[])) : LamX.Tabs [(Pt, q)] H := fun p hp => by
  rw [List.mem_singleton.mp hp]
  exact ⟨#[], h, by trivial, fun _ _ z => (nomatch z)⟩
/-- an error's word and no field -/
def eD (j : Nat) : PyData := .tuple [.str (en j), .none]
theorem eD_shaped : ∀ j < 20, SeqAt.shaped (eD j) = true := by decide +kernel
theorem eq_e {K : PySem.W.Frag} {H : Hp} {p q : Addr} {j : Nat} {Q : VK} (hj : j < 20) (h1 : SqT K H p [.str (en j), .non]) (h2 : SqT K H q [.str (en j), .non]) (k : Q (.bl true) H) : rEqD K (.ref p) (.ref q) H Q := by
  refine ⟨eD j, eD j, Dp.tup h1 (.cons (.str _) (.cons .non .nil)), Dp.tup h2 (.cons (.str _) (.cons .non .nil)), eD_shaped j hj, eD_shaped j hj, ?_⟩
  rw [SeqAt.eqv_refl _ (SeqAt.canLay_of_shaped (eD_shaped j hj))]
  exact k
/-! ### the word of a term -/
def wd : Tree → List Int
  | .L => []
  | .N l r => ((wd l ++ shf 1 (wd r)) ++ [1]) ++ shf 1 (inv (wd l))
def lwd : Tree → List Int
  | .L => []
  | .N l r => ((lwd l ++ shf 1 (lwd r)) ++ [1]) ++ inv (shf 1 (lwd l))
theorem wd_lenN (l r : Tree) : (wd (.N l r)).length = 2 * (wd l).length + (wd r).length + 1 := by
  show (((wd l ++ shf 1 (wd r)) ++ [1]) ++ shf 1 (inv (wd l))).length = _
  rw [List.length_append, List.length_append, List.length_append, shf_len, shf_len, inv_len, List.length_singleton]
  omega
def wtab : List (List Nat) := [[0, 0, 0, 0, 0, 0, 0, 0, 0, 0, 0, 0, 0], [0, 0, 1, 1, 1, 1, 1, 1, 1, 1, 1, 1, 1], [0, 0, 1, 3, 4, 4, 4, 4, 4, 4, 4, 4, 4], [0, 0, 1, 3, 7, 9, 10, 12, 13, 13, 13, 13, 13], [0, 0, 1, 3, 7, 15, 19, 21, 25, 27, 28, 32, 34], [0, 0, 1, 3, 7, 15, 31, 39, 43, 51, 55, 57, 65], [0, 0, 1, 3, 7, 15, 31, 63, 79, 87, 103, 111, 115]]
def wt (d n : Nat) : Nat := (wtab.getD d []).getD n 0
theorem wt_all : ((List.range 6).all fun d => (List.range 12).all fun a => (List.range 12).all fun b => decide (0 < a → 0 < b → a + b ≤ 12 → 2 * wt d a + wt d b + 1 ≤ wt (d + 1) (a + b))) = true := by decide +kernel
theorem wt_step (d : Nat) (hd : d < 6) (a : Nat) (ha : a < 12) (b : Nat) (hb : b < 12) : 0 < a → 0 < b → a + b ≤ 12 → 2 * wt d a + wt d b + 1 ≤ wt (d + 1) (a + b) := by
  have h1 := List.all_eq_true.mp wt_all d (List.mem_range.mpr hd)
  have h2 := List.all_eq_true.mp h1 a (List.mem_range.mpr ha)
  have h3 := List.all_eq_true.mp h2 b (List.mem_range.mpr hb)
  exact of_decide_eq_true h3
theorem wd_tab : ∀ (d : Nat), d ≤ 6 → ∀ t : Tree, t.dp ≤ d → t.sz ≤ 12 → (wd t).length ≤ wt d t.sz
  | d, _, .L, _, _ => Nat.zero_le _
  | 0, _, .N l r, h, _ => absurd (show max l.dp r.dp + 1 ≤ 0 from h) (by omega)
  | d + 1, hd, .N l r, h, hz => by
    have h : max l.dp r.dp + 1 ≤ d + 1 := h
    have hz : l.sz + r.sz ≤ 12 := hz
    have p1 := l.sz_pos
    have p2 := r.sz_pos
    have h1 := wd_tab d (by omega) l (by omega) (by omega)
    have h2 := wd_tab d (by omega) r (by omega) (by omega)
    have h3 := wt_step d (by omega) l.sz (by omega) r.sz (by omega) p1 p2 hz
    rw [wd_lenN]
    show _ ≤ wt (d + 1) (l.sz + r.sz)
    omega
theorem wt_top : ∀ n < 13, wt 6 n ≤ 115 := by decide +kernel
theorem wd_len {t : Tree} (hd : t.dp ≤ 6) (hz : t.sz ≤ 12) : (wd t).length ≤ 115 := Nat.le_trans (wd_tab 6 (Nat.le_refl _) t hd hz) (wt_top _ (by omega))
theorem ab_pos {n : Int} (h : 0 < n) : ab n = n := if_neg (by omega)
theorem ab_neg {n : Int} (h : n < 0) : ab n = -n := if_pos h
theorem shf_let {k n : Int} (hk : 0 ≤ k) (h : n ≠ 0) : sgn (ab n + k) n ≠ 0 ∧ ab (sgn (ab n + k) n) = ab n + k := by
  unfold sgn
  rcases Int.lt_or_gt_of_ne h with h | h
  · rw [if_neg (by omega), ab_neg h, ab_neg (by omega)]
    omega
  · rw [if_pos h, ab_pos h, ab_pos (by omega)]
    omega
theorem inv_let {n : Int} (h : n ≠ 0) : -n ≠ 0 ∧ ab (-n) = ab n := by
  rcases Int.lt_or_gt_of_ne h with h | h
  · rw [ab_neg h, ab_pos (by omega)]
    omega
  · rw [ab_pos h, ab_neg (by omega)]
    omega
/-- every letter is no 0 and at most m -/
def Lets (m : Int) (ns : List Int) : Prop := ∀ n ∈ ns, n ≠ 0 ∧ ab n ≤ m
theorem Lets.mono {m m' : Int} {ns : List Int} (h : m ≤ m') (l : Lets m ns) : Lets m' ns := fun n hn => ⟨(l n hn).1, Int.le_trans (l n hn).2 h⟩
theorem Lets.app {m : Int} {ns ms : List Int} (h1 : Lets m ns) (h2 : Lets m ms) : Lets m (ns ++ ms) := fun n hn => (List.mem_append.mp hn).elim (h1 n) (h2 n)
theorem Lets.shf {m k : Int} (hk : 0 ≤ k) {ns : List Int} (h : Lets m ns) : Lets (m + k) (shf k ns) := fun n hn => by
  obtain ⟨x, hx, rfl⟩ := List.mem_map.mp hn
  have a := h x hx
  have b := shf_let hk a.1
  exact ⟨b.1, by rw [b.2]; omega⟩
theorem Lets.inv {m : Int} {ns : List Int} (h : Lets m ns) : Lets m (inv ns) := fun n hn => by
  obtain ⟨x, hx, rfl⟩ := List.mem_map.mp hn
  have a := h x (List.mem_reverse.mp hx)
  have b := inv_let a.1
  exact ⟨b.1, by rw [b.2]; exact a.2⟩
theorem Lets.all {m : Int} (hm : m ≤ 40) {ns : List Int} (h : Lets m ns) : ns.all isLet = true := by
  rw [List.all_eq_true]
  intro n hn
  have a := h n hn
  unfold isLet
  rw [decide_eq_true a.1, decide_eq_true (by omega)]
  rfl
theorem okW_of {m : Int} (hm : m ≤ 40) {ns : List Int} (h : Lets m ns) (hl : ns.length ≤ 300) : okW ns = true := by
  unfold okW
  rw [decide_eq_true hl, h.all hm]
  rfl
theorem wd_lets : ∀ t : Tree, Lets t.dp (wd t)
  | .L => fun n hn => by cases hn
  | .N l r => by
    have h1 := wd_lets l
    have h2 := wd_lets r
    have e : ((Tree.N l r).dp : Int) = ((max l.dp r.dp + 1 : Nat) : Int) := rfl
    rw [e]
    refine Lets.app (Lets.app (Lets.app (h1.mono (by omega)) ((h2.shf (by omega)).mono (by omega))) ?_) ((h1.inv.shf (by omega)).mono (by omega))
    intro n hn
    rw [List.mem_singleton.mp hn, ab_pos (by decide)]
    exact ⟨by decide, by omega⟩
theorem shf_inv {k : Int} {ns : List Int} (h : ∀ n ∈ ns, n ≠ 0) : inv (shf k ns) = shf k (inv ns) := by
  unfold inv shf
  rw [← List.map_reverse, List.map_map, List.map_map]
  apply List.map_congr_left
  intro n hn
  have h0 := h n (List.mem_reverse.mp hn)
  show -(sgn (ab n + k) n) = sgn (ab (-n) + k) (-n)
  rw [(inv_let h0).2]
  unfold sgn
  rcases Int.lt_or_gt_of_ne h0 with h | h
  · rw [if_neg (by omega), if_pos (by omega)]
    omega
  · rw [if_pos h, if_neg (by omega)]
theorem lwd_eq : ∀ t : Tree, lwd t = wd t
  | .L => rfl
  | .N l r => by
    show ((lwd l ++ shf 1 (lwd r)) ++ [1]) ++ inv (shf 1 (lwd l)) = ((wd l ++ shf 1 (wd r)) ++ [1]) ++ shf 1 (inv (wd l))
    rw [lwd_eq l, lwd_eq r, shf_inv fun n hn => (wd_lets l n hn).1]
def spWd (K : PySem.W.Frag) (g : Tree → List Int) (n : Nat) : Sp := fun vs H Q _ => ∃ (v : V) (t : Tree), vs = [v] ∧ TA K H v t ∧ t.dp < n ∧ t.dp ≤ 6 ∧ t.sz ≤ 12 ∧ ∀ p H', Same H H' → WT K H' p (g t) → Q (.ref p) H'
theorem spWd_no {K : PySem.W.Frag} {g : Tree → List Int} : ∀ vs H Q E, ¬ spWd K g 0 vs H Q E := fun vs H Q E h => by
  obtain ⟨v, t, _, _, h, _⟩ := h
  omega
/-- word_of: the word, or the error -/
def spWordE (K : PySem.W.Frag) (C : Addr) : Sp := fun vs H Q E => ∃ (v : V) (d : PyData), vs = [v] ∧ NT K H v d ∧ ndD d ≤ 1000 ∧ (∀ t : Tree, d = t.d → t.sz ≤ 12 → t.dp ≤ 6 → ∀ p H', Same H H' → WT K H' p (wd t) → Q (.ref p) H') ∧ (okd d = false → ∀ H', Same H H' → E (.ref C) none H')
theorem wfits {a b : List Int} (h : a.length + b.length ≤ 10000) : (a.map V.int).length + (b.map V.int).length ≤ sizeLine := by
  rw [List.length_map, List.length_map]
  exact Nat.le_trans h (by decide)
theorem cat_w {K : PySem.W.Frag} {H : Hp} {a b : Addr} {ns ms : List Int} {Q : VK} (ha : WT K H a ns) (hb : WT K H b ms) (hl : ns.length + ms.length ≤ 10000) (q : ∀ p H', Same H H' → WT K H' p (ns ++ ms) → Q (.ref p) H') : rCatA K (.ref a) (.ref b) H Q :=
  cat_ok ha hb (wfits hl) fun p H' sm h => q p H' sm (by rw [WT, List.map_append]; exact h)
theorem d_inj : ∀ {t u : Tree}, t.d = u.d → t = u
  | .L, .L, _ => rfl
  | .L, .N _ _, h => by
    have h : PyData.tuple [] = .tuple [_, _] := h
    injection h with h
    cases h
  | .N _ _, .L, h => by
    have h : PyData.tuple [_, _] = .tuple [] := h
    injection h with h
    cases h
  | .N l r, .N l' r', h => by
    have h : PyData.tuple [l.d, r.d] = .tuple [l'.d, r'.d] := h
    injection h with h
    injection h with h1 h2
    injection h2 with h2 _
    rw [d_inj h1, d_inj h2]
/-! ### the draws' state, its list of cells named -/
def RngC (H : Hp) (r c : Addr) : Prop := ∃ (ns : List Int) (i b s : Int), H r = some (.lst [.ref c, .int i, .int b, .int s]) ∧ H c = some (.lst (ns.map V.int)) ∧ c ≠ r ∧ 0 ≤ i ∧ 0 ≤ b ∧ 0 ≤ s ∧ s < 2147483647
theorem Rng.toC {H : Hp} {r : Addr} (h : Rng H r) : ∃ c, RngC H r c := by
  obtain ⟨c, h⟩ := h
  exact ⟨c, h⟩
theorem RngC.rng {H : Hp} {r c : Addr} (h : RngC H r c) : Rng H r := ⟨c, h⟩
theorem RngC.keep {H H' : Hp} {r c : Addr} (h : RngC H r c) (e1 : ∀ o, H r = some o → H' r = some o) (e2 : ∀ o, H c = some o → H' c = some o) : RngC H' r c := by
  obtain ⟨ns, i, b, s, h1, h2, h3⟩ := h
  exact ⟨ns, i, b, s, e1 _ h1, e2 _ h2, h3⟩
theorem RngC.same {H H' : Hp} {r c : Addr} (e : Same H H') (h : RngC H r c) : RngC H' r c := h.keep (e _) (e _)
theorem RngC.lst {H : Hp} {r c : Addr} (h : RngC H r c) : ∃ ys, H r = some (.lst ys) := h.rng.lst
theorem RngC.ne {H : Hp} {r c p : Addr} (h : RngC H r c) (e : H p = none) : p ≠ r ∧ p ≠ c := by
  obtain ⟨ns, i, b, s, h1, h2, h3⟩ := h
  refine ⟨fun z => ?_, fun z => ?_⟩
  · rw [z, h1] at e
    cases e
  · rw [z, h2] at e
    cases e
theorem RngC.set {H : Hp} {r c p : Addr} {o : HO} (h : RngC H r c) (n : p ≠ r ∧ p ≠ c) : RngC (upd H p o) r c :=
  h.keep (fun o e => by rw [upd_ne (Ne.symm n.1)]; exact e) (fun o e => by rw [upd_ne (Ne.symm n.2)]; exact e)
theorem RngC.extN {H H' : Hp} {r c : Addr} (e : LamX.ExtN H H') (h : RngC H r c) : RngC H' r c := by
  obtain ⟨ns, i, b, s, h1, h2, h3⟩ := h
  exact ⟨ns, i, b, s, e _ _ h1 (fun _ => by intro y; cases y), e _ _ h2 (fun _ => by intro y; cases y), h3⟩
theorem RngC.tp {H H' : Hp} {r c : Addr} (R : RngC H r c) (b : But r H H') : Tp H H' := by
  obtain ⟨ys, hy⟩ := R.lst
  exact Tp.but hy b
theorem RngC.tabs {T : List (Addr × Str)} {H H' : Hp} {r c : Addr} (R : RngC H r c) (b : But r H H') (t : LamX.Tabs T H) : LamX.Tabs T H' := by
  obtain ⟨ys, hy⟩ := R.lst
  exact tabs_set t hy b
theorem tabs_same {T : List (Addr × Str)} {H H' : Hp} (e : Same H H') (t : LamX.Tabs T H) : LamX.Tabs T H' := fun p hp => by
  obtain ⟨ps, h1, h2, h3⟩ := t p hp
  refine ⟨ps, e _ _ h1, h2, fun pos cv ec => ?_⟩
  obtain ⟨c, rfl, hc⟩ := h3 pos cv ec
  exact ⟨c, rfl, e _ _ hc⟩
def spDrawC : Sp := fun vs H Q _ => ∃ (r : Addr) (n : Int) (c : Addr), vs = [.ref r, .int n] ∧ RngC H r c ∧ 0 < n ∧ n < 1073741824 ∧ ∀ (v : Int) (H' : Hp), 0 ≤ v → v < n → RngC H' r c → But r H H' → Q (.int v) H'
theorem spDraw_C {vs : List V} {H : Hp} {Q : VK} {E : XK} (h : spDraw vs H Q E) : spDrawC vs H Q E := by
  obtain ⟨r, n, rfl, R, h1, h2, q⟩ := h
  obtain ⟨c, R⟩ := R.toC
  exact ⟨r, n, c, rfl, R, h1, h2, fun v H' v0 v1 R' b' => q v H' v0 v1 R'.rng b'⟩
def spPickC (K : PySem.W.Frag) : Sp := fun vs H Q _ => ∃ (r l c : Addr) (xs : List V), vs = [.ref r, .ref l] ∧ RngC H r c ∧ (SqL K H l xs ∨ SqT K H l xs) ∧ 0 < xs.length ∧ xs.length ≤ 10000 ∧ l ≠ r ∧ ∀ v H', v ∈ xs → RngC H' r c → But r H H' → Q v H'
theorem spPick_C {K : PySem.W.Frag} {vs : List V} {H : Hp} {Q : VK} {E : XK} (h : spPick K vs H Q E) : spPickC K vs H Q E := by
  obtain ⟨r, l, xs, rfl, R, h1, h2, h3, h4, q⟩ := h
  obtain ⟨c, R⟩ := R.toC
  exact ⟨r, l, c, xs, rfl, R, h1, h2, h3, h4, fun v H' hv R' b' => q v H' hv R'.rng b'⟩
def spTermC (K : PySem.W.Frag) (n : Nat) : Sp := fun vs H Q _ => ∃ (r : Addr) (many : Int) (k : Nat) (c : Addr), k < n ∧ vs = [.ref r, .int many, .int (2 ^ k)] ∧ k ≤ 6 ∧ 1 ≤ many ∧ many ≤ 2 ^ k ∧ RngC H r c ∧
  ∀ (v : V) (t : Tree) (H' : Hp), TA K H' v t → (t.sz : Int) = many → t.dp ≤ k → RngC H' r c → But r H H' → Q v H'
theorem spTerm_C {K : PySem.W.Frag} {n : Nat} {vs : List V} {H : Hp} {Q : VK} {E : XK} (h : spTerm K n vs H Q E) : spTermC K n vs H Q E := by
  obtain ⟨r, m, k, hk, e, h1, h2, h3, R, q⟩ := h
  obtain ⟨c, R⟩ := R.toC
  exact ⟨r, m, k, c, hk, e, h1, h2, h3, R, fun v t H' a b d R' b' => q v t H' a b d R'.rng b'⟩
def spAnyC (K : PySem.W.Frag) : Sp := fun vs H Q _ => ∃ (r : Addr) (top : Int) (c : Addr), vs = [.ref r, .int top] ∧ 1 ≤ top ∧ top ≤ 64 ∧ RngC H r c ∧
  ∀ (v : V) (t : Tree) (H' : Hp), TA K H' v t → (t.sz : Int) ≤ top → t.dp ≤ 6 → RngC H' r c → But r H H' → Q v H'
theorem spAny_C {K : PySem.W.Frag} {vs : List V} {H : Hp} {Q : VK} {E : XK} (h : spAny K vs H Q E) : spAnyC K vs H Q E := by
  obtain ⟨r, m, e, h1, h2, R, q⟩ := h
  obtain ⟨c, R⟩ := R.toC
  exact ⟨r, m, c, e, h1, h2, R, fun v t H' a b d R' b' => q v t H' a b d R'.rng b'⟩
/-! ### tuple * int, also where the tuple itself is given back -/
section OPR
open PySem.Spec PyProof.Rows
theorem tuple_mul_same (l : Addr) (items : Array Value) (n : Nat) (dd : Option Addr) (sl : Array (Option Value)) (x : Int) (u : Tok) (c0 : (decide (x < -(2 ^ 63)) || decide (x ≥ 2 ^ 63)) = false) (c1 : (items.isEmpty || x == 1) = true) :
    Meets (Builtin.«tuple.__mul__» ⟨[.ref l, .int x u], []⟩) (fun _ R s => s.heap.get? l = some { cls := .type "tuple", dict := dd, data := .seq items n, slots := sl } ∧ R (.ok (.ret (Value.ref l))) { s with heap := s.heap, toks := s.toks }) :=
  .of_wp fun prog w A R s h => by
    obtain ⟨hp, g, d, tk, os⟩ := s
    obtain ⟨hl, h⟩ := h
    have f1 := AutoSeq1.idx_int
    wp_walk using wpAny_loadPart' hl
    repeat (first
      | (refine wpAny_ite_false (decide_eq_false (by rw [c0]; exact Bool.false_ne_true)) ?_; wp_walk using wpAny_loadPart' hl)
      | (refine wpAny_ite_true (decide_eq_true c1) ?_; wp_walk using wpAny_loadPart' hl))
    exact ⟨_, rfl, h⟩
theorem op_repS {X : Cx} : OpR X (binaryOp .Mult) (fun x y H Q => ∃ l k xs, x = .ref l ∧ y = .int k ∧ SqT X.K H l xs ∧ (xs = [] ∨ k = 1) ∧ 1 ≤ k ∧ k ≤ 1000 ∧ Q (.ref l) H) := by
  intro pins s σ H x y v u Q I rx ry h
  obtain ⟨l, k, xs, rfl, rfl, hT, hne, h1, h2, q⟩ := h
  cases rx
  obtain ⟨t, rfl⟩ := ry
  obtain ⟨its, r, ⟨⟨cls, dd, data, sl⟩, ho, hc, n, hd⟩, hs⟩ := I.tuple hT
  simp only at hc hd
  subst hc hd
  have c0 : (decide (k < -(2 ^ 63)) || decide (k ≥ 2 ^ 63)) = false := by
    rw [decide_eq_false (by omega), decide_eq_false (by omega)] <;> rfl
  have c1 : (its.toArray.isEmpty || k == 1) = true := by
    rcases hne with e | e
    · subst e
      cases r
      rfl
    · rw [e]
      simp
  exact wpAny_binaryOp_repeat_ref (T := "tuple") (U := "int") (by decide) ⟨_, ho, rfl⟩ (fun s' => typeIs_int s' k t) noFill_tuple_mul PySem.F.fills_int_mul PySem.F.slot_int_rmul repeat_tuple PySem.F.slot_int_index.lookup
    (call_meets PySem.F.slot_int_rmul (typeIs_int s k t) PySem.F.entry_int_rmul (PySem.F.args_int_rmul_2 _ _) (int_rmul_tuple k t l its.toArray n dd sl)
      ⟨ho, rfl, ⟨_, ho, rfl⟩, call_meets PySem.F.slot_tuple_mul ⟨_, ho, rfl⟩ PySem.F.entry_tuple_mul (PySem.F.args_tuple_mul_2 _ _) (tuple_mul_same l its.toArray n dd sl k t c0 c1) ⟨ho, ⟨.ref l, H, I, rfl, q⟩⟩⟩)
def rRepA (K : PySem.W.Frag) : R2 := fun x y H Q => ∃ l k xs, x = .ref l ∧ y = .int k ∧ SqT K H l xs ∧ 1 ≤ k ∧ k ≤ 1000 ∧ xs.length ≤ 1000 ∧ ∀ p H', Same H H' → SqT K H' p (List.replicate k.toNat xs).flatten → Q (.ref p) H'
theorem op_repA {X : Cx} : OpR X (binaryOp .Mult) (rRepA X.K) := by
  intro pins s σ H x y v u Q I rx ry h
  obtain ⟨l, k, xs, rfl, rfl, hT, h1, h2, hz, q⟩ := h
  by_cases hx : xs = []
  · refine op_repS pins s σ H _ _ v u Q I rx ry ⟨l, k, xs, rfl, rfl, hT, .inl hx, h1, h2, q l H (Same.refl _) ?_⟩
    have e : (List.replicate k.toNat xs).flatten = xs := by
      rw [hx]
      simp
    rw [e]
    exact hT
  · by_cases hk : k = 1
    · refine op_repS pins s σ H _ _ v u Q I rx ry ⟨l, k, xs, rfl, rfl, hT, .inr hk, h1, h2, q l H (Same.refl _) ?_⟩
      have e : (List.replicate k.toNat xs).flatten = xs := by
        rw [hk]
        simp
      rw [e]
      exact hT
    · exact op_repT pins s σ H _ _ v u Q I rx ry ⟨l, k, xs, rfl, rfl, hT, hx, by omega, h2, hz, fun p np => q p _ (Same.new np _) (SqT.here upd_same)⟩
end OPR
/-- a word repeated -/
def repW (k : Int) (ns : List Int) : List Int := (List.replicate k.toNat ns).flatten
theorem repW_map (k : Int) (ns : List Int) : (List.replicate k.toNat (ns.map V.int)).flatten = (repW k ns).map V.int := by
  unfold repW
  rw [List.map_flatten, List.map_replicate]
theorem repW_len (k : Int) (ns : List Int) : (repW k ns).length = k.toNat * ns.length := by
  unfold repW
  rw [List.length_flatten, List.map_replicate, List.sum_replicate_nat]
theorem repW_mem {k : Int} {ns : List Int} {n : Int} (h : n ∈ repW k ns) : n ∈ ns := by
  unfold repW at h
  obtain ⟨l, h1, h2⟩ := List.mem_flatten.mp h
  rw [List.eq_of_mem_replicate h1] at h2
  exact h2
theorem rep_w {K : PySem.W.Frag} {H : Hp} {a : Addr} {ns : List Int} {k : Int} {Q : VK} (ha : WT K H a ns) (h1 : 1 ≤ k) (h2 : k ≤ 1000) (hl : ns.length ≤ 1000) (q : ∀ p H', Same H H' → WT K H' p (repW k ns) → Q (.ref p) H') : rRepA K (.ref a) (.int k) H Q :=
  ⟨a, k, _, rfl, rfl, ha, h1, h2, by rw [List.length_map]; exact hl, fun p H' sm h => q p H' sm (by rw [WT, ← repW_map]; exact h)⟩
/-! ### words that are drawn -/
theorem Tp.rng {r : Addr} {H H' : Hp} (R : Rng H r) (b : But r H H') : Tp H H' := by
  obtain ⟨ys, hy⟩ := R.lst
  exact Tp.but hy b
def spAnyW (K : PySem.W.Frag) : Sp := fun vs H Q _ => ∃ (r : Addr) (top wide : Int) (c : Addr), vs = [.ref r, .int top, .int wide] ∧ 0 ≤ top ∧ top ≤ 1000 ∧ 1 ≤ wide ∧ wide ≤ 1000 ∧ RngC H r c ∧
  ∀ (p : Addr) (ns : List Int) (H' : Hp), WT K H' p ns → (ns.length : Int) ≤ top → Lets wide ns → RngC H' r c → But r H H' → Q (.ref p) H'
def spBadW (K : PySem.W.Frag) : Sp := fun vs H Q _ => ∃ r c : Addr, vs = [.ref r] ∧ RngC H r c ∧ ∀ (p : Addr) (ns : List Int) (H' : Hp), WT K H' p ns → okW ns = false → ns.length ≤ 400 → RngC H' r c → But r H H' → Q (.ref p) H'
theorem okW_mem {ns : List Int} {n : Int} (h : n ∈ ns) (hb : isLet n = false) : okW ns = false := by
  unfold okW
  have : ns.all isLet = false := by
    rw [List.all_eq_false]
    exact ⟨n, h, by rw [hb]; decide⟩
  rw [this, Bool.and_false]
theorem okW_long {ns : List Int} (h : 300 < ns.length) : okW ns = false := by
  unfold okW
  rw [decide_eq_false (by omega)]
  rfl
theorem inv_inv (ns : List Int) : inv (inv ns) = ns := by
  unfold inv
  rw [← List.map_reverse, List.map_map, List.reverse_reverse]
  have e : ((fun n : Int => -n) ∘ fun n => -n) = id := by
    funext n
    exact Int.neg_neg n
  rw [e, List.map_id]
theorem okW_inv {m : Int} (hm : m ≤ 40) {ns : List Int} (h : Lets m ns) (hl : ns.length ≤ 300) : okW (inv ns) = true := okW_of hm h.inv (by rw [inv_len]; exact hl)
theorem shf_all {k : Int} (hk : 0 ≤ k) {ns : List Int} (h : Lets 40 ns) : (shf k ns).all isLet = !(ns.any fun n => decide (40 < ab n + k)) := by
  induction ns with
  | nil => rfl
  | cons n ns ih =>
    have h1 := h n List.mem_cons_self
    have h2 := ih fun x hx => h x (List.mem_cons_of_mem _ hx)
    have h3 := shf_let hk h1.1
    show (isLet (sgn (ab n + k) n) && (shf k ns).all isLet) = !(decide (40 < ab n + k) || ns.any fun n => decide (40 < ab n + k))
    rw [h2, Bool.not_or]
    congr 1
    unfold isLet
    rw [decide_eq_true h3.1, h3.2, Bool.true_and]
    by_cases z : ab n + k ≤ 40
    · rw [decide_eq_true z, decide_eq_false (by omega)]
      rfl
    · rw [decide_eq_false z, decide_eq_true (by omega)]
      rfl
def vD (d : PyData) : PyData := .tuple [.str ("value" : Str), d]
theorem vD_shaped (ns : List Int) : SeqAt.shaped (vD (wD ns)) = true := by
  have h := wD_depth ns
  have hs := wD_shaped ns
  have e1 : (vD (wD ns)).canLay0 = (PyData.canLay0 (.str ("value" : Str)) && (PyData.canLay0 (wD ns) && true)) := rfl
  have e2 : (vD (wD ns)).depth = max (PyData.depth (.str ("value" : Str))) (max (wD ns).depth 0) + 1 := rfl
  have e3 : PyData.depth (.str ("value" : Str)) ≤ 1 := by first | exact Nat.le_refl _ | exact Nat.zero_le _
  unfold SeqAt.shaped
  rw [e1, SeqAt.canLay_of_shaped hs, decide_eq_true (by omega)]
  decide +kernel
theorem vD_wide {ns : List Int} (h : ns.length ≤ 1000) : wide (vD (wD ns)) = true := by
  show (decide (2 ≤ 1000) && (true && (wide (wD ns) && true))) = true
  rw [wD_wide h]
  decide
theorem vD_depth (ns : List Int) : (vD (wD ns)).depth < 12 := by
  have h := wD_depth ns
  have e2 : (vD (wD ns)).depth = max (PyData.depth (.str ("value" : Str))) (max (wD ns).depth 0) + 1 := rfl
  have e3 : PyData.depth (.str ("value" : Str)) ≤ 1 := by first | exact Nat.le_refl _ | exact Nat.zero_le _
  omega
theorem dp_vD {K : PySem.W.Frag} {H : Hp} {q p : Addr} {ns : List Int} (h : SqT K H q [.str ("value" : Str), .ref p]) (w : WT K H p ns) : Dp K H (.ref q) (vD (wD ns)) := Dp.tup h (.cons (.str _) (.cons (dp_wt w) .nil))
theorem dp_eD {K : PySem.W.Frag} {H : Hp} {q : Addr} {j : Nat} (h : SqT K H q [.str (en j), .non]) : Dp K H (.ref q) (eD j) := Dp.tup h (.cons (.str _) (.cons .non .nil))
theorem eD_wide (j : Nat) : wide (eD j) = true := rfl
theorem eD_depth : ∀ j < 20, (eD j).depth < 12 := by decide +kernel
section OPL
open PySem.Spec PyProof.Rows
/-! ### a lambda whose only parameter has a written int for default, and is not read -/
structure LamSD (N : List Str) (sc scope : Scope) : Prop where
  kind : scope.kind = .function
  co : scope.isCoroutine = false
  gen : scope.isGenerator = false
  own : ∀ y ∈ scope.names, y.2 ≠ .cell ∧ (y.2 = .local → y.1 ∉ N)
  free : ∀ y ∈ scope.names, y.2 = .free → sc.names.lookup y.1 = some .cell ∨ sc.names.lookup y.1 = some .free
def lamSDB (N : List Str) (sc scope : Scope) : Bool :=
  decide (scope.kind = .function) && !scope.isCoroutine && !scope.isGenerator && scope.names.all fun y => !decide (y.2 = .cell) && (!decide (y.2 = .local) || !decide (y.1 ∈ N)) && (!decide (y.2 = .free) || decide (sc.names.lookup y.1 = some .cell) || decide (sc.names.lookup y.1 = some .free))
theorem lamSD_by {N : List Str} {sc scope : Scope} (h : lamSDB N sc scope = true) : LamSD N sc scope := by
  unfold lamSDB at h
  simp only [Bool.and_eq_true, Bool.or_eq_true, Bool.not_eq_true', decide_eq_true_eq, decide_eq_false_iff_not, List.all_eq_true] at h
  obtain ⟨⟨⟨h1, h2⟩, h3⟩, h4⟩ := h
  refine ⟨h1, h2, h3, fun y hy => ⟨(h4 y hy).1.1, fun e => ?_⟩, fun y hy e => ?_⟩
  · rcases (h4 y hy).1.2 with z | z
    · exact absurd e z
    · exact z
  · rcases (h4 y hy).2 with (z | z) | z
    · exact absurd e z
    · exact .inl z
    · exact .inr z
theorem LamSD.has {X : Cx} {N : List Str} {scope : Scope} (L : LamSD N X.env.scope scope) (ok : X.Ok) : ∀ y ∈ scope.names, y.2 = .free → ∃ c, X.env.cells.lookup y.1 = some c := fun y hy e => by
  rcases L.free y hy e with k | k
  · exact ok.has _ (.inl k)
  · exact ok.has _ (.inr k)
section
variable {X : Cx} {pins : List (Addr × Obj)} {σ : L2.St} {H HZ : Hp} {s s1 : Shared}
theorem lam_startD {A : Around} {outer : List Env} {E : XK} {scope : Scope} {f c' : Addr} {h₁ : Heap} {tk : Nat} {mb : Str → Option Value} (I : Inv X pins σ H s) (L : LamSD X.N X.env.scope scope) (e0 : Env0 X.prog X.w X.K X.mg X.base A outer s1 HZ) (hd : A.handled = none)
    (un : Un (frs X.stack) [] H HZ s.heap s1.heap) (hns : h₁.Ns s1.heap.objs.size mb) (kp : ∀ b o, s1.heap.get? b = some o → h₁.get? b = some o) :
    Inv (LamX.lamCx X A outer s1 HZ E scope f c') [] σ HZ { s1 with heap := h₁, toks := tk } := by
  have hfree := L.has I.ok
  have cm : ∀ {y c}, (cloFrom X.env.cells scope.names []).lookup y = some c → X.env.cells.lookup y = some c := fun {y c} e => by
    rcases cloFrom_mem (PySem.mem_of_lookup e) with hm | ⟨h1, h2⟩
    · cases hm
    · obtain ⟨c1, hc⟩ := hfree _ h1 rfl
      have hc : X.env.cells.lookup y = some c1 := hc
      have e2 : c = c1 := by
        rw [h2, hc] <;> rfl
      rw [e2]
      exact hc
  have look : ∀ {y}, scope.names.lookup y = some .free → ∃ c, (cloFrom X.env.cells scope.names []).lookup y = some c := fun {y} hl => by
    have hy : (y, NameKind.free) ∈ scope.names := PySem.mem_of_lookup hl
    exact mem_lookup (cloFrom_has (cells := X.env.cells) (acc := []) hy)
  have cellK : ∀ {c : Addr} {v : Option Value}, H c = none → s.heap.IsCell c v → h₁.IsCell c v := fun {c v} n ⟨o, ho, hd⟩ => by
    obtain ⟨sl, q⟩ := un.any ho n (by simp)
    exact ⟨_, kp _ _ q, hd⟩
  have noA : ∀ b : Addr, b ∉ (LamX.lamCx X A outer s1 HZ E scope f c').ex := fun b z => absurd (show b ∈ ([] : List Addr) from z) (by simp)
  refine ⟨⟨e0.mod, L.kind, rfl, rfl, Nat.le_refl _, fun y z c e1 e2 => I.ok.inj y z c (cm e1) (cm e2), fun y hy => ?_, fun y c z _ => ?_, fun _ => hd, Around.frames_deeper e0.frames, .inr ⟨rfl, rfl⟩, fun b z => absurd z (noA b), e0.bs, e0.bsz, fun b _ _ => noA b,
      fun b z => absurd z (noA b), e0.funs, e0.frf⟩,
    rfl, e0.bare, Un.kept kp, ⟨_, hns, fun i y v e1 e2 e3 => ?_⟩, fun y c e => ?_, e0.hok.fresh (Nat.le_refl _), fun y c e => ?_, fun q hq => absurd (show q ∈ ([] : List (Addr × Obj)) ++ [] from hq) (by simp), e0.hok.kept kp, I.len⟩
  · have hy : scope.names.lookup y = some .cell ∨ scope.names.lookup y = some .free := hy
    rcases hy with hy | hy
    · exact absurd rfl (L.own _ (PySem.mem_of_lookup hy)).1
    · exact look hy
  · have z : false = true := z
    cases z
  · have e3 : Vis scope y := e3
    have e1' : X.N[i]? = some y := e1
    rcases e3 with k | k | k
    · exact absurd (List.mem_of_getElem? e1') ((L.own _ (PySem.mem_of_lookup k)).2 rfl)
    · exact absurd rfl (L.own _ (PySem.mem_of_lookup k)).1
    · obtain ⟨m, hn, hl⟩ := I.loc
      have hvis : Vis X.env.scope y := (L.free _ (PySem.mem_of_lookup k) rfl).elim (fun k => .inr (.inl k)) (fun k => .inr (.inr k))
      obtain ⟨w', r, q⟩ := hl i y v e1 e2 hvis
      obtain ⟨c2, h2⟩ := look k
      refine ⟨w', r, .inr ⟨.inr k, c2, h2, ?_⟩⟩
      have c1 := cm h2
      rcases q with ⟨k', _⟩ | ⟨_, c3, e', z⟩
      · have k' : X.env.scope.names.lookup y = some .local := k'
        rcases L.free _ (PySem.mem_of_lookup k) rfl with k2 | k2 <;> rw [show X.env.scope.names.lookup y = _ from k2] at k' <;> cases k'
      · rw [c1] at e'
        cases e'
        exact cellK (I.freeC y _ c1) z
  · obtain ⟨w', z⟩ := I.cell y c (cm e)
    exact ⟨w', cellK (I.freeC y c (cm e)) z⟩
  · obtain ⟨v, o, ho, hd⟩ := I.cell y c (cm e)
    exact un.free c o ho (I.freeC y c (cm e)) (by simp)
theorem lam_makeD {T : List (Addr × Str)} {c P : Addr} {params : Arguments} {body : Expr} {scope : Scope} {pos pz : Pos} {z : Int} {jz : Nat} {Q : Value → Shared → Prop} (I : Inv X pins σ H s) (TB : LamX.TabB X.base X.mg c P) (hcode : X.env.code = .ref c)
    (hm : (P, X.env.qual ++ "<lambda>") ∈ T) (hu : ∀ p ∈ T, p.1 = P → p.2 = X.env.qual ++ "<lambda>") (hT : LamX.Tabs T H) (hd1 : params.defaults = [.Constant (.int z) jz pz]) (hk0 : params.kw_defaults = []) (hfree : ∀ y ∈ scope.names, y.2 = .free → ∃ c, X.env.cells.lookup y.1 = some c)
    (h : ∀ (f c' T0 : Addr) (u doc pm ctv : Value) (H1 : Hp) (s' : Shared), Inv X pins σ H1 s' → LamX.ExtN H H1 → LamX.Tabs T H1 →
      s'.heap.get? f = some (PySem.W.kdv_obj "<lambda>" (X.env.qual ++ "<lambda>") params (.expr body) scope (cloFrom X.env.cells scope.names []) (.ref T0) doc pm c' ctv) → H1 f = none → f ∉ frs X.stack → s'.heap.get? T0 = some (PySem.W.kdv_tup [u]) → H1 T0 = none → T0 ∉ frs X.stack → H1 c' = some (LamX.CodeO c' (X.env.qual ++ "<lambda>")) → Q (.ref f) s') :
    wpAny (model X.prog X.w) X.A (eval (.Lambda params body scope pos) X.env) Q X.xe s := by
  refine PySem.W.kdv_lam (by rw [hd1]; rfl) hk0 ?_
  rw [hd1]
  refine PySem.W.kdv_all1 (thn (pe_int.run pins s σ H (fun v H' => v = .int z ∧ H' = H) I ⟨rfl, rfl⟩) fun u s0 ⟨v, H0, I0, r0, ev, eH⟩ => PySem.W.kdv_all0 ?_)
  subst ev eH
  rw [makeFunction_eq]
  simp only [List.zip_nil_right, List.filterMap_nil, List.isEmpty_nil, if_true, pure_bind, List.isEmpty_cons, Bool.false_eq_true, if_false]
  refine wpAny_bind (wpAny_newTextTuple ?_)
  obtain ⟨ps, hP, ht, ha⟩ := hT _ hm
  have I2 : Inv X pins σ H0 { s0 with heap := s0.heap.push (PySem.W.kdv_tup [u]) } := I0.kept (t' := s0.toks) fun b o e => Heap.get?_push_of_some _ e
  have hT0 : (s0.heap.push (PySem.W.kdv_tup [u])).get? s0.heap.objs.size = some (PySem.W.kdv_tup [u]) := Heap.get?_push_size _ rfl
  have hT0n : H0 s0.heap.objs.size = none := I0.hok.fresh (Nat.le_refl _)
  have bP : (s0.heap.push (PySem.W.kdv_tup [u])).BuiltinsAt X.mg P := TB.bm.keeps I2.bk
  have hP' : (s0.heap.push (PySem.W.kdv_tup [u])).get? P = some { cls := .none, data := .fields ps } := I2.hok P _ hP
  have nofr : ∀ f, s0.heap.objs.size ≤ f → f ∉ frs X.stack := fun f hf z => by
    rcases List.mem_cons.mp (I0.stkSub _ z) with e | e
    · have h1 := I0.lt
      rw [← e] at h1
      exact Nat.lt_irrefl _ (Nat.lt_of_lt_of_le h1 hf)
    · exact I0.nofs hf e
  have sz2 : s0.heap.objs.size ≤ (s0.heap.push (PySem.W.kdv_tup [u])).objs.size := by rw [Heap.size_push]; omega
  have ltT : s0.heap.objs.size < (s0.heap.push (PySem.W.kdv_tup [u])).objs.size := by rw [Heap.size_push]; omega
  have nTP : s0.heap.objs.size ≠ P := fun z => by
    rw [← z, hT0n] at hP
    cases hP
  cases hc : codeAmong pos ps.toList with
  | none =>
    refine PySem.W.kdv_makeTail (s := { s0 with heap := s0.heap.push (PySem.W.kdv_tup [u]) }) (mg := X.mg) (c := c) (P := P) (ps := ps) (closure_ok hfree) I2.ok.glob (I2.mod.glob.keeps I2.bk) hcode (TB.code.keeps I2.bk) hP' ht hc TB.gP bP fun c' ctv doc h' tk hx hge hlt hrec htb => ?_
    obtain ⟨c2, oc, vs, t, e2, hoc, hd, hv⟩ := hrec
    cases e2
    have hsz : (s0.heap.push (PySem.W.kdv_tup [u])).objs.size ≤ h'.objs.size := Nat.le_trans hge (Nat.le_of_lt hlt)
    have nC : H0 c' = none := I2.hok.fresh hge
    have I1 := LamX.inv_table (t' := tk) (more := #[rawInt pos.line, rawInt pos.col, .ref c']) (h' := h'.push (PySem.W.kdv_obj "<lambda>" (X.env.qual ++ "<lambda>") params (.expr body) scope (cloFrom X.env.cells scope.names []) (.ref s0.heap.objs.size) doc ((X.mg "__name__").getD .none) c' ctv)) I2 hP
      (fun b o hb e => Heap.get?_push_of_some _ (hx b o hb e)) (Heap.get?_push_of_some _ htb) hge ⟨oc, vs, t, Heap.get?_push_of_some _ hoc, hd, hv⟩
    have hE : LamX.ExtN H0 (upd (upd H0 P (.tbl (ps ++ #[rawInt pos.line, rawInt pos.col, .ref c']))) c' (LamX.CodeO c' (X.env.qual ++ "<lambda>"))) := fun b o e n => by
      rw [upd_ne (ne_of_none e nC), upd_ne (fun z => n ps (Option.some.inj (e.symm.trans (by rw [z]; exact hP))))]
      exact e
    have eL : (ps ++ #[rawInt pos.line, rawInt pos.col, .ref c']).toList = ps.toList ++ [rawInt pos.line, rawInt pos.col, .ref c'] := by simp
    have nTc : s0.heap.objs.size ≠ c' := Nat.ne_of_lt (Nat.lt_of_lt_of_le ltT hge)
    refine h h'.objs.size c' s0.heap.objs.size u doc ((X.mg "__name__").getD .none) ctv _ _ I1 hE (fun p hp => ?_) (Heap.get?_push_size _ rfl) ?_ (nofr _ (Nat.le_trans sz2 hsz)) (Heap.get?_push_of_some _ (hx _ _ nTP hT0)) ?_ (nofr _ (Nat.le_refl _)) upd_same
    · by_cases hb : p.1 = P
      · rw [hu p hp hb, hb]
        refine ⟨_, by rw [upd_ne (ne_of_none hP nC), upd_same], by rw [eL]; exact PySem.TriplesOk_snoc _ _ _ _ ht, fun p' cv hcv => ?_⟩
        rw [eL] at hcv
        rcases LamX.among_app _ ht hcv with z | z
        · obtain ⟨c0, e1, e2⟩ := ha p' cv z
          exact ⟨c0, e1, hE _ _ e2 LamX.codeO_ne⟩
        · exact ⟨c', z, upd_same⟩
      · obtain ⟨ps', a1, a2, a3⟩ := hT p hp
        refine ⟨ps', by rw [upd_ne (ne_of_none a1 nC), upd_ne hb]; exact a1, a2, fun p' cv hcv => ?_⟩
        obtain ⟨c0, e1, e2⟩ := a3 p' cv hcv
        exact ⟨c0, e1, hE _ _ e2 LamX.codeO_ne⟩
    · have n1 : h'.objs.size ≠ c' := Nat.ne_of_gt hlt
      have n2 : h'.objs.size ≠ P := Nat.ne_of_gt (Nat.lt_of_lt_of_le (Heap.lt_size hP') hsz)
      rw [upd_ne n1, upd_ne n2]
      exact I2.hok.fresh hsz
    · rw [upd_ne nTc, upd_ne nTP]
      exact hT0n
  | some cv =>
    obtain ⟨c', e, hco⟩ := ha pos cv hc
    subst e
    refine PySem.W.kdv_makeTailHit (s := { s0 with heap := s0.heap.push (PySem.W.kdv_tup [u]) }) (mg := X.mg) (c := c) (P := P) (ps := ps) (closure_ok hfree) I2.ok.glob (I2.mod.glob.keeps I2.bk) hcode (TB.code.keeps I2.bk) hP' ht hc bP fun ctv doc h' tk hx hsz => ?_
    have I1 : Inv X pins σ H0 { s0 with heap := h'.push (PySem.W.kdv_obj "<lambda>" (X.env.qual ++ "<lambda>") params (.expr body) scope (cloFrom X.env.cells scope.names []) (.ref s0.heap.objs.size) doc ((X.mg "__name__").getD .none) c' ctv), toks := tk } := I2.kept fun b o e => Heap.get?_push_of_some _ (hx b o e)
    exact h h'.objs.size c' s0.heap.objs.size u doc ((X.mg "__name__").getD .none) ctv H0 _ I1 (LamX.ExtN.refl H0) hT (Heap.get?_push_size _ rfl) (I2.hok.fresh hsz) (nofr _ (Nat.le_trans sz2 hsz)) (Heap.get?_push_of_some _ (hx _ _ hT0)) hT0n (nofr _ (Nat.le_refl _)) hco
theorem pe_actD {CXg : CXT} {Eg : XK} {Ng : List Str} {qg : Str} {sg : Scope} {g f c T0 : Addr} {u doc cdg pm ctv : Value} {params : Arguments} {body : Expr} {scope : Scope} {k i : Nat} {a a0 : Str} {pn : List (Addr × Obj)} {xe : Value → Shared → Prop} {W : WX} {E : L2.St → XK} {tb : XK → TE} {p1 p2 : Pos}
    (I : Inv X pins σ H s) (L : LamSD X.N X.env.scope scope) (hf : s.heap.get? f = some (PySem.W.kdv_obj "<lambda>" (X.env.qual ++ "<lambda>") params (.expr body) scope (cloFrom X.env.cells scope.names []) (.ref T0) doc pm c ctv)) (hfn : H f = none) (hfr : f ∉ frs X.stack)
    (hT0 : s.heap.get? T0 = some (PySem.W.kdv_tup [u])) (hTn : H T0 = none) (hTr : T0 ∉ frs X.stack) (hl0 : scope.names.lookup a0 = some .local)
    (hbind : ∀ (q : Str) (cl : List (Str × Addr)) (dV doc pm cv ctv : Value), ∃ k, bindArgs (PySem.W.kdv_fn "<lambda>" q params (.expr body) scope cl dV doc pm cv ctv) ⟨[], []⟩ = seqItems? dV >>= k ∧ ∀ u, k (some #[u]) = pure [(a0, u)])
    (tk : L2C.Takes ((cxOf CXg X.prog X.w X.K X.mg X.base Ng qg sg g cdg X.A X.stack s H Eg).tr pn xe) W) (hW : ∀ cls d σ2 H2, E σ2 cls d H2 → W cls d σ2 H2) (hr : Room (k + 1) (X.A.deeper (envOfC qg sg s.heap.objs.size g cdg)))
    (hbody : ∀ (A : Around) (outer : List Env) (s : Shared) (H : Hp) (E : XK), Room k (A.deeper (LamX.lamEnv X scope s.heap.objs.size f c)) → PE (lamCxN X A outer s H E scope f c) body (tb E))
    (hN : Ng[i]? = some a) (hv : Vis sg a) (hd : (a == ("__debug__" : Str)) = false := by decide) (hcd : (a == ("__classdict__" : Str)) = false := by decide) :
    PE ((cxOf CXg X.prog X.w X.K X.mg X.base Ng qg sg g cdg X.A X.stack s H Eg).tr pn xe) (.Call (.Name a p1) [] [] p2) (fun σZ HZ Q => σZ[i]? = some (some (.ref f)) ∧ HZ c = some (LamX.CodeO c (X.env.qual ++ "<lambda>")) ∧ tb (E σZ) σ HZ Q) := by
  refine ⟨fun pz sz σz Hz Q Iz ⟨hs, hc, y⟩ => ?_⟩
  refine wpAny_Call_Name_kw (thn ((pe_var (pos := p1) (i := i) hN hv hd hcd).run pz sz σz Hz (fun v H1 => v = .ref f ∧ H1 = Hz) Iz ⟨.ref f, hs, rfl, rfl⟩) fun u' s1 ⟨v, H1, I1, r1, ev, eH⟩ => ?_)
  subst ev eH
  cases (show u' = Value.ref f from r1)
  have of1 := I1.base.keep f _ hf hfn hfr (fun z => nomatch (show f ∈ ([] : List Addr) from z))
  have oT1 := I1.base.keep T0 _ hT0 hTn hTr (fun z => nomatch (show T0 ∈ ([] : List Addr) from z))
  refine PySem.W.callWith_F0 ⟨_, _, _, _, of1⟩ ?_
  obtain ⟨⟨oc, vs, t, hoc, hdc, hvc⟩, _, _⟩ := I1.hok c _ hc
  have run : codeAny (model X.prog X.w) (X.A.deeper (envOfC qg sg s.heap.objs.size g cdg)) (.call (.ref f) ⟨[], []⟩) (CR (L2C.CX X.prog X.w) (envOfC qg sg s.heap.objs.size g cdg :: X.stack) X.prog X.w H1 s1 Q (E σz)) s1 := by
    obtain ⟨kk, hb1, hb2⟩ := hbind (X.env.qual ++ "<lambda>") (cloFrom X.env.cells scope.names []) (.ref T0) doc pm (.ref c) ctv
    have hB : BindsTo s1 (PySem.W.kdv_fn "<lambda>" (X.env.qual ++ "<lambda>") params (.expr body) scope (cloFrom X.env.cells scope.names []) (.ref T0) doc pm (.ref c) ctv) ⟨[], []⟩ [(a0, u)] := BindsTo.of_defaults rfl oT1 rfl hb1 (hb2 u)
    refine PySem.W.kla_callFunE hr.depth of1 rfl L.co L.gen rfl ⟨c, oc, vs, t, rfl, hoc, hdc, hvc⟩ (hB _ _ _ _ ?_)
    refine wpAny_newFunctionEnv (fun y hy => (L.own y hy).1) (fun y hy => by rw [List.mem_singleton.mp hy]; exact hl0) (fun g1 hns hsb => ⟨I1.nolimit.fresh _ hsb, ?_⟩) L.kind
    have kp : ∀ b o, s1.heap.get? b = some o → g1.get? b = some o := fun b o e => hsb.extBut b o (Nat.ne_of_lt (Heap.lt_size e)) (Heap.get?_push_of_some _ e)
    have J := lam_startD (E := E σz) (f := f) (c' := c) (tk := s1.toks + ([(a0, u)] : List (Str × Value)).length) I L I1.env0 hr.hd I1.base hns kp
    refine PySem.W.kla_codeExpr (wpAny_mono ((hbody _ _ s1 H1 (E σz) (hr.deeper _)).run [] _ _ H1 Q (J.wish _) y) (fun v s3 ⟨w3, H3, J3, rv, q⟩ => ⟨w3, H3, J3.os, J3.bare, J3.base, J3.hok, rv, q⟩) fun e s3 z => z)
  refine wpAny_call (codeAny_mono run fun rs s2 hq => ?_)
  cases rs with
  | error e => exact tk e s2 (L2C.XE.of_call I1 (fun cls d H' h => hW cls d σz H' h) hq)
  | ok fl =>
    cases fl with
    | ret u => exact I1.after hq
    | next => exact False.elim hq
    | brk => exact False.elim hq
    | cont => exact False.elim hq
end
theorem pe_lamD {X : Cx} {T : List (Addr × Str)} {TT : (XK → Hp → VK → Prop) → Hp → VK → Prop} {x a a0 : Str} {g c P : Addr} {k : Nat} {pg : Arguments} {bg : List Stmt} {sg : Scope} {dV kV doc pm cdv ct oc : Value} {an od : Option Addr} {osl : Array (Option Value)} {Ng : List Str}
    {params : Arguments} {body : Expr} {scope : Scope} {t : XK → TE} {p lpos pos pz : Pos} {z : Int} {jz : Nat} (hg : Gl X x) (hm : X.mg x = some (.ref g)) (hk : PySem.W.keepIn X.K (.ref g) = true)
    (lk : X.K.lookup g = some ⟨oc, od, .func (PySem.W.fnOf x x pg bg sg dV kV doc pm an cdv ct), osl⟩) (hcg : PySem.W.codeIn X.K cdv x = true) (hb : Binds X.K (PySem.W.fnOf x x pg bg sg dV kV doc pm an cdv ct) [a] []) (Sg : FnScope Ng [a] sg) (hNg : Ng[0]? = some a) (hva : Vis sg a)
    (hG : GivesN X Ng x sg g cdv bg a (X.env.qual ++ "<lambda>") TT) (TB : LamX.TabB X.base X.mg c P) (hcode : X.env.code = .ref c) (hmT : (P, X.env.qual ++ "<lambda>") ∈ T) (hu : ∀ p ∈ T, p.1 = P → p.2 = X.env.qual ++ "<lambda>") (hr : Room (k + 2) X.A) (k40 : 40 ≤ k + 1) (L : LamSD X.N X.env.scope scope) (hd1 : params.defaults = [.Constant (.int z) jz pz]) (hk0 : params.kw_defaults = []) (hl0 : scope.names.lookup a0 = some .local)
    (hbind : ∀ (q : Str) (cl : List (Str × Addr)) (dV doc pm cv ctv : Value), ∃ k, bindArgs (PySem.W.kdv_fn "<lambda>" q params (.expr body) scope cl dV doc pm cv ctv) ⟨[], []⟩ = seqItems? dV >>= k ∧ ∀ u, k (some #[u]) = pure [(a0, u)])
    (hbody : ∀ (A : Around) (outer : List Env) (s : Shared) (H : Hp) (E : XK) (f c2 : Addr), Room k (A.deeper (LamX.lamEnv X scope s.heap.objs.size f c2)) → PE (lamCxN X A outer s H E scope f c2) body (t E))
    (hdb : (x == ("__debug__" : Str)) = false := by decide) (hd : (a == ("__debug__" : Str)) = false := by decide) (hcd : (a == ("__classdict__" : Str)) = false := by decide) :
    PE X (.Call (.Name x p) [.Lambda params body scope lpos] [] pos) (LamX.tLam T TT t) := by
  refine ⟨fun pins s σ H Q I ⟨hT, y⟩ => ?_⟩
  refine wpAny_Call_Name_kw (ld_glob I hg hm (PySem.W.callWith_K (h₀ := X.base) I.ok.mod.kin hk ?_ (by rfl) (by rfl)) hdb)
  show wpAny _ _ (spliced ((false, eval (.Lambda params body scope lpos) X.env) :: backTo pos (starEach [] X.env))) _ _ s
  refine Calls.spliced_cons (lam_makeD I TB hcode hmT hu hT hd1 hk0 (L.has I.ok) fun f c2 T0 u doc2 pm2 ctv H1 s1 I1 eN T1 hf hfn hfr hT0 hTn hTr hco => Calls.spliced_nil ⟨I1.kIn, ?_⟩)
  have run : codeAny (model X.prog X.w) X.A (.call (.ref g) ⟨[.ref f], []⟩) (CR CX0 X.stack X.prog X.w H1 s1 Q E0) s1 := by
    refine LamX.run_ofS (N := Ng) (ps := [a]) (us := [.ref f]) (vs := [.ref f]) lk hcg Sg hr I1.env0 (hb s1 [.ref f] I1.kIn rfl) (.cons rfl .nil) rfl fun hr2 => ?_
    obtain ⟨t2, ht2, hq2⟩ := hG _ f c2 s1 H1 Q (fun E H' Q' => t E σ H' Q') hr2 k40 (fun W pn xe E p1 p2 tk hW => pe_actD (i := 0) I1 L hf hfn hfr hT0 hTn hTr hl0 hbind tk hW hr2 (fun A outer s H E hr3 => hbody A outer s H E f c2 hr3) hNg hva hd hcd) hco (y H1 eN T1)
    exact ⟨t2, ht2.nox, hq2⟩
  refine wpAny_call (codeAny_mono run fun rs s2 hq => ?_)
  cases rs with
  | error e => exact (show False from hq).elim
  | ok fl =>
    cases fl with
    | ret u => exact I1.after hq
    | next => exact False.elim hq
    | brk => exact False.elim hq
    | cont => exact False.elim hq
end OPL
/-! ### functions asked with what is no term -/
def spBad1 (K : PySem.W.Frag) (CI : Addr) : Sp := fun vs H _ E => ∃ (v : V) (d : PyData), vs = [v] ∧ NT K H v d ∧ ndD d ≤ 1000 ∧ okd d = false ∧ ∀ H', Same H H' → E (.ref CI) none H'
def spBad2 (K : PySem.W.Frag) (CI : Addr) : Sp := fun vs H _ E => ∃ (v u : V) (d e : PyData), vs = [v, u] ∧ NT K H v d ∧ ndD d ≤ 1000 ∧ NT K H u e ∧ ndD e ≤ 1000 ∧ (okd d = false ∨ okd e = false) ∧ ∀ H', Same H H' → E (.ref CI) none H'
def spSz3 (K : PySem.W.Frag) (CI : Addr) : Sp := fun vs H Q E => ∃ (v : V) (d : PyData), vs = [v] ∧ NT K H v d ∧ ndD d ≤ 1000 ∧ (okd d = false → ∀ H', Same H H' → E (.ref CI) none H') ∧ ∀ t : Tree, d = t.d → t.sz ≤ 12 → t.dp ≤ 6 → ∀ H', Same H H' → Q (.int t.sz) H'
section
open PySem PySem.Calls PySem.Spec PyProof.Rows L2
variable {X : Cx} {pins : List (Addr × Obj)} {σ : L2.St} {H : Hp} {s : Shared}
/-! ### the same with a written int default: the lambda and the tuple of its default stand in the account -/
def LamDO (f T0 : Addr) (L : LF) : HO := .ext fun h => ∃ doc pm ctv : Value, h.get? f = some (PySem.W.kdv_obj "<lambda>" L.qual L.params (.expr L.body) L.scope L.cl (.ref T0) doc pm L.c ctv)
def DefO (T0 : Addr) : HO := .ext fun h => ∃ u : Value, h.get? T0 = some (PySem.W.kdv_tup [u])
theorem lam_makeDT {T : List (Addr × Str)} {c P : Addr} {params : Arguments} {body : Expr} {scope : Scope} {pos pz : Pos} {z : Int} {jz : Nat} {Q : Value → Shared → Prop} (I : Inv X pins σ H s) (TB : LamX.TabB X.base X.mg c P) (hcode : X.env.code = .ref c)
    (hm : (P, X.env.qual ++ "<lambda>") ∈ T) (hu : ∀ p ∈ T, p.1 = P → p.2 = X.env.qual ++ "<lambda>") (hT : LamX.Tabs T H) (hd1 : params.defaults = [.Constant (.int z) jz pz]) (hk0 : params.kw_defaults = []) (hfree : ∀ y ∈ scope.names, y.2 = .free → ∃ c, X.env.cells.lookup y.1 = some c)
    (h : ∀ (f c' T0 : Addr) (u doc pm ctv : Value) (H1 : Hp) (s' : Shared), Inv X pins σ H1 s' → LamX.ExtN H H1 → LamX.Tabs T H1 →
      s'.heap.get? f = some (PySem.W.kdv_obj "<lambda>" (X.env.qual ++ "<lambda>") params (.expr body) scope (cloFrom X.env.cells scope.names []) (.ref T0) doc pm c' ctv) → H1 f = none → f ∉ frs X.stack → s'.heap.get? T0 = some (PySem.W.kdv_tup [u]) → H1 T0 = none → T0 ∉ frs X.stack → H1 c' = some (LamX.CodeO c' (X.env.qual ++ "<lambda>")) → FpOk X pins H1 f → FpOk X pins H1 T0 → Q (.ref f) s') :
    wpAny (model X.prog X.w) X.A (eval (.Lambda params body scope pos) X.env) Q X.xe s := by
  refine PySem.W.kdv_lam (by rw [hd1]; rfl) hk0 ?_
  rw [hd1]
  refine PySem.W.kdv_all1 (thn (pe_int.run pins s σ H (fun v H' => v = .int z ∧ H' = H) I ⟨rfl, rfl⟩) fun u s0 ⟨v, H0, I0, r0, ev, eH⟩ => PySem.W.kdv_all0 ?_)
  subst ev eH
  rw [makeFunction_eq]
  simp only [List.zip_nil_right, List.filterMap_nil, List.isEmpty_nil, if_true, pure_bind, List.isEmpty_cons, Bool.false_eq_true, if_false]
  refine wpAny_bind (wpAny_newTextTuple ?_)
  obtain ⟨ps, hP, ht, ha⟩ := hT _ hm
  have I2 : Inv X pins σ H0 { s0 with heap := s0.heap.push (PySem.W.kdv_tup [u]) } := I0.kept (t' := s0.toks) fun b o e => Heap.get?_push_of_some _ e
  have hT0 : (s0.heap.push (PySem.W.kdv_tup [u])).get? s0.heap.objs.size = some (PySem.W.kdv_tup [u]) := Heap.get?_push_size _ rfl
  have hT0n : H0 s0.heap.objs.size = none := I0.hok.fresh (Nat.le_refl _)
  have bP : (s0.heap.push (PySem.W.kdv_tup [u])).BuiltinsAt X.mg P := TB.bm.keeps I2.bk
  have hP' : (s0.heap.push (PySem.W.kdv_tup [u])).get? P = some { cls := .none, data := .fields ps } := I2.hok P _ hP
  have nofr : ∀ f, s0.heap.objs.size ≤ f → f ∉ frs X.stack := fun f hf z => by
    rcases List.mem_cons.mp (I0.stkSub _ z) with e | e
    · have h1 := I0.lt
      rw [← e] at h1
      exact Nat.lt_irrefl _ (Nat.lt_of_lt_of_le h1 hf)
    · exact I0.nofs hf e
  have sz2 : s0.heap.objs.size ≤ (s0.heap.push (PySem.W.kdv_tup [u])).objs.size := by rw [Heap.size_push]; omega
  have ltT : s0.heap.objs.size < (s0.heap.push (PySem.W.kdv_tup [u])).objs.size := by rw [Heap.size_push]; omega
  have nTP : s0.heap.objs.size ≠ P := fun z => by
    rw [← z, hT0n] at hP
    cases hP
  cases hc : codeAmong pos ps.toList with
  | none =>
    refine PySem.W.kdv_makeTail (s := { s0 with heap := s0.heap.push (PySem.W.kdv_tup [u]) }) (mg := X.mg) (c := c) (P := P) (ps := ps) (closure_ok hfree) I2.ok.glob (I2.mod.glob.keeps I2.bk) hcode (TB.code.keeps I2.bk) hP' ht hc TB.gP bP fun c' ctv doc h' tk hx hge hlt hrec htb => ?_
    obtain ⟨c2, oc, vs, t, e2, hoc, hd, hv⟩ := hrec
    cases e2
    have hsz : (s0.heap.push (PySem.W.kdv_tup [u])).objs.size ≤ h'.objs.size := Nat.le_trans hge (Nat.le_of_lt hlt)
    have nC : H0 c' = none := I2.hok.fresh hge
    have I1 := LamX.inv_table (t' := tk) (more := #[rawInt pos.line, rawInt pos.col, .ref c']) (h' := h'.push (PySem.W.kdv_obj "<lambda>" (X.env.qual ++ "<lambda>") params (.expr body) scope (cloFrom X.env.cells scope.names []) (.ref s0.heap.objs.size) doc ((X.mg "__name__").getD .none) c' ctv)) I2 hP
      (fun b o hb e => Heap.get?_push_of_some _ (hx b o hb e)) (Heap.get?_push_of_some _ htb) hge ⟨oc, vs, t, Heap.get?_push_of_some _ hoc, hd, hv⟩
    have hE : LamX.ExtN H0 (upd (upd H0 P (.tbl (ps ++ #[rawInt pos.line, rawInt pos.col, .ref c']))) c' (LamX.CodeO c' (X.env.qual ++ "<lambda>"))) := fun b o e n => by
      rw [upd_ne (ne_of_none e nC), upd_ne (fun z => n ps (Option.some.inj (e.symm.trans (by rw [z]; exact hP))))]
      exact e
    have eL : (ps ++ #[rawInt pos.line, rawInt pos.col, .ref c']).toList = ps.toList ++ [rawInt pos.line, rawInt pos.col, .ref c'] := by simp
    have nTc : s0.heap.objs.size ≠ c' := Nat.ne_of_lt (Nat.lt_of_lt_of_le ltT hge)
    have nF1 : (upd (upd H0 P (.tbl (ps ++ #[rawInt pos.line, rawInt pos.col, .ref c']))) c' (LamX.CodeO c' (X.env.qual ++ "<lambda>"))) h'.objs.size = none := by
      have n1 : h'.objs.size ≠ c' := Nat.ne_of_gt hlt
      have n2 : h'.objs.size ≠ P := Nat.ne_of_gt (Nat.lt_of_lt_of_le (Heap.lt_size hP') hsz)
      rw [upd_ne n1, upd_ne n2]
      exact I2.hok.fresh hsz
    have nT1 : (upd (upd H0 P (.tbl (ps ++ #[rawInt pos.line, rawInt pos.col, .ref c']))) c' (LamX.CodeO c' (X.env.qual ++ "<lambda>"))) s0.heap.objs.size = none := by
      rw [upd_ne nTc, upd_ne nTP]
      exact hT0n
    refine h h'.objs.size c' s0.heap.objs.size u doc ((X.mg "__name__").getD .none) ctv _ _ I1 hE (fun p hp => ?_) (Heap.get?_push_size _ rfl) ?_ (nofr _ (Nat.le_trans sz2 hsz)) (Heap.get?_push_of_some _ (hx _ _ nTP hT0)) ?_ (nofr _ (Nat.le_refl _)) upd_same (fp_mono (I2.fpOk hsz (I2.hok.fresh hsz)) nF1) (fp_mono (I0.fpOk (Nat.le_refl _) hT0n) nT1)
    · by_cases hb : p.1 = P
      · rw [hu p hp hb, hb]
        refine ⟨_, by rw [upd_ne (ne_of_none hP nC), upd_same], by rw [eL]; exact PySem.TriplesOk_snoc _ _ _ _ ht, fun p' cv hcv => ?_⟩
        rw [eL] at hcv
        rcases LamX.among_app _ ht hcv with z | z
        · obtain ⟨c0, e1, e2⟩ := ha p' cv z
          exact ⟨c0, e1, hE _ _ e2 LamX.codeO_ne⟩
        · exact ⟨c', z, upd_same⟩
      · obtain ⟨ps', a1, a2, a3⟩ := hT p hp
        refine ⟨ps', by rw [upd_ne (ne_of_none a1 nC), upd_ne hb]; exact a1, a2, fun p' cv hcv => ?_⟩
        obtain ⟨c0, e1, e2⟩ := a3 p' cv hcv
        exact ⟨c0, e1, hE _ _ e2 LamX.codeO_ne⟩
    · have n1 : h'.objs.size ≠ c' := Nat.ne_of_gt hlt
      have n2 : h'.objs.size ≠ P := Nat.ne_of_gt (Nat.lt_of_lt_of_le (Heap.lt_size hP') hsz)
      rw [upd_ne n1, upd_ne n2]
      exact I2.hok.fresh hsz
    · rw [upd_ne nTc, upd_ne nTP]
      exact hT0n
  | some cv =>
    obtain ⟨c', e, hco⟩ := ha pos cv hc
    subst e
    refine PySem.W.kdv_makeTailHit (s := { s0 with heap := s0.heap.push (PySem.W.kdv_tup [u]) }) (mg := X.mg) (c := c) (P := P) (ps := ps) (closure_ok hfree) I2.ok.glob (I2.mod.glob.keeps I2.bk) hcode (TB.code.keeps I2.bk) hP' ht hc bP fun ctv doc h' tk hx hsz => ?_
    have I1 : Inv X pins σ H0 { s0 with heap := h'.push (PySem.W.kdv_obj "<lambda>" (X.env.qual ++ "<lambda>") params (.expr body) scope (cloFrom X.env.cells scope.names []) (.ref s0.heap.objs.size) doc ((X.mg "__name__").getD .none) c' ctv), toks := tk } := I2.kept fun b o e => Heap.get?_push_of_some _ (hx b o e)
    exact h h'.objs.size c' s0.heap.objs.size u doc ((X.mg "__name__").getD .none) ctv H0 _ I1 (LamX.ExtN.refl H0) hT (Heap.get?_push_size _ rfl) (I2.hok.fresh hsz) (nofr _ (Nat.le_trans sz2 hsz)) (Heap.get?_push_of_some _ (hx _ _ hT0)) hT0n (nofr _ (Nat.le_refl _)) hco (I2.fpOk hsz (I2.hok.fresh hsz)) (I0.fpOk (Nat.le_refl _) hT0n)
def tLamVD (T : List (Addr × Str)) (mk : Addr → LF) : TE := fun σ H Q => LamX.Tabs T H ∧ ∀ (f c' T0 : Addr) (H1 : Hp), LamX.ExtN H H1 → LamX.Tabs T H1 → H1 f = some (LamDO f T0 (mk c')) → H1 T0 = some (DefO T0) → H1 c' = some (LamX.CodeO c' (mk c').qual) → Q (.ref f) H1
theorem pe_lamVD {X : Cx} {T : List (Addr × Str)} {c P : Addr} {params : Arguments} {body : Expr} {scope : Scope} {pos pz : Pos} {z : Int} {jz : Nat} (TB : LamX.TabB X.base X.mg c P) (hcode : X.env.code = .ref c) (hm : (P, X.env.qual ++ "<lambda>") ∈ T) (hu : ∀ p ∈ T, p.1 = P → p.2 = X.env.qual ++ "<lambda>") (hd1 : params.defaults = [.Constant (.int z) jz pz]) (hk0 : params.kw_defaults = [])
    (L : LamSD X.N X.env.scope scope) : PE X (.Lambda params body scope pos) (tLamVD T fun c' => ⟨X.env.qual ++ "<lambda>", params, body, scope, cloFrom X.env.cells scope.names [], c'⟩) := by
  refine ⟨fun pins s σ H Q I ⟨hT, h⟩ => lam_makeDT I TB hcode hm hu hT hd1 hk0 (L.has I.ok) fun f c' T0 u doc pm ctv H1 s' I1 eN T1 hf hfn hfr hT0 hTn hTr hco fpF fpT => ?_⟩
  have ne : f ≠ T0 := fun z => by
    rw [z, hT0] at hf
    exact absurd (Value.type.inj (congrArg Obj.cls (Option.some.inj hf))) (by decide)
  have J1 := inv_two (h2 := s'.heap) (tk := s'.toks) (o := DefO T0) I1 fpT fpT (fun _ _ _ _ e => e) ⟨⟨u, hT0⟩, ⟨_, hT0⟩, fun h1 h2 ⟨u, z⟩ st => ⟨u, st _ z⟩⟩
  have nf : (upd H1 T0 (DefO T0)) f = none := by rw [upd_ne ne]; exact hfn
  have J2 := inv_two (h2 := s'.heap) (tk := s'.toks) (o := LamDO f T0 ⟨X.env.qual ++ "<lambda>", params, body, scope, cloFrom X.env.cells scope.names [], c'⟩) J1 (fp_mono fpF nf) (fp_mono fpF nf) (fun _ _ _ _ e => e) ⟨⟨doc, pm, ctv, hf⟩, ⟨_, hf⟩, fun h1 h2 ⟨doc, pm, ctv, z⟩ st => ⟨doc, pm, ctv, st _ z⟩⟩
  have sm : Same H1 (upd (upd H1 T0 (DefO T0)) f (LamDO f T0 ⟨X.env.qual ++ "<lambda>", params, body, scope, cloFrom X.env.cells scope.names [], c'⟩)) := (Same.new hTn _).trans (Same.new nf _)
  exact ⟨.ref f, _, J2, rfl, h f c' T0 _ (eN.trans (LamX.ExtN.of sm)) (T1.ext sm) upd_same (by rw [upd_ne (Ne.symm ne)]; exact upd_same) (sm _ _ hco)⟩
theorem pe_actTD {CXg : CXT} {Eg : XK} {Ng : List Str} {qg : Str} {sg : Scope} {g f c T0 : Addr} {cdg : Value} {params : Arguments} {body : Expr} {scope : Scope} {k i : Nat} {a a0 : Str} {pn : List (Addr × Obj)} {xe : Value → Shared → Prop} {W : WX} {E : L2.St → XK} {tb : XK → TE} {p1 p2 : Pos}
    (I : Inv X pins σ H s) (L : LamSD X.N X.env.scope scope) (hl0 : scope.names.lookup a0 = some .local)
    (hbind : ∀ (q : Str) (cl : List (Str × Addr)) (dV doc pm cv ctv : Value), ∃ k, bindArgs (PySem.W.kdv_fn "<lambda>" q params (.expr body) scope cl dV doc pm cv ctv) ⟨[], []⟩ = seqItems? dV >>= k ∧ ∀ u, k (some #[u]) = pure [(a0, u)])
    (tk : L2C.Takes ((cxOf CXg X.prog X.w X.K X.mg X.base Ng qg sg g cdg X.A X.stack s H Eg).tr pn xe) W) (hW : ∀ cls d σ2 H2, E σ2 cls d H2 → W cls d σ2 H2) (hr : Room (k + 1) (X.A.deeper (envOfC qg sg s.heap.objs.size g cdg)))
    (hbody : ∀ (A : Around) (outer : List Env) (s : Shared) (H : Hp) (E : XK), Room k (A.deeper (LamX.lamEnv X scope s.heap.objs.size f c)) → PE (lamCxN X A outer s H E scope f c) body (tb E))
    (hN : Ng[i]? = some a) (hv : Vis sg a) (hd : (a == ("__debug__" : Str)) = false := by decide) (hcd : (a == ("__classdict__" : Str)) = false := by decide) :
    PE ((cxOf CXg X.prog X.w X.K X.mg X.base Ng qg sg g cdg X.A X.stack s H Eg).tr pn xe) (.Call (.Name a p1) [] [] p2) (fun σZ HZ Q => σZ[i]? = some (some (.ref f)) ∧ HZ c = some (LamX.CodeO c (X.env.qual ++ "<lambda>")) ∧ HZ f = some (LamDO f T0 ⟨X.env.qual ++ "<lambda>", params, body, scope, cloFrom X.env.cells scope.names [], c⟩) ∧ HZ T0 = some (DefO T0) ∧ tb (E σZ) σ HZ Q) := by
  refine ⟨fun pz sz σz Hz Q Iz ⟨hs, hc, hl, hT, y⟩ => ?_⟩
  refine wpAny_Call_Name_kw (thn ((pe_var (pos := p1) (i := i) hN hv hd hcd).run pz sz σz Hz (fun v H1 => v = .ref f ∧ H1 = Hz) Iz ⟨.ref f, hs, rfl, rfl⟩) fun u' s1 ⟨v, H1, I1, r1, ev, eH⟩ => ?_)
  subst ev eH
  cases (show u' = Value.ref f from r1)
  obtain ⟨⟨doc, pm, ctv, of1⟩, _⟩ := I1.hok f _ hl
  obtain ⟨⟨u, oT1⟩, _⟩ := I1.hok T0 _ hT
  refine PySem.W.callWith_F0 ⟨_, _, _, _, of1⟩ ?_
  obtain ⟨⟨oc, vs, t, hoc, hdc, hvc⟩, _, _⟩ := I1.hok c _ hc
  have run : codeAny (model X.prog X.w) (X.A.deeper (envOfC qg sg s.heap.objs.size g cdg)) (.call (.ref f) ⟨[], []⟩) (CR (L2C.CX X.prog X.w) (envOfC qg sg s.heap.objs.size g cdg :: X.stack) X.prog X.w H1 s1 Q (E σz)) s1 := by
    obtain ⟨kk, hb1, hb2⟩ := hbind (X.env.qual ++ "<lambda>") (cloFrom X.env.cells scope.names []) (.ref T0) doc pm (.ref c) ctv
    have hB : BindsTo s1 (PySem.W.kdv_fn "<lambda>" (X.env.qual ++ "<lambda>") params (.expr body) scope (cloFrom X.env.cells scope.names []) (.ref T0) doc pm (.ref c) ctv) ⟨[], []⟩ [(a0, u)] := BindsTo.of_defaults rfl oT1 rfl hb1 (hb2 u)
    refine PySem.W.kla_callFunE hr.depth of1 rfl L.co L.gen rfl ⟨c, oc, vs, t, rfl, hoc, hdc, hvc⟩ (hB _ _ _ _ ?_)
    refine wpAny_newFunctionEnv (fun y hy => (L.own y hy).1) (fun y hy => by rw [List.mem_singleton.mp hy]; exact hl0) (fun g1 hns hsb => ⟨I1.nolimit.fresh _ hsb, ?_⟩) L.kind
    have kp : ∀ b o, s1.heap.get? b = some o → g1.get? b = some o := fun b o e => hsb.extBut b o (Nat.ne_of_lt (Heap.lt_size e)) (Heap.get?_push_of_some _ e)
    have J := lam_startD (E := E σz) (f := f) (c' := c) (tk := s1.toks + ([(a0, u)] : List (Str × Value)).length) I L I1.env0 hr.hd I1.base hns kp
    refine PySem.W.kla_codeExpr (wpAny_mono ((hbody _ _ s1 H1 (E σz) (hr.deeper _)).run [] _ _ H1 Q (J.wish _) y) (fun v s3 ⟨w3, H3, J3, rv, q⟩ => ⟨w3, H3, J3.os, J3.bare, J3.base, J3.hok, rv, q⟩) fun e s3 z => z)
  refine wpAny_call (codeAny_mono run fun rs s2 hq => ?_)
  cases rs with
  | error e => exact tk e s2 (L2C.XE.of_call I1 (fun cls d H' h => hW cls d σz H' h) hq)
  | ok fl =>
    cases fl with
    | ret u => exact I1.after hq
    | next => exact False.elim hq
    | brk => exact False.elim hq
    | cont => exact False.elim hq
/-- x(v) from within a comprehension, v holding such a lambda of the frame around -/
def tAskD (K : PySem.W.Frag) (q : Str) (TT : (XK → Hp → VK → Prop) → Hp → VK → Prop) (mk : Addr → LF) (i : Nat) (t : XK → TE) (σ : L2.St) : TE := fun σ2 G Q => ∃ f c T0 : Addr, σ2[i]? = some (some (.ref f)) ∧ G c = some (LamX.CodeO c q) ∧ TT (fun E H' Q' => H' f = some (LamDO f T0 (mk c)) ∧ H' T0 = some (DefO T0) ∧ t E σ H' Q') G Q
theorem pe_askD {X : Cx} {TT : (XK → Hp → VK → Prop) → Hp → VK → Prop} {x a a0 v : Str} {g : Addr} {k i : Nat} {pg : Arguments} {bg : List Stmt} {sg : Scope} {dV kV doc pm cdv ct oc : Value} {an od : Option Addr} {osl : Array (Option Value)} {Ng : List Str}
    {params : Arguments} {body : Expr} {scope scB : Scope} {t : XK → TE} {p p2 pos : Pos} {s0 : Shared} {H0 : Hp} {ce : Env} {fp : List Addr} {pins : List (Addr × Obj)} {σ : L2.St}
    (back : ∀ {pz : List (Addr × Obj)} {σ' : L2.St} {G : Hp} {s' : Shared}, Inv (X.blk s0 H0 scB ce fp) pz σ' G s' → Inv X pins σ G s')
    (hg : Gl (X.blk s0 H0 scB ce fp) x) (hm : X.mg x = some (.ref g)) (hk : PySem.W.keepIn X.K (.ref g) = true)
    (lk : X.K.lookup g = some ⟨oc, od, .func (PySem.W.fnOf x x pg bg sg dV kV doc pm an cdv ct), osl⟩) (hcg : PySem.W.codeIn X.K cdv x = true) (hb : Binds X.K (PySem.W.fnOf x x pg bg sg dV kV doc pm an cdv ct) [a] []) (Sg : FnScope Ng [a] sg) (hNg : Ng[0]? = some a) (hva : Vis sg a)
    (hG : GivesN X Ng x sg g cdv bg a (X.env.qual ++ "<lambda>") TT) (hr : Room (k + 2) X.A) (k40 : 40 ≤ k + 1) (L : LamSD X.N X.env.scope scope) (hl0 : scope.names.lookup a0 = some .local)
    (hbind : ∀ (q : Str) (cl : List (Str × Addr)) (dV doc pm cv ctv : Value), ∃ k, bindArgs (PySem.W.kdv_fn "<lambda>" q params (.expr body) scope cl dV doc pm cv ctv) ⟨[], []⟩ = seqItems? dV >>= k ∧ ∀ u, k (some #[u]) = pure [(a0, u)])
    (hbody : ∀ (A : Around) (outer : List Env) (s : Shared) (H : Hp) (E : XK) (f c2 : Addr), Room k (A.deeper (LamX.lamEnv X scope s.heap.objs.size f c2)) → PE (lamCxN X A outer s H E scope f c2) body (t E))
    (hN : X.N[i]? = some v) (hv : Vis ce.scope v)
    (hdb : (x == ("__debug__" : Str)) = false := by decide) (hd : (a == ("__debug__" : Str)) = false := by decide) (hcd : (a == ("__classdict__" : Str)) = false := by decide) (hvd : (v == ("__debug__" : Str)) = false := by decide) (hvc : (v == ("__classdict__" : Str)) = false := by decide) :
    PE (X.blk s0 H0 scB ce fp) (.Call (.Name x p) [.Name v p2] [] pos) (tAskD X.K (X.env.qual ++ "<lambda>") TT (fun c => ⟨X.env.qual ++ "<lambda>", params, body, scope, cloFrom X.env.cells scope.names [], c⟩) i t σ) := by
  refine ⟨fun pz s σ2 G Q J ⟨f, c2, T0, hs, hco, y⟩ => ?_⟩
  refine wpAny_Call_Name_kw (ld_glob J hg hm (PySem.W.callWith_K (h₀ := X.base) J.ok.mod.kin hk ?_ (by rfl) (by rfl)) hdb)
  show wpAny _ _ (spliced ((false, eval (.Name v p2) (X.blk s0 H0 scB ce fp).env) :: backTo pos (starEach [] (X.blk s0 H0 scB ce fp).env))) _ _ s
  refine Calls.spliced_cons (thn ((pe_var (pos := p2) (i := i) (X := X.blk s0 H0 scB ce fp) hN hv hvd hvc).run pz s σ2 G (fun w H1 => w = .ref f ∧ H1 = G) J ⟨.ref f, hs, rfl, rfl⟩) fun u s1 ⟨w, H1, J1, r1, ew, eH⟩ => Calls.spliced_nil ⟨J1.kIn, ?_⟩)
  subst ew eH
  cases (show u = Value.ref f from r1)
  have I1 := back J1
  have run : codeAny (model X.prog X.w) X.A (.call (.ref g) ⟨[.ref f], []⟩) (CR CX0 X.stack X.prog X.w H1 s1 Q E0) s1 := by
    refine LamX.run_ofS (N := Ng) (ps := [a]) (us := [.ref f]) (vs := [.ref f]) lk hcg Sg hr I1.env0 (hb s1 [.ref f] I1.kIn rfl) (.cons rfl .nil) rfl fun hr2 => ?_
    obtain ⟨t2, ht2, hq2⟩ := hG _ f c2 s1 H1 Q _ hr2 k40 (fun W pn xe E p1 p2 tk hW => pe_actTD (i := 0) I1 L hl0 hbind tk hW hr2 (fun A outer s H E hr3 => hbody A outer s H E f c2 hr3) hNg hva hd hcd) hco y
    exact ⟨t2, ht2.nox, hq2⟩
  refine wpAny_call (codeAny_mono run fun rs s2 hq => ?_)
  cases rs with
  | error e => exact (show False from hq).elim
  | ok fl =>
    cases fl with
    | ret u => exact J1.after hq
    | next => exact False.elim hq
    | brk => exact False.elim hq
    | cont => exact False.elim hq
end
section
open PySem PySem.Calls PySem.Spec PyProof.Rows L2
variable {X : Cx}
/-! ### a lambda in the heap's account by what a call of it means: Ask -/
def Ask (X : Cx) (k : Nat) (f c : Addr) (pre : Hp → Prop) (t : XK → TE) : Prop :=
  ∀ (pins : List (Addr × Obj)) (σ : L2.St) (H : Hp) (s : Shared) (Ng : List Str) (x : Str) (sg : Scope) (g : Addr) (cdg : Value) (a : Str) (pn : List (Addr × Obj)) (xe : Value → Shared → Prop) (W : WX) (E : L2.St → XK) (p1 p2 : Pos), Inv X pins σ H s →
    L2C.Takes ((cxOf CX0 X.prog X.w X.K X.mg X.base Ng x sg g cdg X.A X.stack s H E0).tr pn xe) W → (∀ cls d σ2 H2, E σ2 cls d H2 → W cls d σ2 H2) → Room (k + 1) (X.A.deeper (envOfC x sg s.heap.objs.size g cdg)) → Ng[0]? = some a → Vis sg a →
    (a == ("__debug__" : Str)) = false → (a == ("__classdict__" : Str)) = false →
    PE ((cxOf CX0 X.prog X.w X.K X.mg X.base Ng x sg g cdg X.A X.stack s H E0).tr pn xe) (.Call (.Name a p1) [] [] p2) (fun σZ HZ Q => σZ[0]? = some (some (.ref f)) ∧ HZ c = some (LamX.CodeO c (X.env.qual ++ "<lambda>")) ∧ pre HZ ∧ t (E σZ) σ HZ Q)
/-- what is made: a lambda that may be asked, also later -/
def tLamA (X : Cx) (T : List (Addr × Str)) (k : Nat) (t : XK → TE) : TE := fun _ H Q => LamX.Tabs T H ∧ ∀ (f c : Addr) (pre : Hp → Prop) (H1 : Hp), LamX.ExtN H H1 → LamX.Tabs T H1 → Ask X k f c pre t → (∀ G, LamX.ExtN H1 G → pre G ∧ G c = some (LamX.CodeO c (X.env.qual ++ "<lambda>"))) → Q (.ref f) H1
theorem lamDO_ne {f T0 : Addr} {L : LF} (ps : Array Value) : LamDO f T0 L ≠ .tbl ps := fun z => by
  unfold LamDO at z
  cases z
theorem defO_ne {T0 : Addr} (ps : Array Value) : DefO T0 ≠ .tbl ps := fun z => by
  unfold DefO at z
  cases z
theorem pe_lamA {T : List (Addr × Str)} {c P : Addr} {k : Nat} {params : Arguments} {body : Expr} {scope : Scope} {pos : Pos} {t : XK → TE} (TB : LamX.TabB X.base X.mg c P) (hcode : X.env.code = .ref c) (hm : (P, X.env.qual ++ "<lambda>") ∈ T) (hu : ∀ p ∈ T, p.1 = P → p.2 = X.env.qual ++ "<lambda>") (hdef : defaultsOf params X.env = ([], []))
    (L : LamX.LamS X.env.scope scope) (hfree : ∀ y ∈ scope.names, y.2 = .free → X.env.scope.names.lookup y.1 = some .cell ∨ X.env.scope.names.lookup y.1 = some .free)
    (hbind : ∀ (q : Str) (cl : List (Str × Addr)) (pm cv ctv : Value), bindArgs (PySem.W.kla_fn "<lambda>" q params body scope cl pm cv ctv) ⟨[], []⟩ = pure [])
    (hbody : ∀ (A : Around) (outer : List Env) (s : Shared) (H : Hp) (E : XK) (f c2 : Addr), Room k (A.deeper (LamX.lamEnv X scope s.heap.objs.size f c2)) → PE (lamCxN X A outer s H E scope f c2) body (t E)) :
    PE X (.Lambda params body scope pos) (tLamA X T k t) :=
  ⟨fun pins s σ H Q I ⟨hT, h⟩ => (pe_lamV (T := T) TB hcode hm hu hdef hfree).run pins s σ H Q I ⟨hT, fun f c' H1 eN T1 _ hf hc => h f c' _ H1 eN T1
    (fun pins σ H s Ng x sg g cdg a pn xe W E p1 p2 I tk hW hr hN hv hd hcd => pe_actT (i := 0) I L hbind tk hW hr (fun A outer s H E hr3 => hbody A outer s H E f c' hr3) hN hv hd hcd) fun G e => ⟨e _ _ hf lamO_ne, e _ _ hc LamX.codeO_ne⟩⟩⟩
theorem pe_lamAD {T : List (Addr × Str)} {c P : Addr} {k : Nat} {params : Arguments} {body : Expr} {scope : Scope} {pos pz : Pos} {z : Int} {jz : Nat} {a0 : Str} {t : XK → TE} (TB : LamX.TabB X.base X.mg c P) (hcode : X.env.code = .ref c) (hm : (P, X.env.qual ++ "<lambda>") ∈ T) (hu : ∀ p ∈ T, p.1 = P → p.2 = X.env.qual ++ "<lambda>") (hd1 : params.defaults = [.Constant (.int z) jz pz]) (hk0 : params.kw_defaults = [])
    (L : LamSD X.N X.env.scope scope) (hl0 : scope.names.lookup a0 = some .local)
    (hbind : ∀ (q : Str) (cl : List (Str × Addr)) (dV doc pm cv ctv : Value), ∃ k, bindArgs (PySem.W.kdv_fn "<lambda>" q params (.expr body) scope cl dV doc pm cv ctv) ⟨[], []⟩ = seqItems? dV >>= k ∧ ∀ u, k (some #[u]) = pure [(a0, u)])
    (hbody : ∀ (A : Around) (outer : List Env) (s : Shared) (H : Hp) (E : XK) (f c2 : Addr), Room k (A.deeper (LamX.lamEnv X scope s.heap.objs.size f c2)) → PE (lamCxN X A outer s H E scope f c2) body (t E)) :
    PE X (.Lambda params body scope pos) (tLamA X T k t) :=
  ⟨fun pins s σ H Q I ⟨hT, h⟩ => (pe_lamVD (T := T) TB hcode hm hu hd1 hk0 L).run pins s σ H Q I ⟨hT, fun f c' T0 H1 eN T1 hf h0 hc => h f c' (fun HZ => HZ f = some (LamDO f T0 ⟨X.env.qual ++ "<lambda>", params, body, scope, cloFrom X.env.cells scope.names [], c'⟩) ∧ HZ T0 = some (DefO T0)) H1 eN T1
    (fun pins σ H s Ng x sg g cdg a pn xe W E p1 p2 I tk hW hr hN hv hd hcd => ⟨fun pz sz σz Hz Q Iz ⟨y1, y2, ⟨y3, y4⟩, y5⟩ => (pe_actTD (i := 0) I L hl0 hbind tk hW hr (fun A outer s H E hr3 => hbody A outer s H E f c' hr3) hN hv hd hcd).run pz sz σz Hz Q Iz ⟨y1, y2, y3, y4, y5⟩⟩) fun G e => ⟨⟨e _ _ hf lamDO_ne, e _ _ h0 defO_ne⟩, e _ _ hc LamX.codeO_ne⟩⟩⟩
/-- x(v) from within a comprehension: v may be asked -/
def tAskG (X : Cx) (k i : Nat) (TT : (XK → Hp → VK → Prop) → Hp → VK → Prop) (σ : L2.St) : TE := fun σ2 G Q => ∃ (f c : Addr) (pre : Hp → Prop) (t : XK → TE), σ2[i]? = some (some (.ref f)) ∧ Ask X k f c pre t ∧ G c = some (LamX.CodeO c (X.env.qual ++ "<lambda>")) ∧ TT (fun E H' Q' => pre H' ∧ t E σ H' Q') G Q
theorem pe_askG {TT : (XK → Hp → VK → Prop) → Hp → VK → Prop} {x a v : Str} {g : Addr} {k i : Nat} {pg : Arguments} {bg : List Stmt} {sg : Scope} {dV kV doc pm cdv ct oc : Value} {an od : Option Addr} {osl : Array (Option Value)} {Ng : List Str}
    {scB : Scope} {p p2 pos : Pos} {s0 : Shared} {H0 : Hp} {ce : Env} {fp : List Addr} {pins : List (Addr × Obj)} {σ : L2.St}
    (back : ∀ {pz : List (Addr × Obj)} {σ' : L2.St} {G : Hp} {s' : Shared}, Inv (X.blk s0 H0 scB ce fp) pz σ' G s' → Inv X pins σ G s')
    (hg : Gl (X.blk s0 H0 scB ce fp) x) (hm : X.mg x = some (.ref g)) (hk : PySem.W.keepIn X.K (.ref g) = true)
    (lk : X.K.lookup g = some ⟨oc, od, .func (PySem.W.fnOf x x pg bg sg dV kV doc pm an cdv ct), osl⟩) (hcg : PySem.W.codeIn X.K cdv x = true) (hb : Binds X.K (PySem.W.fnOf x x pg bg sg dV kV doc pm an cdv ct) [a] []) (Sg : FnScope Ng [a] sg) (hNg : Ng[0]? = some a) (hva : Vis sg a)
    (hG : GivesN X Ng x sg g cdv bg a (X.env.qual ++ "<lambda>") TT) (hr : Room (k + 2) X.A) (k40 : 40 ≤ k + 1)
    (hN : X.N[i]? = some v) (hv : Vis ce.scope v)
    (hdb : (x == ("__debug__" : Str)) = false := by decide) (hd : (a == ("__debug__" : Str)) = false := by decide) (hcd : (a == ("__classdict__" : Str)) = false := by decide) (hvd : (v == ("__debug__" : Str)) = false := by decide) (hvc : (v == ("__classdict__" : Str)) = false := by decide) :
    PE (X.blk s0 H0 scB ce fp) (.Call (.Name x p) [.Name v p2] [] pos) (tAskG X k i TT σ) := by
  refine ⟨fun pz s σ2 G Q J ⟨f, c2, pre, t, hs, hA, hco, y⟩ => ?_⟩
  refine wpAny_Call_Name_kw (ld_glob J hg hm (PySem.W.callWith_K (h₀ := X.base) J.ok.mod.kin hk ?_ (by rfl) (by rfl)) hdb)
  show wpAny _ _ (spliced ((false, eval (.Name v p2) (X.blk s0 H0 scB ce fp).env) :: backTo pos (starEach [] (X.blk s0 H0 scB ce fp).env))) _ _ s
  refine Calls.spliced_cons (thn ((pe_var (pos := p2) (i := i) (X := X.blk s0 H0 scB ce fp) hN hv hvd hvc).run pz s σ2 G (fun w H1 => w = .ref f ∧ H1 = G) J ⟨.ref f, hs, rfl, rfl⟩) fun u s1 ⟨w, H1, J1, r1, ew, eH⟩ => Calls.spliced_nil ⟨J1.kIn, ?_⟩)
  subst ew eH
  cases (show u = Value.ref f from r1)
  have I1 := back J1
  have run : codeAny (model X.prog X.w) X.A (.call (.ref g) ⟨[.ref f], []⟩) (CR CX0 X.stack X.prog X.w H1 s1 Q E0) s1 := by
    refine LamX.run_ofS (N := Ng) (ps := [a]) (us := [.ref f]) (vs := [.ref f]) lk hcg Sg hr I1.env0 (hb s1 [.ref f] I1.kIn rfl) (.cons rfl .nil) rfl fun hr2 => ?_
    obtain ⟨t2, ht2, hq2⟩ := hG _ f c2 s1 H1 Q (fun E H' Q' => pre H' ∧ t E σ H' Q') hr2 k40 (fun W pn xe E p1 p2 tk hW => hA _ σ _ _ _ _ _ _ _ _ _ _ _ _ _ _ I1 tk hW hr2 hNg hva hd hcd) hco y
    exact ⟨t2, ht2.nox, hq2⟩
  refine wpAny_call (codeAny_mono run fun rs s2 hq => ?_)
  cases rs with
  | error e => exact (show False from hq).elim
  | ok fl =>
    cases fl with
    | ret u => exact J1.after hq
    | next => exact False.elim hq
    | brk => exact False.elim hq
    | cont => exact False.elim hq
end
section
variable {P : Program} {w : World} {K : PySem.W.Frag} {mg : Str → Option Value} {base : Heap} {f : Addr} {fd : FuncData}

abbrev s__law_draws : Stmt := top 54
theorem sc__law_draws : FnScope ["_law_script", "_law_salt", "_law_cell"] ["_law_script"] (defScope s__law_draws) := ⟨rfl, rfl, rfl, by decide +kernel, rfl, by decide +kernel, by decide +kernel⟩
theorem ok__law_draws (d : D K mg "_law_draws" s__law_draws ["_law_script"] f fd) (B : Blt mg) : FnOk P w K mg base CX0 1 f fd ["_law_script"] (spDraws K) := by
  refine d.F.ok sc__law_draws (fun vs H Q E h => ?_) (fun cdv A outer s H vs Q E hr h => ?_)
  · obtain ⟨a, ns, rfl, _⟩ := h
    rfl
  obtain ⟨a, ns, rfl, hS, q⟩ := h
  refine ⟨_, (pss_cons (ps_set (i := 1) sc__law_draws.nd rfl (Or.inl rfl) pe_int)
 (pss_cons (ps_for PassesOwn.never rfl (pi_list (pe_slice sl_list (pv 0) po_none (po_some pe_int))) (pg_name (i := 2) sc__law_draws.nd rfl (Or.inl rfl))
  (pss_one (ps_set (i := 1) sc__law_draws.nd rfl (Or.inl rfl) (pe_op op_mod (pe_op op_add (pe_op op_add (pe_op op_mul (pv 1) pe_int) (pe_op op_mod (pv 2) pe_int)) pe_int) pe_int))))
 (pss_one (ps_ret (pe_lst (pa_cons (pe_callTy call_list_of (by rfl) B.list (by decide +kernel) (pa_cons (pe_slice sl_list (pv 0) po_none (po_some pe_int)) pa_nil)) (pa_cons pe_int (pa_cons pe_int (pa_cons (pv 1) pa_nil))))))))), ?_⟩
  refine ⟨_, rfl, 63, rfl, a, _, rfl, hS, fun p hp => ?_⟩
  rw [cut63]
  have s1 : Same H (upd H p (.lst ((ns.take 63).map V.int))) := Same.new hp _
  refine ⟨p, rfl, ⟨_, SqL.here upd_same⟩, for_list (K := K) (a := p) (xs := (ns.take 63).map V.int) (fun i σ H' => ∃ (s : Int) (v : Option V), σ = [some (.ref a), some (.int s), v] ∧ 0 ≤ s ∧ s < 2147483647 ∧ H' = upd H p (.lst ((ns.take 63).map V.int)))
    ⟨9471, none, rfl, by decide, by decide, rfl⟩ (fun i σ H' _ ⟨_, _, _, _, _, e⟩ => by rw [e]; exact SqL.here upd_same) ?_ ?_⟩
  · rintro i x σ H' hi ⟨s, v, rfl, h0, h1, rfl⟩
    obtain ⟨u, rfl⟩ : ∃ u, x = V.int u := by
      rw [List.getElem?_map] at hi
      cases e : (ns.take 63)[i]? with
      | none =>
        rw [e] at hi
        cases hi
      | some u =>
        rw [e] at hi
        exact ⟨u, (Option.some.inj hi).symm⟩
    refine ⟨_, rfl, _, _, rfl, rfl, .inl ⟨by omega, by omega⟩, _, rfl, _, _, rfl, rfl, (by show (0 : Int) < 2147483587; decide), _, _, rfl, rfl, _, _, rfl, rfl, _, _, rfl, rfl, (by show (0 : Int) < 2147483647; decide), ?_⟩
    exact ⟨_, _, rfl, Int.emod_nonneg _ (by decide), Int.emod_lt_of_pos _ (by decide), rfl⟩
  · rintro σ H' ⟨s, v, rfl, h0, h1, rfl⟩
    refine ⟨_, rfl, 63, rfl, a, _, rfl, s1.seq hS, fun p2 hp2 => ?_⟩
    rw [cut63]
    have s2 := s1.trans (Same.new hp2 (.lst ((ns.take 63).map V.int)))
    refine ⟨p2, _, rfl, .inl (SqL.here upd_same), fun c hc => ?_⟩
    have s3 := s2.trans (Same.new hc (.lst ((ns.take 63).map V.int)))
    refine ⟨_, rfl, four_le, fun r hr' => ?_⟩
    have nrc : c ≠ r := fun e => by
      rw [← e, upd_same] at hr'
      cases hr'
    refine q r _ (s3.trans (Same.new hr' _)) (s3.free hr') ⟨c, ns.take 63, 0, 0, s, upd_same, ?_, nrc, by decide, by decide, h0, h1⟩
    rw [upd_ne nrc, upd_same]

abbrev s__law_draw : Stmt := top 55
theorem sc__law_draw : FnScope ["_law_rng", "_law_amount", "_law_cell", "_law_got", "_law_seed"] ["_law_rng", "_law_amount"] (defScope s__law_draw) := ⟨rfl, rfl, rfl, by decide +kernel, rfl, by decide +kernel, by decide +kernel⟩
theorem ok__law_draw (d : D K mg "_law_draw" s__law_draw ["_law_rng", "_law_amount"] f fd) (B : Blt mg) : FnOk P w K mg base CX0 1 f fd ["_law_rng", "_law_amount"] spDraw := by
  refine d.F.ok sc__law_draw (fun vs H Q E h => ?_) (fun cdv A outer s H vs Q E hr h => ?_)
  · obtain ⟨a, ns, rfl, _⟩ := h
    rfl
  obtain ⟨r, n, rfl, ⟨c, ns, i, b, s, hR, hC, ncr, hi, hb, h0, h1⟩, hn, hn2, q⟩ := h
  refine ⟨_, (C8.pss_cut (ps_if (PW.pt (pw_and (pt_cmpR op_eq (pe_ix ix_list (pv 0) pe_int (fun _ _ => rfl)) pe_int (nomark _)) (pw_and1 (pt_cmpR op_lt (pe_ix ix_list (pv 0) pe_int (fun _ _ => rfl)) (pe_callB call_len_seq (by rfl) B.len PySem.boot_len (pa_cons (pe_ix ix_list (pv 0) pe_int (fun _ _ => rfl)) pa_nil)) (nomark _))))) (pss_cons (ps_set (i := 2) sc__law_draw.nd rfl (Or.inl rfl) (pe_ix ix_list (pe_ix ix_list (pv 0) pe_int (fun _ _ => rfl)) (pe_ix ix_list (pv 0) pe_int (fun _ _ => rfl)) (fun _ _ => rfl)))
 (pss_cons (ps_asg (pe_op op_add (pe_ix ix_list (pv 0) pe_int (fun _ _ => rfl)) pe_int) (pg_sub (pv 0) pe_int set_list))
 (pss_one (ps_if (pt_cmpR op_ge (pv 2) (pe_op op_pow pe_int pe_int) (nomark _)) (pss_one (ps_asg (pv 2) (pg_sub (pv 0) pe_int set_list))) (pss_one (ps_asg (pe_op op_mod (pe_op op_add (pe_op op_add (pe_op op_mul (pe_ix ix_list (pv 0) pe_int (fun _ _ => rfl)) pe_int) (pe_op op_mul (pe_op op_mod (pv 2) pe_int) pe_int)) pe_int) pe_int) (pg_sub (pv 0) pe_int set_list))))))) pss_nil)
 (pss_cons (ps_if (pt_cmpR op_gt (pe_ix ix_list (pv 0) pe_int (fun _ _ => rfl)) pe_int (nomark _)) (pss_cons (ps_set (i := 3) sc__law_draw.nd rfl (Or.inl rfl) (pe_op op_mod (pe_ix ix_list (pv 0) pe_int (fun _ _ => rfl)) (pv 1)))
 (pss_cons (ps_asg (pe_op op_fdiv (pe_ix ix_list (pv 0) pe_int (fun _ _ => rfl)) (pv 1)) (pg_sub (pv 0) pe_int set_list))
 (pss_one (ps_ret (pv 3))))) pss_nil)
 (pss_cons (ps_set (i := 4) sc__law_draw.nd rfl (Or.inl rfl) (pe_ix ix_list (pv 0) pe_int (fun _ _ => rfl)))
 (pss_cons (ps_asg (pe_op op_mod (pe_op op_add (pe_op op_add (pe_op op_mul (pv 4) pe_int) (pe_op op_mul (pe_op op_fdiv (pv 4) pe_int) pe_int)) pe_int) pe_int) (pg_sub (pv 0) pe_int set_list))
 (pss_one (ps_ret (pe_op op_mod (pe_op op_add (pe_op op_fdiv (pe_ix ix_list (pv 0) pe_int (fun _ _ => rfl)) pe_int) (pe_op op_mul (pe_op op_mod (pe_ix ix_list (pv 0) pe_int (fun _ _ => rfl)) pe_int) pe_int)) (pv 1)))))))), ?_⟩
  refine ⟨fun σ H1 => ∃ (i b s : Int) (cell : Option V), σ = [some (.ref r), some (.int n), cell, none, none] ∧ But r H H1 ∧ H1 r = some (.lst [.ref c, .int i, .int b, .int s]) ∧ H1 c = some (.lst (ns.map V.int)) ∧ 0 ≤ i ∧ 0 ≤ b ∧ 0 ≤ s ∧ s < 2147483647, ?_, ?_⟩
  · refine ⟨_, rfl, r, _, 2, _, rfl, rfl, SqL.here hR, rfl, rfl, _, rfl, ?_⟩
    refine ite2 (fun c1 => ?_) (fun c1 => ?_)
    · refine ⟨_, rfl, r, _, 1, _, rfl, rfl, SqL.here hR, rfl, _, rfl, r, _, 0, _, rfl, rfl, SqL.here hR, rfl, c, _, rfl, .inl (SqL.here hC), _, _, rfl, rfl, _, rfl, ?_⟩
      refine ite2 (fun c2 => ?_) (fun c2 => ?_)
      · have c3 : i < (((ns.map V.int).length : Nat) : Int) := of_decide_eq_true c2
        rw [List.length_map] at c3
        have hk : i.toNat < ns.length := by omega
        have ek : i = ((i.toNat : Nat) : Int) := by omega
        obtain ⟨u, q1⟩ : ∃ u, atI (ns.map V.int) i = some (.int u) := by
          refine ⟨ns[i.toNat], ?_⟩
          have q0 : atI (ns.map V.int) ((i.toNat : Nat) : Int) = some (.int ns[i.toNat]) := atI_nat (by rw [List.getElem?_map, List.getElem?_eq_getElem hk] <;> rfl)
          rw [← ek] at q0
          exact q0
        refine ⟨_, rfl, r, _, 0, _, rfl, rfl, SqL.here hR, rfl, _, rfl, r, _, 1, _, rfl, rfl, SqL.here hR, rfl, c, _, i, _, rfl, rfl, SqL.here hC, q1, ?_⟩
        -- rng[1] = rng[1] + 1
        refine ⟨_, rfl, r, _, 1, _, rfl, rfl, SqL.here hR, rfl, _, _, rfl, rfl, _, rfl, r, _, 1, 1, rfl, rfl, hR, rfl, ?_⟩
        have hC2 : (upd H r (.lst [.ref c, .int (i + 1), .int b, .int s])) c = some (.lst (ns.map V.int)) := by rw [upd_ne ncr]; exact hC
        refine ⟨_, rfl, _, _, rfl, rfl, ⟨by decide, by decide, by decide⟩, _, _, rfl, rfl, _, rfl, ?_⟩
        refine ite2 (fun c4 => ?_) (fun c4 => ?_)
        · have c5 : (10 : Int) ^ (18 : Int).toNat ≤ u := of_decide_eq_true c4
          have c6 : (0 : Int) ≤ (10 : Int) ^ (18 : Int).toNat := by decide
          refine ⟨_, rfl, _, rfl, r, _, 2, 2, rfl, rfl, upd_same, rfl, ?_⟩
          refine ⟨i + 1, u, s, _, rfl, But.set.trans But.set, upd_same, ?_, by omega, by omega, h0, h1⟩
          rw [upd_ne ncr]
          exact hC2
        · refine ⟨_, rfl, r, _, 3, _, rfl, rfl, SqL.here upd_same, rfl, _, _, rfl, rfl, .inl ⟨by omega, by omega⟩, _, rfl, _, _, rfl, rfl, (by show (0 : Int) < 2147483587; decide), _, _, rfl, rfl, .inl ⟨?_, ?_⟩, _, _, rfl, rfl, _, _, rfl, rfl, _, _, rfl, rfl, (by show (0 : Int) < 2147483647; decide), _, rfl, r, _, 3, 3, rfl, rfl, upd_same, rfl, ?_⟩
          · have := Int.emod_nonneg u (show (2147483587 : Int) ≠ 0 by decide)
            omega
          · have := Int.emod_lt_of_pos u (show (0 : Int) < 2147483587 by decide)
            omega
          · refine ⟨i + 1, b, _, _, rfl, But.set.trans But.set, upd_same, ?_, by omega, hb, Int.emod_nonneg _ (by decide), Int.emod_lt_of_pos _ (by decide)⟩
            rw [upd_ne ncr]
            exact hC2
      · exact ⟨i, b, s, none, rfl, fun _ _ _ h => h, hR, hC, hi, hb, h0, h1⟩
    · exact iteF ⟨i, b, s, none, rfl, fun _ _ _ h => h, hR, hC, hi, hb, h0, h1⟩
  · rintro σ H1 ⟨i, b, s, cell, rfl, e1, hR, hC, hi, hb, h0, h1⟩
    refine ⟨_, rfl, r, _, 2, _, rfl, rfl, SqL.here hR, rfl, _, _, rfl, rfl, _, rfl, ?_⟩
    refine ite2 (fun c1 => ?_) (fun c1 => ?_)
    · refine ⟨_, rfl, r, _, 2, _, rfl, rfl, SqL.here hR, rfl, _, rfl, _, _, rfl, rfl, hn, ?_⟩
      refine ⟨_, rfl, r, _, 2, _, rfl, rfl, SqL.here hR, rfl, _, rfl, _, _, rfl, rfl, ⟨hn, hn2⟩, _, rfl, r, _, 2, 2, rfl, rfl, hR, rfl, _, rfl, ?_⟩
      refine q _ _ (Int.emod_nonneg _ (by omega)) (Int.emod_lt_of_pos _ hn) ⟨c, ns, i, _, s, upd_same, ?_, ncr, hi, Int.ediv_nonneg hb (by omega), h0, h1⟩ (e1.trans But.set)
      rw [upd_ne ncr]
      exact hC
    · refine ⟨_, rfl, r, _, 3, _, rfl, rfl, SqL.here hR, rfl, ?_⟩
      refine ⟨_, rfl, _, _, rfl, rfl, .inl ⟨by omega, by omega⟩, _, rfl, _, _, rfl, rfl, ⟨by decide, by decide⟩, _, _, rfl, rfl, .inl ⟨?_, ?_⟩, _, _, rfl, rfl, _, _, rfl, rfl, _, _, rfl, rfl, (by show (0 : Int) < 2147483647; decide), _, rfl, r, _, 3, 3, rfl, rfl, hR, rfl, ?_⟩
      · have := Int.ediv_nonneg h0 (show (0 : Int) ≤ 65539 by decide)
        omega
      · have : s / 65539 ≤ s := Int.ediv_le_self _ h0
        omega
      · have z0 : 0 ≤ (s * 62089 + s / 65539 * 29 + 1013904223) % 2147483647 := Int.emod_nonneg _ (by decide)
        have z1 : (s * 62089 + s / 65539 * 29 + 1013904223) % 2147483647 < 2147483647 := Int.emod_lt_of_pos _ (by decide)
        refine ⟨_, rfl, r, _, 3, _, rfl, rfl, SqL.here upd_same, rfl, _, _, rfl, rfl, ⟨by decide, by decide⟩, _, rfl, r, _, 3, _, rfl, rfl, SqL.here upd_same, rfl, _, _, rfl, rfl, (by show (0 : Int) < 8191; decide), _, _, rfl, rfl, .inl ⟨?_, ?_⟩, _, _, rfl, rfl, _, rfl, _, _, rfl, rfl, hn, ?_⟩
        · have := Int.emod_nonneg ((s * 62089 + s / 65539 * 29 + 1013904223) % 2147483647) (show (8191 : Int) ≠ 0 by decide)
          omega
        · have := Int.emod_lt_of_pos ((s * 62089 + s / 65539 * 29 + 1013904223) % 2147483647) (show (0 : Int) < 8191 by decide)
          omega
        · refine q _ _ (Int.emod_nonneg _ (by omega)) (Int.emod_lt_of_pos _ hn) ⟨c, ns, i, b, _, upd_same, ?_, ncr, hi, hb, z0, z1⟩ (e1.trans But.set)
          rw [upd_ne ncr]
          exact hC

abbrev s__law_pick : Stmt := top 56
theorem sc__law_pick : FnScope ["_law_rng", "_law_terms"] ["_law_rng", "_law_terms"] (defScope s__law_pick) := ⟨rfl, rfl, rfl, by decide +kernel, rfl, by decide +kernel, by decide +kernel⟩
theorem ok__law_pick {f1 : Addr} {e1 : FuncData} (d__law_pick : D K mg "_law_pick" s__law_pick ["_law_rng", "_law_terms"] f fd) (B : Blt mg) (d__law_draw : D K mg "_law_draw" s__law_draw ["_law_rng", "_law_amount"] f1 e1) : FnOk P w K mg base CX0 2 f fd ["_law_rng", "_law_terms"] (spPick K) := by
  have G__law_draw : FnOk P w K mg base CX0 1 f1 e1 ["_law_rng", "_law_amount"] spDraw := ok__law_draw d__law_draw B
  refine d__law_pick.F.ok sc__law_pick (fun vs H Q E h => ?_) (fun cdv A outer s H vs Q E hr h => ?_)
  · obtain ⟨_, _, _, rfl, _⟩ := h
    rfl
  obtain ⟨r, l, xs, rfl, hR, hS, h0, h1, hn, q⟩ := h
  refine ⟨_, (pss_one (ps_ret (pe_ix (r := rIx K) ix_seq (pv 1) (pe_call G__law_draw (hr.mono (by decide)) rfl d__law_draw.m d__law_draw.F.kp d__law_draw.b .nil pass0 (pa_cons (pv 0) (pa_cons (pe_callB call_len_seq (by rfl) B.len PySem.boot_len (pa_cons (pv 1) pa_nil)) pa_nil))) (fun _ _ => rfl)))), ?_⟩
  refine ⟨_, rfl, _, rfl, _, rfl, l, xs, rfl, hS, r, _, rfl, hR, by omega, by omega, fun n H' n0 n1 R' b' => ?_⟩
  exact rix_in (hS.imp (b'.sqL hn) (b'.sqT hn)) n0 n1 fun v hv => q v H' hv R' b'

abbrev s__law_same : Stmt := top 57
theorem sc__law_same : FnScope ["_law_result", "_law_expected", "_law_k"] ["_law_result", "_law_expected"] (defScope s__law_same) := ⟨rfl, rfl, rfl, by decide +kernel, rfl, by decide +kernel, by decide +kernel⟩
theorem same_ix {H : Hp} {x y : V} {d : PyData} {ds : List PyData} (hd : d = .list ds ∨ d = .tuple ds) (hx : Dp K H x d) : ∃ a xs, x = .ref a ∧ (SqL K H a xs ∨ SqT K H a xs) ∧ DpAll K H xs ds := by
  rcases hd with rfl | rfl
  · cases hx with
    | lst hs ha => exact ⟨_, _, rfl, .inl hs, ha⟩
  · cases hx with
    | tup hs ha => exact ⟨_, _, rfl, .inr hs, ha⟩
theorem rix_of {H : Hp} {a : Addr} {xs : List V} {i : Nat} {v : V} {Q : VK} (h : SqL K H a xs ∨ SqT K H a xs) (hi : xs[i]? = some v) (q : Q v H) : rIx K (.ref a) (.int (0 + (i : Int))) H Q := by
  have e : (0 + (i : Int)) = (i : Int) := by omega
  rcases h with h | h
  · exact .inl ⟨a, xs, _, v, rfl, rfl, h, by rw [e]; exact atI_nat hi, q⟩
  · exact .inr (.inl ⟨a, xs, _, v, rfl, rfl, h, by rw [e]; exact atI_nat hi, q⟩)
theorem same_sq {H H' : Hp} {a : Addr} {xs : List V} (e : Same H H') (h : SqL K H a xs ∨ SqT K H a xs) : SqL K H' a xs ∨ SqT K H' a xs := by
  rcases h with h | h
  · exact .inl (e.seq h)
  · exact .inr ((Tp.same e).sqT h)
theorem ok__law_same (d__law_same : D K mg "_law_same" s__law_same ["_law_result", "_law_expected"] f fd) (B : Blt mg) : ∀ n : Nat, FnOk P w K mg base CX0 n f fd ["_law_result", "_law_expected"] (spSame K n)
  | 0 => fn_none fun vs H Q E h => by
    obtain ⟨_, _, _, _, _, _, _, h, _⟩ := h
    omega
  | n + 1 => by
    have G__law_same := ok__law_same d__law_same B n
    refine d__law_same.F.ok sc__law_same (fun vs H Q E h => ?_) (fun cdv A outer s H vs Q E hr h => ?_)
    · obtain ⟨_, _, _, rfl, _⟩ := h
      rfl
    obtain ⟨x, y, d, rfl, hx, hy, hs, hd, hw, q⟩ := h
    refine ⟨_, (pss_cons (ps_if (pt_val (pe_callB call_isi (by rfl) B.isinstance (by decide +kernel) (pa_cons (pv 1) (pa_cons (pe_bltn (v := .ty "dict") (by rfl) B.dict (by decide +kernel) rfl) pa_nil)))) (pss_one ps_never) pss_nil)
 (pss_cons (ps_if (PW.pt (pw_or (pt_cmpR op_ne (pe_callB call_isi (by rfl) B.isinstance (by decide +kernel) (pa_cons (pv 1) (pa_cons (pe_bltn (v := .ty "tuple") (by rfl) B.tuple (by decide +kernel) rfl) pa_nil))) (pe_callB call_isi (by rfl) B.isinstance (by decide +kernel) (pa_cons (pv 0) (pa_cons (pe_bltn (v := .ty "tuple") (by rfl) B.tuple (by decide +kernel) rfl) pa_nil))) (nomark _)) (pw_or1 (pt_cmpR op_ne (pe_callB call_isi (by rfl) B.isinstance (by decide +kernel) (pa_cons (pv 1) (pa_cons (pe_bltn (v := .ty "list") (by rfl) B.list (by decide +kernel) rfl) pa_nil))) (pe_callB call_isi (by rfl) B.isinstance (by decide +kernel) (pa_cons (pv 0) (pa_cons (pe_bltn (v := .ty "list") (by rfl) B.list (by decide +kernel) rfl) pa_nil))) (nomark _))))) (pss_one (ps_ret pe_bl)) pss_nil)
 (pss_cons (ps_if (pt_not (pt_val (pe_callB call_isiT (by rfl) B.isinstance (by decide +kernel) (pa_cons (pv 1) (pa_cons (pe_tup (pa_cons (pe_bltn (v := .ty "tuple") (by rfl) B.tuple (by decide +kernel) rfl) (pa_cons (pe_bltn (v := .ty "list") (by rfl) B.list (by decide +kernel) rfl) pa_nil))) pa_nil))))) (pss_one (ps_ret (pe_and (pe_cmpR op_eq (pe_callB call_isi (by rfl) B.isinstance (by decide +kernel) (pa_cons (pv 0) (pa_cons (pe_bltn (v := .ty "bool") (by rfl) B.bool (by decide +kernel) rfl) pa_nil))) (pe_callB call_isi (by rfl) B.isinstance (by decide +kernel) (pa_cons (pv 1) (pa_cons (pe_bltn (v := .ty "bool") (by rfl) B.bool (by decide +kernel) rfl) pa_nil))) (nomark _)) (pe_one (pe_cmpR (op_eqD hr.units) (pv 0) (pv 1) (nomark _)))))) pss_nil)
 (pss_one (ps_ret (pe_and (pe_cmpR op_eq (pe_callB call_len_seq (by rfl) B.len PySem.boot_len (pa_cons (pv 0) pa_nil)) (pe_callB call_len_seq (by rfl) B.len PySem.boot_len (pa_cons (pv 1) pa_nil)) (nomark _)) (pe_one (pe_callB (cr_all rfl) (by rfl) B.all (by decide +kernel) (pa_cons (pe_lc (own := [("_law_k", 2)]) (g := gName 2) (tt := tYes) (by rfl) sc__law_same.nd (pi_range1 (by rfl) B.range (pa_cons (pe_callB call_len_seq (by rfl) B.len PySem.boot_len (pa_cons (pv 1) pa_nil)) pa_nil)) (blkOk_by (own := [("_law_k", 2)]) (N := ["_law_result", "_law_expected", "_law_k"]) (sc := defScope s__law_same) (by decide +kernel)) (fun _ _ _ _ _ => (pg_name (i := 2) sc__law_same.nd rfl (Or.inl rfl))) (fun _ _ _ _ _ => pts_nil) (fun _ _ _ _ _ => (pe_call G__law_same hr rfl d__law_same.m d__law_same.F.kp d__law_same.b .nil pass0 (pa_cons (pe_ix (r := rIx K) ix_seq (pv 0) (pv 2) (fun _ _ => rfl)) (pa_cons (pe_ix (r := rIx K) ix_seq (pv 1) (pv 2) (fun _ _ => rfl)) pa_nil))))) pa_nil))))))))), ?_⟩
    refine ⟨_, rfl, _, _, _, _, false, rfl, .ty "dict", dp_ty hy, kit_dict hy, false, rfl, iteF ?_⟩
    refine ⟨_, rfl, _, _, _, _, _, rfl, .ty "tuple", dp_ty hy, kit_tuple hy, _, rfl, _, _, _, _, _, rfl, .ty "tuple", dp_ty hx, kit_tuple hx, rfl, _, rfl, ite_no ?_ ?_⟩
    · rw [decide_eq_true rfl]
      rfl
    refine ⟨_, rfl, _, _, _, _, _, rfl, .ty "list", dp_ty hy, kit_list hy, _, rfl, _, _, _, _, _, rfl, .ty "list", dp_ty hx, kit_list hx, rfl, _, rfl, ite_no ?_ ?_⟩
    · rw [decide_eq_true rfl]
      rfl
    refine ⟨_, rfl, two_le, fun p hp => ?_⟩
    have s1 := Same.new hp (.tup [.ty "tuple", .ty "list"])
    have hx1 := dp_same s1 d hx
    have hy1 := dp_same s1 d hy
    refine ⟨_, p, _, _, _, _, rfl, upd_same, .cons (.ty _) (.cons (.ty _) .nil), dp_ty hy1, kit_seq hy1, _, rfl, ?_⟩
    generalize (upd H p (.tup [.ty "tuple", .ty "list"])) = H1 at *
    cases hsq : (isT d || isLs d) with
    | false =>
      refine iteT ?_
      refine ⟨_, rfl, _, _, _, _, _, rfl, .ty "bool", dp_ty hx1, kit_bool hx1, _, rfl, _, _, _, _, _, rfl, .ty "bool", dp_ty hy1, kit_bool hy1, rfl, true, ?_, iteT ?_⟩
      · rw [decide_eq_true rfl]
      · refine ⟨_, rfl, _, rfl, d, d, hx1, hy1, hs, hs, ?_⟩
        rw [SeqAt.eqv_refl d (SeqAt.canLay_of_shaped hs)]
        exact q H1 s1
    | true =>
      refine iteF ?_
      obtain ⟨ds, hds⟩ : ∃ ds, d = .list ds ∨ d = .tuple ds := by
        cases d <;> first | exact ⟨_, .inl rfl⟩ | exact ⟨_, .inr rfl⟩ | exact absurd (show false = true from hsq) (by decide)
      obtain ⟨a, xs, rfl, hX, hXA⟩ := same_ix (y := y) hds hx1
      obtain ⟨b, ys, rfl, hY, hYA⟩ := same_ix (y := .ref a) hds hy1
      have lx := dpAll_len hXA
      have ly := dpAll_len hYA
      have hcan : PyData.canLayAll0 ds = true := by
        have := SeqAt.canLay_of_shaped hs
        rcases hds with rfl | rfl <;> exact this
      have hdep : d.depth = PyData.depthAll ds + 1 := by rcases hds with rfl | rfl <;> rfl
      have hd64 := SeqAt.depth_of_shaped hs
      have hwd : ds.length ≤ 1000 ∧ wideAll ds = true := by
        have h0 : (decide (ds.length ≤ 1000) && wideAll ds) = true := by rcases hds with rfl | rfl <;> exact hw
        have h1 := Bool.and_eq_true_iff.mp h0
        exact ⟨of_decide_eq_true h1.1, h1.2⟩
      refine ⟨_, rfl, a, _, rfl, hX, _, rfl, b, _, rfl, hY, rfl, true, ?_, iteT ?_⟩
      · rw [lx, ly, decide_eq_true rfl]
      refine ⟨_, rfl, b, _, rfl, hY, (ys.length : Int), rfl, by omega, by omega, fun D hD => ?_⟩
      refine lc_range (lo := 0) (n := ((ys.length : Int)).toNat) (fun i H' => Same H1 H' ∧ H' D = some (.lst (List.replicate i (V.bl true)))) ⟨Same.new hD _, upd_same⟩ ?_ ?_
      · rintro i H' hi ⟨sm, hl⟩
        have hi' : i < ds.length := by omega
        obtain ⟨u, eu, hu⟩ := dpAll_at hXA i ds[i] (List.getElem?_eq_getElem hi')
        obtain ⟨v, ev, hv⟩ := dpAll_at hYA i ds[i] (List.getElem?_eq_getElem hi')
        have hm : ds[i] ∈ ds := List.getElem_mem hi'
        have hdi := depth_at hm
        refine ⟨rfl, ?_⟩
        refine ⟨_, rfl, _, rfl, rix_of (same_sq sm hX) eu ⟨_, rfl, _, rfl, rix_of (same_sq sm hY) ev ⟨u, v, ds[i], rfl, dp_same sm _ hu, dp_same sm _ hv, ?_, by omega, wide_at hwd.2 hm, fun H2 s2 => ?_⟩⟩⟩
        · unfold SeqAt.shaped
          rw [shaped_at hcan hm, decide_eq_true (by omega)]
          rfl
        · refine ⟨_, s2 _ _ hl, by rw [List.length_replicate]; exact small1000 (by omega), fun c o e => ?_, ?_⟩
          · rw [upd_ne (ne_of_none e hD)]
            exact s2 _ _ (sm _ _ e)
          · rw [upd_same, List.replicate_succ']
      · rintro H' ⟨sm, hl⟩
        refine ⟨D, List.replicate ((ys.length : Int)).toNat true, rfl, SqL.here (by rw [hl, List.map_replicate]), ?_⟩
        rw [all_rep]
        exact q H' (s1.trans sm)

abbrev s__law_error_name : Stmt := top 58
theorem sc__law_error_name : FnScope ["_law_e", "_law_some", "_law_word", "_law_so"] ["_law_e"] (defScope s__law_error_name) := ⟨rfl, rfl, rfl, by decide +kernel, rfl, by decide +kernel, by decide +kernel⟩
theorem ok__law_error_name {CT : Addr} {word : Addr → Option Str} {cl : Nat → Addr} (d : D K mg "_law_error_name" s__law_error_name ["_law_e"] f fd) (B : Blt mg) (M : Errs mg cl) (hw : ∀ D nm, word D = some nm → ∃ j, Isw K cl D j ∧ nm = en j) : FnB P w K mg base 1 f fd ["_law_e"] (spName K CT word) := by
  refine Fun.okB d.F sc__law_error_name (fun cdv A outer s H vs Q xh oh hr hb h => ?_)
  obtain ⟨D0, nm, hcl, W, ew, rfl, q⟩ := h
  obtain ⟨j, hj, rfl⟩ := hw _ _ ew
  have hdd := W.nod
  have C := W.exc
  refine ⟨_, (pss_cons (ps_set (i := 1) sc__law_error_name.nd rfl (Or.inl rfl) (pe_lst (pa_cons (pe_tup (pa_cons pe_str (pa_cons (pe_callB (call_isB hb C hcl hdd) (by rfl) B.isinstance (by decide +kernel) (pa_cons (pv 0) (pa_cons (pe_glob (v := .ref (cl 0)) rfl (M 0 (by decide)) rfl) pa_nil))) pa_nil))) (pa_cons (pe_tup (pa_cons pe_str (pa_cons (pe_callB (call_isB hb C hcl hdd) (by rfl) B.isinstance (by decide +kernel) (pa_cons (pv 0) (pa_cons (pe_glob (v := .ref (cl 1)) rfl (M 1 (by decide)) rfl) pa_nil))) pa_nil))) pa_nil))))
 (pss_cons (ps_set (i := 1) sc__law_error_name.nd rfl (Or.inl rfl) (pe_op op_cat (pv 1) (pe_lst (pa_cons (pe_tup (pa_cons pe_str (pa_cons (pe_callB (call_isB hb C hcl hdd) (by rfl) B.isinstance (by decide +kernel) (pa_cons (pv 0) (pa_cons (pe_glob (v := .ref (cl 2)) rfl (M 2 (by decide)) rfl) pa_nil))) pa_nil))) (pa_cons (pe_tup (pa_cons pe_str (pa_cons (pe_callB (call_isB hb C hcl hdd) (by rfl) B.isinstance (by decide +kernel) (pa_cons (pv 0) (pa_cons (pe_glob (v := .ref (cl 3)) rfl (M 3 (by decide)) rfl) pa_nil))) pa_nil))) pa_nil)))))
 (pss_cons (ps_set (i := 1) sc__law_error_name.nd rfl (Or.inl rfl) (pe_op op_cat (pv 1) (pe_lst (pa_cons (pe_tup (pa_cons pe_str (pa_cons (pe_callB (call_isB hb C hcl hdd) (by rfl) B.isinstance (by decide +kernel) (pa_cons (pv 0) (pa_cons (pe_glob (v := .ref (cl 4)) rfl (M 4 (by decide)) rfl) pa_nil))) pa_nil))) (pa_cons (pe_tup (pa_cons pe_str (pa_cons (pe_callB (call_isB hb C hcl hdd) (by rfl) B.isinstance (by decide +kernel) (pa_cons (pv 0) (pa_cons (pe_glob (v := .ref (cl 5)) rfl (M 5 (by decide)) rfl) pa_nil))) pa_nil))) pa_nil)))))
 (pss_cons (ps_set (i := 1) sc__law_error_name.nd rfl (Or.inl rfl) (pe_op op_cat (pv 1) (pe_lst (pa_cons (pe_tup (pa_cons pe_str (pa_cons (pe_callB (call_isB hb C hcl hdd) (by rfl) B.isinstance (by decide +kernel) (pa_cons (pv 0) (pa_cons (pe_glob (v := .ref (cl 6)) rfl (M 6 (by decide)) rfl) pa_nil))) pa_nil))) (pa_cons (pe_tup (pa_cons pe_str (pa_cons (pe_callB (call_isB hb C hcl hdd) (by rfl) B.isinstance (by decide +kernel) (pa_cons (pv 0) (pa_cons (pe_glob (v := .ref (cl 7)) rfl (M 7 (by decide)) rfl) pa_nil))) pa_nil))) pa_nil)))))
 (pss_cons (ps_set (i := 1) sc__law_error_name.nd rfl (Or.inl rfl) (pe_op op_cat (pv 1) (pe_lst (pa_cons (pe_tup (pa_cons pe_str (pa_cons (pe_callB (call_isB hb C hcl hdd) (by rfl) B.isinstance (by decide +kernel) (pa_cons (pv 0) (pa_cons (pe_glob (v := .ref (cl 8)) rfl (M 8 (by decide)) rfl) pa_nil))) pa_nil))) (pa_cons (pe_tup (pa_cons pe_str (pa_cons (pe_callB (call_isB hb C hcl hdd) (by rfl) B.isinstance (by decide +kernel) (pa_cons (pv 0) (pa_cons (pe_glob (v := .ref (cl 9)) rfl (M 9 (by decide)) rfl) pa_nil))) pa_nil))) pa_nil)))))
 (pss_cons (ps_set (i := 1) sc__law_error_name.nd rfl (Or.inl rfl) (pe_op op_cat (pv 1) (pe_lst (pa_cons (pe_tup (pa_cons pe_str (pa_cons (pe_callB (call_isB hb C hcl hdd) (by rfl) B.isinstance (by decide +kernel) (pa_cons (pv 0) (pa_cons (pe_glob (v := .ref (cl 10)) rfl (M 10 (by decide)) rfl) pa_nil))) pa_nil))) (pa_cons (pe_tup (pa_cons pe_str (pa_cons (pe_callB (call_isB hb C hcl hdd) (by rfl) B.isinstance (by decide +kernel) (pa_cons (pv 0) (pa_cons (pe_glob (v := .ref (cl 11)) rfl (M 11 (by decide)) rfl) pa_nil))) pa_nil))) pa_nil)))))
 (pss_cons (ps_set (i := 1) sc__law_error_name.nd rfl (Or.inl rfl) (pe_op op_cat (pv 1) (pe_lst (pa_cons (pe_tup (pa_cons pe_str (pa_cons (pe_callB (call_isB hb C hcl hdd) (by rfl) B.isinstance (by decide +kernel) (pa_cons (pv 0) (pa_cons (pe_glob (v := .ref (cl 12)) rfl (M 12 (by decide)) rfl) pa_nil))) pa_nil))) (pa_cons (pe_tup (pa_cons pe_str (pa_cons (pe_callB (call_isB hb C hcl hdd) (by rfl) B.isinstance (by decide +kernel) (pa_cons (pv 0) (pa_cons (pe_glob (v := .ref (cl 13)) rfl (M 13 (by decide)) rfl) pa_nil))) pa_nil))) pa_nil)))))
 (pss_cons (ps_set (i := 1) sc__law_error_name.nd rfl (Or.inl rfl) (pe_op op_cat (pv 1) (pe_lst (pa_cons (pe_tup (pa_cons pe_str (pa_cons (pe_callB (call_isB hb C hcl hdd) (by rfl) B.isinstance (by decide +kernel) (pa_cons (pv 0) (pa_cons (pe_glob (v := .ref (cl 14)) rfl (M 14 (by decide)) rfl) pa_nil))) pa_nil))) (pa_cons (pe_tup (pa_cons pe_str (pa_cons (pe_callB (call_isB hb C hcl hdd) (by rfl) B.isinstance (by decide +kernel) (pa_cons (pv 0) (pa_cons (pe_glob (v := .ref (cl 15)) rfl (M 15 (by decide)) rfl) pa_nil))) pa_nil))) pa_nil)))))
 (pss_cons (ps_set (i := 1) sc__law_error_name.nd rfl (Or.inl rfl) (pe_op op_cat (pv 1) (pe_lst (pa_cons (pe_tup (pa_cons pe_str (pa_cons (pe_callB (call_isB hb C hcl hdd) (by rfl) B.isinstance (by decide +kernel) (pa_cons (pv 0) (pa_cons (pe_glob (v := .ref (cl 16)) rfl (M 16 (by decide)) rfl) pa_nil))) pa_nil))) (pa_cons (pe_tup (pa_cons pe_str (pa_cons (pe_callB (call_isB hb C hcl hdd) (by rfl) B.isinstance (by decide +kernel) (pa_cons (pv 0) (pa_cons (pe_glob (v := .ref (cl 17)) rfl (M 17 (by decide)) rfl) pa_nil))) pa_nil))) pa_nil)))))
 (pss_cons (ps_set (i := 1) sc__law_error_name.nd rfl (Or.inl rfl) (pe_op op_cat (pv 1) (pe_lst (pa_cons (pe_tup (pa_cons pe_str (pa_cons (pe_callB (call_isB hb C hcl hdd) (by rfl) B.isinstance (by decide +kernel) (pa_cons (pv 0) (pa_cons (pe_glob (v := .ref (cl 18)) rfl (M 18 (by decide)) rfl) pa_nil))) pa_nil))) (pa_cons (pe_tup (pa_cons pe_str (pa_cons (pe_callB (call_isB hb C hcl hdd) (by rfl) B.isinstance (by decide +kernel) (pa_cons (pv 0) (pa_cons (pe_glob (v := .ref (cl 19)) rfl (M 19 (by decide)) rfl) pa_nil))) pa_nil))) pa_nil)))))
 (pss_one (ps_ret (pe_join pe_str (pe_lcB (own := [("_law_word", 2), ("_law_so", 3)]) (g := gTup K 2 (gCons (gName 2) (gCons (gName 3) gNil))) (tt := fun σ H Q => tVar 3 σ H fun x G => ∃ k, TruV K x G k ∧ Q k G) (te := tVar 2) hb sc__law_error_name.nd (pv 1) (blkOk_by (own := [("_law_word", 2), ("_law_so", 3)]) (N := ["_law_e", "_law_some", "_law_word", "_law_so"]) (sc := defScope s__law_error_name) (by decide +kernel)) (fun _ _ _ _ _ hb2 => pg_tupB hb2 (pgs_cons (pg_name (i := 2) sc__law_error_name.nd rfl (Or.inl rfl)) (pgs_cons (pg_name (i := 3) sc__law_error_name.nd rfl (Or.inl rfl)) pgs_nil))) (fun _ _ _ _ _ => (pts_one (pt_truth (pv 3) (by intro _; rfl)))) (fun _ _ _ _ _ => (pv 2)))))))))))))))), ?_⟩
  refine nm_first (cl := cl) hj fun σ1 H1 I1 => ?_
  refine nm_step (n := 2) hj (by decide) I1 fun σ1 H1 I1 => ?_
  refine nm_step (n := 4) hj (by decide) I1 fun σ1 H1 I1 => ?_
  refine nm_step (n := 6) hj (by decide) I1 fun σ1 H1 I1 => ?_
  refine nm_step (n := 8) hj (by decide) I1 fun σ1 H1 I1 => ?_
  refine nm_step (n := 10) hj (by decide) I1 fun σ1 H1 I1 => ?_
  refine nm_step (n := 12) hj (by decide) I1 fun σ1 H1 I1 => ?_
  refine nm_step (n := 14) hj (by decide) I1 fun σ1 H1 I1 => ?_
  refine nm_step (n := 16) hj (by decide) I1 fun σ1 H1 I1 => ?_
  refine nm_step (n := 18) hj (by decide) I1 fun σ1 H1 I1 => ?_
  obtain ⟨L, ps, rfl, sm, hl, hL, hp⟩ := I1
  refine ⟨⟨_, rfl⟩, _, rfl, L, ps.map V.ref, rfl, SqL.here hL, fun D1 nD => ⟨fun i G => Same H1 G ∧ G D1 = some (.lst (if j < i then [.str (en j)] else [])), ⟨Same.new nD _, upd_same⟩, fun i G _ z => SqL.here (z.1 _ _ hL), ?_, ?_⟩⟩
  · rintro i v G hi ⟨sG, hD⟩
    rw [List.getElem?_map] at hi
    obtain ⟨p, ep, rfl⟩ := Option.map_eq_some_iff.mp hi
    have tp := sG _ _ (hp i p ep)
    have nDp : p ≠ D1 := fun z => by
      have z1 := hp i p ep
      rw [z, nD] at z1
      cases z1
    refine ⟨p, _, rfl, SqT.here tp, rfl, _, _, rfl, _, _, rfl, rfl, rfl, _, rfl, _, rfl, ?_⟩
    refine ite2 (fun c' => ?_) (fun c' => ?_)
    · have c : i = j := of_decide_eq_true c'
      refine ⟨_, rfl, _, hD, ?_, fun b u z => (by rw [upd_ne (ne_of_none z nD)]; exact sG b u z), ?_⟩
      · rw [if_neg (by omega)]
        exact Nat.lt_of_lt_of_le (show 0 < 1 by decide) (show 1 ≤ sizeLine by decide)
      · rw [upd_same, if_neg (by omega), if_pos (by omega), c]
        rfl
    · have c : ¬ i = j := by first | exact of_decide_eq_false c' | exact fun z => c' (decide_eq_true z)
      refine ⟨sG, ?_⟩
      rw [hD]
      by_cases c2 : j < i
      · rw [if_pos c2, if_pos (by omega)]
      · rw [if_neg c2, if_neg (by omega)]
  · rintro G ⟨sG, hD⟩
    rw [List.length_map, hl, if_pos hj.lt] at hD
    refine ⟨_, D1, [en j], rfl, rfl, .inl (SqL.here hD), ?_, ?_⟩
    · have z : ∀ i, i < 20 → ((([en i] : List Str).map (·.length)).sum + ([en i] : List Str).length * ("+" : Str).length) ≤ 16777216 := by decide +kernel
      exact z j hj.lt
    · exact q G (sm.trans sG)

abbrev s__law_error_field : Stmt := top 59
theorem sc__law_error_field : FnScope ["_law_e", "_law_word"] ["_law_e", "_law_word"] (defScope s__law_error_field) := ⟨rfl, rfl, rfl, by decide +kernel, rfl, by decide +kernel, by decide +kernel⟩
theorem ok__law_error_field {word : Addr → Option Str} {fld : Addr → Option Addr → Hp → V → Prop} (d : D K mg "_law_error_field" s__law_error_field ["_law_e", "_law_word"] f fd) (B : Blt mg) (hw : ∀ D nm dd H v, word D = some nm → fld D dd H v → v = .non ∧ ∃ j, plainErr j = true ∧ nm = en j) : FnB P w K mg base 1 f fd ["_law_e", "_law_word"] (spField word fld) := by
  refine Fun.okB d.F sc__law_error_field (fun cdv A outer s H vs Q xh oh hr hb h => ?_)
  obtain ⟨D0, nm, v, hcl, ew, hf, rfl, q⟩ := h
  obtain ⟨rfl, j, hj, rfl⟩ := hw _ _ _ _ _ ew hf
  refine ⟨_, (pss_cons (ps_if (pt_cmpR op_in_seq (pv 1) (pe_lst (pa_cons pe_str (pa_cons pe_str (pa_cons pe_str pa_nil)))) (by with_unfolding_all rfl)) (pss_one ps_never) pss_nil)
 (pss_cons (ps_if (pt_cmpR op_in_seq (pv 1) (pe_lst (pa_cons pe_str (pa_cons pe_str pa_nil))) (by with_unfolding_all rfl)) (pss_one ps_never) pss_nil)
 (pss_cons (ps_if (pt_cmpR op_eq (pv 1) pe_str (nomark _)) (pss_one ps_never) pss_nil)
 (pss_one (ps_ret (pe_ifExp (pt_cmpR op_eq (pv 1) pe_str (nomark _)) pe_no pe_non)))))), ?_⟩
  refine ⟨_, rfl, by decide, fun p1 n1 => ⟨p1, _, rfl, .inl (SqL.here upd_same), rfl, rfl, _, rfl, ?_⟩⟩
  refine ite2 (fun c => absurd ((plain_in3 j (plain_lt hj) hj).symm.trans c) (by decide)) (fun _ => ?_)
  refine ⟨_, rfl, by decide, fun p2 n2 => ⟨p2, _, rfl, .inl (SqL.here upd_same), rfl, rfl, _, rfl, ?_⟩⟩
  refine ite2 (fun c => absurd ((plain_in2 j (plain_lt hj) hj).symm.trans c) (by decide)) (fun _ => ?_)
  refine ⟨_, rfl, rfl, _, rfl, ?_⟩
  refine ite2 (fun c => absurd ((plain_big j (plain_lt hj) hj).symm.trans c) (by decide)) (fun _ => ?_)
  refine ⟨_, rfl, rfl, _, rfl, ?_⟩
  refine ite2 (fun c => absurd ((plain_row j (plain_lt hj) hj).symm.trans c) (by decide)) (fun _ => ?_)
  exact q _ ((Same.new n1 _).trans (Same.new n2 _))

abbrev s__law_comb : Stmt := top 62
theorem sc__law_comb : FnScope ["_law_many", "_law_onleft", "_law_term_here", "_law_step"] ["_law_many", "_law_onleft"] (defScope s__law_comb) := ⟨rfl, rfl, rfl, by decide +kernel, rfl, by decide +kernel, by decide +kernel⟩
theorem ok__law_comb (d : D K mg "_law_comb" s__law_comb ["_law_many", "_law_onleft"] f fd) (B : Blt mg) : FnOk P w K mg base CX0 1 f fd ["_law_many", "_law_onleft"] (spComb K) := by
  refine d.F.ok sc__law_comb (fun vs H Q E h => ?_) (fun cdv A outer s H vs Q E hr h => ?_)
  · obtain ⟨_, _, rfl, _⟩ := h
    rfl
  obtain ⟨m, b, rfl, h1, h2, q⟩ := h
  refine ⟨_, (pss_cons (ps_set (i := 2) sc__law_comb.nd rfl (Or.inl rfl) (pe_tup pa_nil))
 (pss_cons (ps_for PassesOwn.never rfl (pi_range1 (by rfl) B.range (pa_cons (pe_op op_sub (pv 0) pe_int) pa_nil)) (pg_name (i := 3) sc__law_comb.nd rfl (Or.inl rfl))
  (pss_one (ps_set (i := 2) sc__law_comb.nd rfl (Or.inl rfl) (pe_ifExp (pt_truth (pv 1) (by intro _; rfl)) (pe_tup (pa_cons (pv 2) (pa_cons (pe_tup pa_nil) pa_nil))) (pe_tup (pa_cons (pe_tup pa_nil) (pa_cons (pv 2) pa_nil)))))))
 (pss_one (ps_ret (pv 2))))), ?_⟩
  refine ⟨zero_le', fun p hp => ?_⟩
  refine ⟨_, rfl, _, _, rfl, rfl, m - 1, rfl, by omega, by omega, for_range (lo := 0) (n := (m - 1).toNat) (fun i σ H' => ∃ (v : V) (t : Tree) (x : Option V), σ = [some (.int m), some (.bl b), some v, x] ∧ TA K H' v t ∧ t.sz = i + 1 ∧ t.dp = i ∧ Same H H')
    ⟨.ref p, .L, none, rfl, ta_leaf (SqT.here upd_same), rfl, rfl, Same.new hp _⟩ ?_ ?_⟩
  · rintro i σ H' hi ⟨v, t, x, rfl, ha, hz, hd, sm⟩
    refine ⟨_, rfl, b, rfl, ?_⟩
    refine ite2 (fun c => ?_) (fun c => ?_)
    · refine ⟨_, rfl, zero_le', fun p2 hp2 => ⟨two_le, fun p3 hp3 => ?_⟩⟩
      have s2 := Same.new hp2 (.tup [])
      have s3 := s2.trans (Same.new hp3 (.tup [v, .ref p2]))
      refine ⟨_, .N t .L, _, rfl, ta_node (SqT.here upd_same) (ta_mono (Tp.same s3) ha) (ta_mono (Tp.same (Same.new hp3 _)) (ta_leaf (SqT.here upd_same))), by show t.sz + 1 = _; omega, by show max t.dp 0 + 1 = _; omega, sm.trans s3⟩
    · refine ⟨zero_le', fun p2 hp2 => ⟨_, rfl, two_le, fun p3 hp3 => ?_⟩⟩
      have s2 := Same.new hp2 (.tup [])
      have s3 := s2.trans (Same.new hp3 (.tup [.ref p2, v]))
      refine ⟨_, .N .L t, _, rfl, ta_node (SqT.here upd_same) (ta_mono (Tp.same (Same.new hp3 _)) (ta_leaf (SqT.here upd_same))) (ta_mono (Tp.same s3) ha), by show 1 + t.sz = _; omega, by show max 0 t.dp + 1 = _; omega, sm.trans s3⟩
  · rintro σ H' ⟨v, t, x, rfl, ha, hz, hd, sm⟩
    refine ⟨_, rfl, q v t H' ha (by omega) (by omega) sm⟩

abbrev s__law_term : Stmt := top 61
theorem sc__law_term : FnScope ["_law_rng", "_law_many", "_law_cap", "_law_half", "_law_low", "_law_high", "_law_left"] ["_law_rng", "_law_many", "_law_cap"] (defScope s__law_term) := ⟨rfl, rfl, rfl, by decide +kernel, rfl, by decide +kernel, by decide +kernel⟩
theorem ok__law_term {fr : Addr} {frd : FuncData} (d__law_term : D K mg "_law_term" s__law_term ["_law_rng", "_law_many", "_law_cap"] f fd) (B : Blt mg) (d__law_draw : D K mg "_law_draw" s__law_draw ["_law_rng", "_law_amount"] fr frd) : ∀ n : Nat, FnOk P w K mg base CX0 (n + 1) f fd ["_law_rng", "_law_many", "_law_cap"] (spTerm K n)
  | 0 => fn_none fun vs H Q E h => by
    obtain ⟨_, _, _, h, _⟩ := h
    omega
  | n + 1 => by
    have G__law_term := ok__law_term d__law_term B d__law_draw n
    have G__law_draw : FnOk P w K mg base CX0 1 fr frd ["_law_rng", "_law_amount"] spDraw := ok__law_draw d__law_draw B
    refine d__law_term.F.ok sc__law_term (fun vs H Q E h => ?_) (fun cdv A outer s H vs Q E hr h => ?_)
    · obtain ⟨_, _, _, _, rfl, _⟩ := h
      rfl
    obtain ⟨r, many, k, hk, rfl, h6, h1, h2, hR, q⟩ := h
    refine ⟨_, (pss_cons (ps_if (pt_cmpR op_lt (pv 1) pe_int (nomark _)) (pss_one (ps_ret (pe_tup pa_nil))) pss_nil)
 (pss_cons (ps_set (i := 3) sc__law_term.nd rfl (Or.inl rfl) (pe_op op_fdiv (pv 2) pe_int))
 (pss_cons (ps_par (i := 4) (j := 5) (by rfl) sc__law_term.nd rfl rfl (by decide) rfl rfl (pa_cons (pe_callB (call_max2 rfl) (by rfl) B.max (by decide +kernel) (pa_cons pe_int (pa_cons (pe_op op_sub (pv 1) (pv 3)) pa_nil))) (pa_cons (pe_callB (call_min2 rfl) (by rfl) B.min (by decide +kernel) (pa_cons (pe_op op_sub (pv 1) pe_int) (pa_cons (pv 3) pa_nil))) pa_nil)) (by rfl))
 (pss_cons (ps_set (i := 6) sc__law_term.nd rfl (Or.inl rfl) (pe_op op_add (pv 4) (pe_call G__law_draw (hr.mono (by omega)) rfl d__law_draw.m d__law_draw.F.kp d__law_draw.b .nil pass0 (pa_cons (pv 0) (pa_cons (pe_op op_add (pe_op op_sub (pv 5) (pv 4)) pe_int) pa_nil)))))
 (pss_one (ps_ret (pe_tup (pa_cons (pe_call G__law_term hr rfl d__law_term.m d__law_term.F.kp d__law_term.b .nil pass0 (pa_cons (pv 0) (pa_cons (pv 6) (pa_cons (pv 3) pa_nil)))) (pa_cons (pe_call G__law_term hr rfl d__law_term.m d__law_term.F.kp d__law_term.b .nil pass0 (pa_cons (pv 0) (pa_cons (pe_op op_sub (pv 1) (pv 6)) (pa_cons (pv 3) pa_nil)))) pa_nil))))))))), ?_⟩
    refine ⟨_, rfl, _, _, rfl, rfl, _, rfl, ?_⟩
    refine ite2 (fun c => ?_) (fun c => ?_)
    · have c' : many < 2 := of_decide_eq_true c
      refine ⟨zero_le', fun p hp => ?_⟩
      refine q _ .L _ (ta_leaf (SqT.here upd_same)) (by show ((1 : Nat) : Int) = many; omega) (Nat.zero_le _) (hR.same (Same.new hp _)) (But.same (Same.new hp _))
    · have c' : ¬ many < 2 := of_decide_eq_false (Bool.eq_false_iff.mpr c)
      cases k with
      | zero => exact absurd h2 (by show ¬ many ≤ 1; omega)
      | succ k =>
        have hp : (0 : Int) < 2 ^ k := Int.pow_pos (by decide)
        have hp6 : (2 : Int) ^ k ≤ 2 ^ 6 := by
          have : (2 : Nat) ^ k ≤ 2 ^ 6 := Nat.pow_le_pow_right (by decide) (by omega)
          exact_mod_cast this
        have e2 : (2 : Int) ^ (k + 1) = 2 * 2 ^ k := by rw [Int.pow_succ]; omega
        have eh : (2 : Int) ^ (k + 1) / 2 = 2 ^ k := by rw [e2]; omega
        refine ⟨_, rfl, _, _, rfl, rfl, ⟨by decide, by decide⟩, ?_⟩
        rw [e2] at h2
        generalize hh : (2 : Int) ^ (k + 1) / 2 = half at eh
        refine ⟨_, rfl, _, rfl, _, _, rfl, rfl, _, _, rfl, _, rfl, _, _, rfl, rfl, _, rfl, _, _, rfl, _, _, rfl, ?_⟩
        have el : ∀ a b : Int, (if a > b then a else b) = max b a := fun a b => by
          by_cases h : a > b
          · rw [if_pos h]; omega
          · rw [if_neg h]; omega
        have em : ∀ a b : Int, (if a < b then a else b) = min b a := fun a b => by
          by_cases h : a < b
          · rw [if_pos h]; omega
          · rw [if_neg h]; omega
        generalize hlo : (if many - (2 : Int) ^ (k + 1) / 2 > 1 then many - (2 : Int) ^ (k + 1) / 2 else 1) = lo
        generalize hhi : (if (2 : Int) ^ (k + 1) / 2 < many - 1 then (2 : Int) ^ (k + 1) / 2 else many - 1) = hi
        rw [el, hh, eh] at hlo
        rw [em, hh, eh] at hhi
        have p6 : (2 : Int) ^ 6 = 64 := by decide
        refine ⟨_, rfl, _, rfl, _, rfl, _, rfl, _, _, rfl, rfl, _, _, rfl, rfl, r, hi - lo + 1, rfl, hR, by omega, by omega, fun v H1 v0 v1 R1 b1 => ?_⟩
        refine ⟨_, _, rfl, rfl, ?_⟩
        refine ⟨_, rfl, _, rfl, _, rfl, r, lo + v, k, by omega, ?_, by omega, by omega, by omega, R1, fun x tx H2 a2 z2 d2 R2 b2 => ?_⟩
        · show [V.ref r, V.int (lo + v), V.int ((2 : Int) ^ (k + 1) / 2)] = _
          rw [hh, eh]
        refine ⟨_, rfl, _, rfl, _, rfl, _, _, rfl, rfl, _, rfl, r, many - (lo + v), k, by omega, ?_, by omega, by omega, by omega, R2, fun y ty H3 a3 z3 d3 R3 b3 => ?_⟩
        · show [V.ref r, V.int (many - (lo + v)), V.int ((2 : Int) ^ (k + 1) / 2)] = _
          rw [hh, eh]
        refine ⟨two_le, fun p hp' => ?_⟩
        obtain ⟨ys, l2⟩ := R2.lst
        have sn := Same.new hp' (.tup [x, y])
        refine q _ (.N tx ty) _ (ta_node (SqT.here upd_same) (ta_mono (Tp.same sn) (ta_mono (Tp.but l2 b3) a2)) (ta_mono (Tp.same sn) a3)) ?_ ?_ (R3.same sn) (((b1.trans b2).trans b3).trans (But.same sn))
        · show ((tx.sz + ty.sz : Nat) : Int) = many
          omega
        · show max tx.dp ty.dp + 1 ≤ k + 1
          omega

abbrev s__law_any_term : Stmt := top 63
theorem sc__law_any_term : FnScope ["_law_rng", "_law_top", "_law_way", "_law_many"] ["_law_rng", "_law_top"] (defScope s__law_any_term) := ⟨rfl, rfl, rfl, by decide +kernel, rfl, by decide +kernel, by decide +kernel⟩
theorem ok__law_any_term {fr fc ft : Addr} {frd fcd ftd : FuncData} (d__law_any_term : D K mg "_law_any_term" s__law_any_term ["_law_rng", "_law_top"] f fd) (B : Blt mg) (d__law_draw : D K mg "_law_draw" s__law_draw ["_law_rng", "_law_amount"] fr frd)
    (d__law_comb : D K mg "_law_comb" s__law_comb ["_law_many", "_law_onleft"] fc fcd) (d__law_term : D K mg "_law_term" s__law_term ["_law_rng", "_law_many", "_law_cap"] ft ftd) : FnOk P w K mg base CX0 9 f fd ["_law_rng", "_law_top"] (spAny K) := by
  have G__law_draw : FnOk P w K mg base CX0 1 fr frd ["_law_rng", "_law_amount"] spDraw := ok__law_draw d__law_draw B
  have G__law_comb : FnOk P w K mg base CX0 1 fc fcd ["_law_many", "_law_onleft"] (spComb K) := ok__law_comb d__law_comb B
  have G__law_term : FnOk P w K mg base CX0 8 ft ftd ["_law_rng", "_law_many", "_law_cap"] (spTerm K 7) := ok__law_term d__law_term B d__law_draw 7
  refine d__law_any_term.F.ok sc__law_any_term (fun vs H Q E h => ?_) (fun cdv A outer s H vs Q E hr h => ?_)
  · obtain ⟨_, _, rfl, _⟩ := h
    rfl
  obtain ⟨r, n, rfl, h1, h2, hR, q⟩ := h
  refine ⟨_, (pss_cons (ps_par (i := 2) (j := 3) (by rfl) sc__law_any_term.nd rfl rfl (by decide) rfl rfl (pa_cons (pe_call G__law_draw (hr.mono (by decide)) rfl d__law_draw.m d__law_draw.F.kp d__law_draw.b .nil pass0 (pa_cons (pv 0) (pa_cons pe_int pa_nil))) (pa_cons (pe_op op_add pe_int (pe_call G__law_draw (hr.mono (by decide)) rfl d__law_draw.m d__law_draw.F.kp d__law_draw.b .nil pass0 (pa_cons (pv 0) (pa_cons (pv 1) pa_nil)))) pa_nil)) (by rfl))
 (pss_cons (ps_if (pt_cmpR op_lt (pv 2) pe_int (nomark _)) (pss_one (ps_ret (pe_call G__law_comb (hr.mono (by decide)) rfl d__law_comb.m d__law_comb.F.kp d__law_comb.b .nil pass0 (pa_cons (pe_callB (call_min2 rfl) (by rfl) B.min (by decide +kernel) (pa_cons (pv 3) (pa_cons pe_int pa_nil))) (pa_cons (pe_cmpR op_eq (pv 2) pe_int (nomark _)) pa_nil))))) pss_nil)
 (pss_one (ps_ret (pe_call G__law_term (hr.mono (by decide)) rfl d__law_term.m d__law_term.F.kp d__law_term.b .nil pass0 (pa_cons (pv 0) (pa_cons (pv 3) (pa_cons pe_int pa_nil)))))))), ?_⟩
  refine ⟨_, rfl, r, 8, rfl, hR, by decide, by decide, fun way H1 w0 w1 R1 b1 => ?_⟩
  refine ⟨_, rfl, _, rfl, r, n, rfl, R1, by omega, by omega, fun m H2 m0 m1 R2 b2 => ?_⟩
  have b12 := b1.trans b2
  refine ⟨_, _, rfl, rfl, _, _, rfl, ?_⟩
  refine ⟨_, rfl, _, _, rfl, rfl, _, rfl, ?_⟩
  refine ite2 (fun c => ?_) (fun c => ?_)
  · refine ⟨_, rfl, _, _, rfl, _, rfl, rfl, (if 7 < 1 + m then 7 else 1 + m), decide (V.int way = V.int 0), rfl, ?_, ?_, fun v t H3 a3 z3 d3 s3 => ?_⟩
    · split <;> omega
    · split <;> omega
    · refine q v t H3 a3 ?_ ?_ (R2.same s3) (b12.trans (But.same s3))
      · rw [z3]
        split <;> omega
      · have : (t.dp : Int) ≤ 6 := by
          rw [d3]
          split <;> omega
        omega
  · refine ⟨_, rfl, _, rfl, r, 1 + m, 6, by decide, rfl, by decide, by omega, by show 1 + m ≤ 64; omega, R2, fun v t H3 a3 z3 d3 R3 b3 => ?_⟩
    exact q v t H3 a3 (by omega) d3 R3 (b12.trans b3)

abbrev s__law_size : Stmt := top 64
theorem sc__law_size : FnScope ["_law_term_here"] ["_law_term_here"] (defScope s__law_size) := ⟨rfl, rfl, rfl, by decide +kernel, rfl, by decide +kernel, by decide +kernel⟩
theorem ok__law_size (d__law_size : D K mg "_law_size" s__law_size ["_law_term_here"] f fd) : ∀ n : Nat, FnOk P w K mg base CX0 n f fd ["_law_term_here"] (spTree K (fun t => .int t.sz) n)
  | 0 => fn_none spTree_no
  | n + 1 => by
    have G__law_size := ok__law_size d__law_size n
    refine d__law_size.F.ok sc__law_size (fun vs H Q E h => ?_) (fun cdv A outer s H vs Q E hr h => ?_)
    · obtain ⟨_, _, rfl, _⟩ := h
      rfl
    obtain ⟨v, t, rfl, ha, hd, hn, q⟩ := h
    refine ⟨_, (pss_one (ps_ret (pe_ifExp (pt_cmpR (op_eqD hr.units) (pv 0) (pe_tup pa_nil) (nomark _)) pe_int (pe_op op_add (pe_call G__law_size hr rfl d__law_size.m d__law_size.F.kp d__law_size.b .nil pass0 (pa_cons (pe_ix ix_tup (pv 0) pe_int (fun _ _ => rfl)) pa_nil)) (pe_call G__law_size hr rfl d__law_size.m d__law_size.F.kp d__law_size.b .nil pass0 (pa_cons (pe_ix ix_tup (pv 0) pe_int (fun _ _ => rfl)) pa_nil)))))), ?_⟩
    refine ⟨_, rfl, zero_le', fun p hp => ⟨t.d, .tuple [], ta_mono (Tp.same (Same.new hp _)) ha, Dp.tup (SqT.here upd_same) .nil, Tree.shaped (by omega), shapedE, _, rfl, ite_eq (Tree.eqvL t) ?_⟩⟩
    have s1 := Same.new hp (.tup [])
    cases t with
    | L => exact iteT (q _ s1)
    | N l r =>
      have hd : max l.dp r.dp + 1 < n + 1 := hd
      obtain ⟨b, x1, x2, rfl, hS, hL, hR⟩ := ta_invN (ta_mono (Tp.same s1) ha)
      refine iteF ⟨_, rfl, b, _, 0, _, rfl, rfl, hS, rfl, x1, l, rfl, hL, by omega, by omega, fun H2 s2 => ?_⟩
      refine ⟨_, rfl, b, _, 1, _, rfl, rfl, (Tp.same s2).sqT hS, rfl, x2, r, rfl, ta_mono (Tp.same s2) hR, by omega, by omega, fun H3 s3 => ?_⟩
      refine ⟨_, _, rfl, rfl, ?_⟩
      have e : ((Tree.N l r).sz : Int) = (l.sz : Int) + (r.sz : Int) := by
        show ((l.sz + r.sz : Nat) : Int) = _
        omega
      have q' := q H3 ((s1.trans s2).trans s3)
      show Q (.int ((l.sz : Int) + (r.sz : Int))) H3
      rw [← e]
      exact q'

abbrev s__law_invalid_term : Stmt := top 65
theorem sc__law_invalid_term : FnScope ["_law_rng", "_law_invalid", "_law_great", "_law_term_here"] ["_law_rng"] (defScope s__law_invalid_term) := ⟨rfl, rfl, rfl, by decide +kernel, rfl, by decide +kernel, by decide +kernel⟩
theorem ok__law_invalid_term {f1 f2 f3 f4 : Addr} {e1 e2 e3 e4 : FuncData} (d__law_invalid_term : D K mg "_law_invalid_term" s__law_invalid_term ["_law_rng"] f fd) (B : Blt mg) (d__law_draw : D K mg "_law_draw" s__law_draw ["_law_rng", "_law_amount"] f1 e1) (d__law_pick : D K mg "_law_pick" s__law_pick ["_law_rng", "_law_terms"] f2 e2)
    (d__law_comb : D K mg "_law_comb" s__law_comb ["_law_many", "_law_onleft"] f3 e3) (d__law_term : D K mg "_law_term" s__law_term ["_law_rng", "_law_many", "_law_cap"] f4 e4) : FnOk P w K mg base CX0 9 f fd ["_law_rng"] (spBadT K) := by
  have G__law_draw : FnOk P w K mg base CX0 1 f1 e1 ["_law_rng", "_law_amount"] spDraw := ok__law_draw d__law_draw B
  have G__law_pick : FnOk P w K mg base CX0 2 f2 e2 ["_law_rng", "_law_terms"] (spPick K) := ok__law_pick d__law_pick B d__law_draw
  have G__law_comb : FnOk P w K mg base CX0 1 f3 e3 ["_law_many", "_law_onleft"] (spComb K) := ok__law_comb d__law_comb B
  have G__law_term : FnOk P w K mg base CX0 8 f4 e4 ["_law_rng", "_law_many", "_law_cap"] (spTerm K 7) := ok__law_term d__law_term B d__law_draw 7
  refine d__law_invalid_term.F.ok sc__law_invalid_term (fun vs H Q E h => ?_) (fun cdv A outer s H vs Q E hr h => ?_)
  · obtain ⟨_, rfl, _⟩ := h
    rfl
  obtain ⟨r, rfl, hR, q⟩ := h
  refine ⟨_, (pss_cons (ps_set (i := 1) sc__law_invalid_term.nd rfl (Or.inl rfl) (pe_lst (pa_cons (pe_tup (pa_cons (pe_tup pa_nil) pa_nil)) (pa_cons (pe_tup (pa_cons (pe_tup pa_nil) (pa_cons (pe_tup pa_nil) (pa_cons (pe_tup pa_nil) pa_nil)))) (pa_cons (pe_tup (pa_cons (pe_tup pa_nil) (pa_cons (pe_tup (pa_cons (pe_tup pa_nil) pa_nil)) pa_nil))) (pa_cons (pe_tup (pa_cons (pe_tup (pa_cons (pe_tup pa_nil) (pa_cons (pe_tup pa_nil) pa_nil))) (pa_cons (pe_tup (pa_cons (pe_tup pa_nil) (pa_cons (pe_tup pa_nil) (pa_cons (pe_tup pa_nil) pa_nil)))) pa_nil))) (pa_cons (pe_tup (pa_cons (pe_tup (pa_cons (pe_tup (pa_cons (pe_tup pa_nil) (pa_cons (pe_tup pa_nil) pa_nil))) pa_nil)) (pa_cons (pe_tup pa_nil) pa_nil))) pa_nil)))))))
 (pss_cons (ps_set (i := 2) sc__law_invalid_term.nd rfl (Or.inl rfl) (pe_lst (pa_cons (pe_call G__law_comb (hr.mono (by decide)) rfl d__law_comb.m d__law_comb.F.kp d__law_comb.b .nil pass0 (pa_cons pe_int (pa_cons pe_bl pa_nil))) (pa_cons (pe_call G__law_comb (hr.mono (by decide)) rfl d__law_comb.m d__law_comb.F.kp d__law_comb.b .nil pass0 (pa_cons pe_int (pa_cons pe_bl pa_nil))) (pa_cons (pe_call G__law_term (hr.mono (by decide)) rfl d__law_term.m d__law_term.F.kp d__law_term.b .nil pass0 (pa_cons (pv 0) (pa_cons pe_int (pa_cons pe_int pa_nil)))) (pa_cons (pe_call G__law_comb (hr.mono (by decide)) rfl d__law_comb.m d__law_comb.F.kp d__law_comb.b .nil pass0 (pa_cons pe_int (pa_cons pe_bl pa_nil))) pa_nil))))))
 (pss_cons (ps_set (i := 3) sc__law_invalid_term.nd rfl (Or.inl rfl) (pe_call G__law_pick (hr.mono (by decide)) rfl d__law_pick.m d__law_pick.F.kp d__law_pick.b .nil pass0 (pa_cons (pv 0) (pa_cons (pe_lst (pa_cons (pv 1) (pa_cons (pv 2) (pa_cons (pv 2) pa_nil)))) pa_nil))))
 (pss_one (ps_ret (pe_ix (r := rIx K) ix_seq (pv 3) (pe_call G__law_draw (hr.mono (by decide)) rfl d__law_draw.m d__law_draw.F.kp d__law_draw.b .nil pass0 (pa_cons (pv 0) (pa_cons (pe_callB call_len_seq (by rfl) B.len PySem.boot_len (pa_cons (pv 3) pa_nil)) pa_nil))) (fun _ _ => rfl))))))), ?_⟩
  refine lst5 (K := K) (mk1 mk0) (mk3 mk0 mk0 mk0) (mk2 mk0 (mk1 mk0)) (mk2 (mk2 mk0 mk0) (mk3 mk0 mk0 mk0)) (mk2 (mk1 (mk2 mk0 mk0)) mk0) fun a v1 v2 v3 v4 v5 H6 s6 na ha hA => ?_
  have bad : ∀ x ∈ [v1, v2, v3, v4, v5], BadV K H6 x := by
    cases hA with
    | cons h1 hA =>
    cases hA with
    | cons h2 hA =>
    cases hA with
    | cons h3 hA =>
    cases hA with
    | cons h4 hA =>
    cases hA with
    | cons h5 hA =>
    intro x hx
    rcases List.mem_cons.mp hx with rfl | hx
    · exact ⟨_, ⟨h1, by decide +kernel, by decide +kernel⟩, by decide +kernel, by decide +kernel⟩
    rcases List.mem_cons.mp hx with rfl | hx
    · exact ⟨_, ⟨h2, by decide +kernel, by decide +kernel⟩, by decide +kernel, by decide +kernel⟩
    rcases List.mem_cons.mp hx with rfl | hx
    · exact ⟨_, ⟨h3, by decide +kernel, by decide +kernel⟩, by decide +kernel, by decide +kernel⟩
    rcases List.mem_cons.mp hx with rfl | hx
    · exact ⟨_, ⟨h4, by decide +kernel, by decide +kernel⟩, by decide +kernel, by decide +kernel⟩
    cases List.mem_singleton.mp hx
    exact ⟨_, ⟨h5, by decide +kernel, by decide +kernel⟩, by decide +kernel, by decide +kernel⟩
  have nar : a ≠ r := fun z => by
    obtain ⟨ys, hy⟩ := hR.lst
    rw [← z, na] at hy
    cases hy
  clear hA
  refine ⟨8, true, rfl, by decide, by decide, fun u1 t1 H7 a1 z1 p1 s7 => ?_⟩
  refine ⟨8, false, rfl, by decide, by decide, fun u2 t2 H8 a2 z2 p2 s8 => ?_⟩
  have R8 := hR.same (s6.trans (s7.trans s8))
  refine ⟨_, rfl, r, 13, 6, by decide, rfl, by decide, by decide, by decide, R8, fun u3 t3 H9 a3 z3 p3 R9 b9 => ?_⟩
  refine ⟨20, true, rfl, by decide, by decide, fun u4 t4 H10 a4 z4 p4 s10 => ?_⟩
  refine ⟨fourV, fun b nb => ?_⟩
  obtain ⟨ys8, hy8⟩ := R8.lst
  have tp9 : Tp H8 H9 := Tp.but hy8 b9
  have sb := Same.new nb (.lst [u1, u2, u3, u4])
  have tp10 : Tp H9 (upd H10 b (.lst [u1, u2, u3, u4])) := Tp.same (s10.trans sb)
  have bad2 : ∀ x ∈ [u1, u2, u3, u4], BadV K (upd H10 b (.lst [u1, u2, u3, u4])) x := by
    intro x hx
    rcases List.mem_cons.mp hx with rfl | hx
    · exact BadV.tree (ta_mono (((Tp.same s8).trans tp9).trans tp10) a1) (by omega) (by omega) (.inl (by omega))
    rcases List.mem_cons.mp hx with rfl | hx
    · exact BadV.tree (ta_mono (tp9.trans tp10) a2) (by omega) (by omega) (.inl (by omega))
    rcases List.mem_cons.mp hx with rfl | hx
    · exact BadV.tree (ta_mono tp10 a3) (by omega) (by omega) (.inr (by omega))
    cases List.mem_singleton.mp hx
    exact BadV.tree (ta_mono (Tp.same sb) a4) (by omega) (by omega) (.inl (by omega))
  have R11 := R9.same (s10.trans sb)
  have b11 : But r H (upd H10 b (.lst [u1, u2, u3, u4])) := ((But.same (s6.trans (s7.trans s8))).trans b9).trans (But.same (s10.trans sb))
  have hb : upd H10 b (.lst [u1, u2, u3, u4]) b = some (.lst [u1, u2, u3, u4]) := upd_same
  have nbr : b ≠ r := fun z => by
    obtain ⟨ys, hy⟩ := (R9.same s10).lst
    rw [← z, nb] at hy
    cases hy
  have ha11 : upd H10 b (.lst [u1, u2, u3, u4]) a = some (.lst [v1, v2, v3, v4, v5]) := (s10.trans sb) _ _ (b9 _ _ nar ((s7.trans s8) _ _ ha))
  have bad1 : ∀ x ∈ [v1, v2, v3, v4, v5], BadV K (upd H10 b (.lst [u1, u2, u3, u4])) x := fun x hx => (bad x hx).tp (((Tp.same (s7.trans s8)).trans tp9).trans tp10)
  clear bad a1 a2 a3 a4
  generalize upd H10 b (.lst [u1, u2, u3, u4]) = H11 at *
  refine ⟨_, rfl, _, rfl, _, rfl, _, rfl, by show 3 ≤ sizeLine; decide, fun c nc => ?_⟩
  have sc := Same.new nc (.lst [.ref a, .ref b, .ref b])
  have R12 := R11.same sc
  have ncr : c ≠ r := fun z => by
    obtain ⟨ys, hy⟩ := R11.lst
    rw [← z, nc] at hy
    cases hy
  refine ⟨r, c, [.ref a, .ref b, .ref b], rfl, R12, .inl (SqL.here upd_same), (by show 0 < 3; decide), (by show 3 ≤ 10000; decide), ncr, fun v H13 hv R13 b13 => ?_⟩
  obtain ⟨ys12, hy12⟩ := R12.lst
  have tp13 : Tp H11 H13 := (Tp.same sc).trans (Tp.but hy12 b13)
  have fin : ∀ (l : Addr) (xs : List V), H11 l = some (.lst xs) → l ≠ r → 0 < xs.length → xs.length ≤ 5 → (∀ x ∈ xs, BadV K H11 x) → v = .ref l → _ := fun l xs hl hne h0 h5 hbad ev => show
    tVar 3 [some (.ref r), some (.ref a), some (.ref b), some v] H13 (fun x G => tVar 0 [some (.ref r), some (.ref a), some (.ref b), some v] G fun x2 G2 => tVar 3 [some (.ref r), some (.ref a), some (.ref b), some v] G2 fun x3 G3 =>
      ∃ p ys, [x3] = [V.ref p] ∧ (SqL K G3 p ys ∨ SqT K G3 p ys) ∧ spDraw [x2, .int ys.length] G3 (fun y G4 => rIx K x y G4 Q) E0) from by
    subst ev
    have hl13 : H13 l = some (.lst xs) := b13 _ _ hne (sc _ _ hl)
    refine ⟨_, rfl, _, rfl, _, rfl, l, xs, rfl, .inl (SqL.here hl13), r, _, rfl, R13, by omega, by omega, fun n H14 n0 n1 R14 b14 => ?_⟩
    obtain ⟨ys13, hy13⟩ := R13.lst
    exact rix_in (.inl (SqL.here (b14 _ _ hne hl13))) n0 n1 fun x hx => q x H14 ((hbad x hx).tp (tp13.trans (Tp.but hy13 b14))) R14 (((b11.trans (But.same sc)).trans b13).trans b14)
  have hv' : v = .ref a ∨ v = .ref b := by simpa using hv
  rcases hv' with e | e
  · exact fin a _ ha11 nar (by show 0 < 5; decide) (by show 5 ≤ 5; decide) bad1 e
  · exact fin b _ hb nbr (by show 0 < 4; decide) (by show 4 ≤ 5; decide) bad2 e

abbrev s_is_pair : Stmt := top 26
theorem sc_is_pair : FnScope ["part"] ["part"] (defScope s_is_pair) := ⟨rfl, rfl, rfl, by decide +kernel, rfl, by decide +kernel, by decide +kernel⟩
theorem ok_is_pair (d : D K mg "is_pair" s_is_pair ["part"] f fd) (B : Blt mg) : FnOk P w K mg base CX0 1 f fd ["part"] (spIsPairD K) := by
  refine d.F.ok sc_is_pair (fun vs H Q E h => ?_) (fun cdv A outer s H vs Q E hr h => ?_)
  · obtain ⟨_, _, rfl, _⟩ := h
    rfl
  obtain ⟨v, d, rfl, ha, q⟩ := h
  refine ⟨_, (pss_one (ps_ret (pe_and (pe_callB call_isi (by rfl) B.isinstance (by decide +kernel) (pa_cons (pv 0) (pa_cons (pe_bltn (v := .ty "tuple") (by rfl) B.tuple (by decide +kernel) rfl) pa_nil))) (pe_one (pe_cmpR op_eq (pe_callB call_len_seq (by rfl) B.len PySem.boot_len (pa_cons (pv 0) pa_nil)) pe_int (nomark _)))))), ?_⟩
  obtain ⟨a, xs, ds, rfl, rfl, hS, hA⟩ := ha.inv
  have hx : decide (V.int ((xs.length : Nat) : Int) = V.int 2) = isPr (.tuple ds) := by
    rw [dpAll_len hA]
    match ds with
    | [] => rfl
    | [_] => rfl
    | [_, _] => rfl
    | _ :: _ :: _ :: r =>
      show decide (V.int (((r.length + 1 + 1 + 1 : Nat)) : Int) = V.int 2) = false
      refine decide_eq_false fun z => ?_
      have z : ((r.length + 1 + 1 + 1 : Nat) : Int) = 2 := V.int.inj z
      omega
  refine ⟨_, rfl, _, _, _, _, true, rfl, .ty "tuple", tyx_tup hS, kit_ty (by decide +kernel), true, rfl, iteT ⟨_, rfl, a, _, rfl, .inr hS, rfl, ?_⟩⟩
  show Q (.bl (decide (V.int ((xs.length : Nat) : Int) = V.int 2))) H
  rw [hx]
  exact q

abbrev s_is_term : Stmt := top 25
theorem sc_is_term : FnScope ["term", "waiting", "size", "part", "depth"] ["term"] (defScope s_is_term) := ⟨rfl, rfl, rfl, by decide +kernel, rfl, by decide +kernel, by decide +kernel⟩
theorem ok_is_term {fp : Addr} {fpd : FuncData} (d : D K mg "is_term" s_is_term ["term"] f fd) (B : Blt mg) (C : Cst mg) (d_is_pair : D K mg "is_pair" s_is_pair ["part"] fp fpd) : FnOk P w K mg base CX0 2 f fd ["term"] (spIsTerm K) := by
  have G_is_pair : FnOk P w K mg base CX0 1 fp fpd ["part"] (spIsPairD K) := ok_is_pair d_is_pair B
  obtain ⟨⟨t1, C_MAX_SIZE⟩, ⟨t2, C_MAX_DEPTH⟩⟩ := C
  refine d.F.ok sc_is_term (fun vs H Q E h => ?_) (fun cdv A outer s H vs Q E hr h => ?_)
  · obtain ⟨_, _, rfl, _⟩ := h
    rfl
  obtain ⟨v, dd, rfl, ha, hz, q⟩ := h
  refine ⟨_, (pss_cons (ps_set (i := 1) sc_is_term.nd rfl (Or.inl rfl) (pe_lst (pa_cons (pe_tup (pa_cons (pv 0) (pa_cons pe_int pa_nil))) pa_nil)))
 (pss_cons (ps_set (i := 2) sc_is_term.nd rfl (Or.inl rfl) pe_int)
 (pss_cons (ps_while PassesOwn.never (pt_truth (pv 1) (by intro _; rfl)) (pss_cons (ps_asg (pe_bm0 PySem.F.plainAttrs_list PySem.F.slot_list_pop PySem.F.type_list_pop mt_pop (pv 1)) (pg_tup (by rfl) (pgs_cons (pg_name (i := 3) sc_is_term.nd rfl (Or.inl rfl)) (pgs_cons (pg_name (i := 4) sc_is_term.nd rfl (Or.inl rfl)) pgs_nil))))
 (pss_cons (ps_if (pt_cmpR (op_eqD hr.units) (pv 3) (pe_tup pa_nil) (nomark _)) (pss_one (ps_aug (i := 2) sc_is_term.nd rfl (Or.inl rfl) pe_int ip_add)) (pss_one (ps_if (PW.pt (pw_and (pt_val (pe_call G_is_pair (hr.mono (by decide)) rfl d_is_pair.m d_is_pair.F.kp d_is_pair.b .nil pass0 (pa_cons (pv 3) pa_nil))) (pw_and1 (pt_cmpR op_lt (pv 4) (pe_glob (v := .int 6) rfl C_MAX_DEPTH ⟨_, rfl⟩) (nomark _))))) (pss_cons (ps_expr (pe_bm PySem.F.plainAttrs_list PySem.F.slot_list_append PySem.F.type_list_append mt_append (pv 1) (pa_cons (pe_tup (pa_cons (pe_ix ix_tup (pv 3) pe_int (fun _ _ => rfl)) (pa_cons (pe_op op_add (pv 4) pe_int) pa_nil))) pa_nil)))
 (pss_one (ps_expr (pe_bm PySem.F.plainAttrs_list PySem.F.slot_list_append PySem.F.type_list_append mt_append (pv 1) (pa_cons (pe_tup (pa_cons (pe_ix ix_tup (pv 3) pe_int (fun _ _ => rfl)) (pa_cons (pe_op op_add (pv 4) pe_int) pa_nil))) pa_nil))))) (pss_one (ps_ret pe_bl)))))
 (pss_one (ps_if (pt_cmpR op_gt (pv 2) (pe_glob (v := .int 12) rfl C_MAX_SIZE ⟨_, rfl⟩) (nomark _)) (pss_one (ps_ret pe_bl)) pss_nil)))))
 (pss_one (ps_ret pe_bl))))), ?_⟩
  refine ⟨_, rfl, two_le, fun p hp => ⟨one_le, fun w hw => ?_⟩⟩
  have s1 := Same.new hp (.tup [v, .int 0])
  have s2 := s1.trans (Same.new hw (.lst [.ref p]))
  have hw0 : H w = none := s1.free hw
  refine ⟨fun m σ H' => ∃ (ps : List (V × PyData × Nat)) (n : Nat) (x y : Option V), σ = [some v, some (.ref w), some (.int (n : Int)), x, y] ∧ Same H H' ∧ H' w = some (.lst (ps.map (·.1))) ∧ (∀ p ∈ ps, ItemD K H' p) ∧ n ≤ 12 ∧ okd dd = fnl n (rem ps) ∧ ndn ps ≤ 1000 ∧ m = ndn ps,
    ⟨_, [(.ref p, dd, 0)], 0, none, none, rfl, s2, upd_same, ?_, by decide, okd_fnl _ _, ?_, rfl⟩, ?_⟩
  · intro z hz'
    cases List.mem_singleton.mp hz'
    exact ⟨p, v, rfl, (Tp.same (Same.new hw _)).sqT (SqT.here upd_same), ha.tp (Tp.same s2), by show 0 ≤ 6; omega⟩
  · show ndD dd + 0 ≤ 1000
    omega
  · rintro m σ H' ⟨ps, n, x, y, rfl, sm, hl, hI, hn, hs, hb, rfl⟩
    rcases List.eq_nil_or_concat ps with rfl | ⟨qs, z, rfl⟩
    · refine ⟨_, rfl, _, .inl ⟨_, SqL.here hl, rfl⟩, iteF ?_⟩
      have e : okd dd = true := by
        rw [hs]
        exact decide_eq_true (by omega)
      have q' := q H' sm
      rw [e] at q'
      exact q'
    · rw [List.concat_eq_append] at *
      rw [List.map_append] at hl
      refine ⟨_, rfl, true, .inl ⟨_, SqL.here hl, ?_⟩, iteT ?_⟩
      · cases qs <;> rfl
      have hIz := hI z (by simp)
      have hIq : ∀ p ∈ qs, ItemD K H' p := fun p hp => hI p (by simp [hp])
      obtain ⟨zv, zt, zd⟩ := z
      obtain ⟨a, u, ez, h2, h3, h4⟩ := hIz
      have ez' : zv = .ref a := ez
      subst ez'
      have h4 : zd ≤ 6 := h4
      have h3 : NT K H' u zt := h3
      have h2 : SqT K H' a [u, .int (zd : Int)] := h2
      have hs : okd dd = fnl n (add2 (rem qs) (szD (6 - zd) zt)) := by
        rw [rem_snoc] at hs
        exact hs
      have en : ndn (qs ++ [(V.ref a, zt, zd)]) = ndn qs + ndD zt := ndn_snoc _ _
      have hsz := ndn_len qs
      refine ⟨fun σ' H' => ∃ (ps : List (V × PyData × Nat)) (n : Nat) (x y : Option V), σ' = [some v, some (.ref w), some (.int (n : Int)), x, y] ∧ Same H H' ∧ H' w = some (.lst (ps.map (·.1))) ∧ (∀ p ∈ ps, ItemD K H' p) ∧ n ≤ 12 ∧ okd dd = fnl n (rem ps) ∧ ndn ps < ndn (qs ++ [(V.ref a, zt, zd)]), ?_, ?_⟩
      · rintro σ' H'' ⟨ps, n, x, y, e1, e2, e3, e4, e5, e6, e7⟩
        exact ⟨_, e7, ps, n, x, y, e1, e2, e3, e4, e5, e6, by omega, rfl⟩
      have tp1 : Tp H' (upd H' w (.lst (qs.map (·.1)))) := Tp.but hl But.set
      refine ⟨_, rfl, .inl ⟨rfl, _, SqL.here hl⟩, w, _, .ref a, rfl, rfl, hl, ?_, a, [u, .int zd], rfl, ?_, rfl, _, _, rfl, _, _, rfl, rfl, ?_⟩
      · simp
      · rw [List.dropLast_append_of_ne_nil (by simp)]
        simp only [List.map_cons, List.map_nil, List.dropLast_singleton, List.append_nil]
        exact tp1.sqT h2
      rw [List.dropLast_append_of_ne_nil (by simp)]
      simp only [List.map_cons, List.map_nil, List.dropLast_singleton, List.append_nil]
      have sm1 : Same H (upd H' w (.lst (qs.map (·.1)))) := fun b o e => by
        rw [upd_ne (ne_of_none e hw0)]
        exact sm _ _ e
      refine ⟨_, rfl, zero_le', fun p5 hp5 => ⟨zt, .tuple [], ((h3.tp tp1).tp (Tp.same (Same.new hp5 _))).dp, Dp.tup (SqT.here upd_same) .nil, h3.shp, shapedE, _, rfl, ?_⟩⟩
      refine ite_eq (eqvE h3.tup) ?_
      have tp2 : Tp (upd H' w (.lst (qs.map (·.1)))) (upd (upd H' w (.lst (qs.map (·.1)))) p5 (.tup [])) := Tp.same (Same.new hp5 _)
      have sm2 : Same H (upd (upd H' w (.lst (qs.map (·.1)))) p5 (.tup [])) := sm1.trans (Same.new hp5 _)
      have nw5 : w ≠ p5 := fun e => by
        rw [← e, upd_same] at hp5
        cases hp5
      have hl2 : (upd (upd H' w (.lst (qs.map (·.1)))) p5 (.tup [])) w = some (.lst (qs.map (·.1))) := by rw [upd_ne nw5, upd_same]
      have h3' := (h3.tp tp1).tp tp2
      generalize (upd (upd H' w (.lst (qs.map (·.1)))) p5 (.tup [])) = H2 at *
      cases eE : isE zt with
      | true =>
        have ezt : zt = .tuple [] := by
          obtain ⟨_, _, ds, _, rfl, _, _⟩ := h3.inv
          cases ds with
          | nil => rfl
          | cons _ _ => exact absurd eE (by simp [isE])
        subst ezt
        rw [szD_E, fnl_one] at hs
        refine iteT ⟨_, rfl, _, _, rfl, rfl, _, rfl, _, _, rfl, rfl, _, rfl, ?_⟩
        refine ite2 (fun c => ?_) (fun c => ?_)
        · have c : (n : Int) + 1 > 12 := of_decide_eq_true c
          have q' := q H2 sm2
          rw [hs, fnl_big (by omega)] at q'
          exact q'
        · have c : ¬ (n : Int) + 1 > 12 := fun z => c (decide_eq_true z)
          refine ⟨qs, n + 1, _, _, rfl, sm2, hl2, fun p hp => (hIq p hp).mono (tp1.trans tp2), by omega, hs, ?_⟩
          rw [en]
          exact Nat.lt_succ_self _
      | false =>
        refine iteF ⟨_, rfl, _, _, rfl, h3', _, rfl, ?_⟩
        cases eP : isPr zt with
        | false =>
          refine iteF ?_
          have q' := q H2 sm2
          rw [hs, szD_bad eE (.inl eP), add2_none] at q'
          exact q'
        | true =>
          refine iteT ⟨_, rfl, _, _, rfl, rfl, _, rfl, ?_⟩
          refine ite2 (fun c => ?_) (fun c => ?_)
          rotate_left
          · have c : ¬ (zd : Int) < 6 := fun z => c (decide_eq_true z)
            have q' := q H2 sm2
            rw [hs, szD_bad eE (.inr (by omega)), add2_none] at q'
            exact q'
          have c : (zd : Int) < 6 := of_decide_eq_true c
          obtain ⟨b, x1, x2, d1, d2, rfl, rfl, hS, hL, hR⟩ := h3'.pr eP
          rw [show 6 - zd = (6 - (zd + 1)) + 1 by omega, szD_pr, ← add2_assoc] at hs
          have en2 : ndD (.tuple [d1, d2]) = ndD d1 + (ndD d2 + 0) + 1 := rfl
          refine ⟨_, rfl, .inl ⟨rfl, _, SqL.here hl2⟩, _, rfl, b, _, 0, _, rfl, rfl, hS, rfl, _, rfl, _, _, rfl, rfl, two_le, fun p6 hp6 => ?_⟩
          have tp3 : Tp H2 (upd H2 p6 (.tup [x1, .int ((zd : Int) + 1)])) := Tp.same (Same.new hp6 _)
          have nw6 : w ≠ p6 := ne_of_none hl2 hp6
          refine ⟨w, _, _, rfl, rfl, (by rw [upd_ne nw6]; exact hl2), (by rw [List.length_map]; exact small1000 (by omega)), ?_⟩
          have hl3 : (upd (upd H2 p6 (.tup [x1, .int ((zd : Int) + 1)])) w (.lst (qs.map (·.1) ++ [.ref p6]))) w = some (.lst (qs.map (·.1) ++ [.ref p6])) := upd_same
          have tp4 : Tp (upd H2 p6 (.tup [x1, .int ((zd : Int) + 1)])) (upd (upd H2 p6 (.tup [x1, .int ((zd : Int) + 1)])) w (.lst (qs.map (·.1) ++ [.ref p6]))) := Tp.but (by rw [upd_ne nw6]; exact hl2) But.set
          have sm4 : Same H (upd (upd H2 p6 (.tup [x1, .int ((zd : Int) + 1)])) w (.lst (qs.map (·.1) ++ [.ref p6]))) := fun b o e => by
            rw [upd_ne (ne_of_none e hw0)]
            exact (sm2.trans (Same.new hp6 _)) _ _ e
          have h6 : SqT K (upd (upd H2 p6 (.tup [x1, .int ((zd : Int) + 1)])) w (.lst (qs.map (·.1) ++ [.ref p6]))) p6 [x1, .int ((zd : Int) + 1)] := tp4.sqT (SqT.here upd_same)
          have tp24 : Tp H2 _ := tp3.trans tp4
          generalize (upd (upd H2 p6 (.tup [x1, .int ((zd : Int) + 1)])) w (.lst (qs.map (·.1) ++ [.ref p6]))) = H4 at *
          refine ⟨_, rfl, .inl ⟨rfl, _, SqL.here hl3⟩, _, rfl, b, _, 1, _, rfl, rfl, tp24.sqT hS, rfl, _, rfl, _, _, rfl, rfl, two_le, fun p7 hp7 => ?_⟩
          have tp5 : Tp H4 (upd H4 p7 (.tup [x2, .int ((zd : Int) + 1)])) := Tp.same (Same.new hp7 _)
          have nw7 : w ≠ p7 := ne_of_none hl3 hp7
          refine ⟨w, _, _, rfl, rfl, (by rw [upd_ne nw7]; exact hl3), (by rw [List.length_append, List.length_map, List.length_singleton]; exact small1000 (by omega)), ?_⟩
          have tp6 : Tp (upd H4 p7 (.tup [x2, .int ((zd : Int) + 1)])) (upd (upd H4 p7 (.tup [x2, .int ((zd : Int) + 1)])) w (.lst ((qs.map (·.1) ++ [.ref p6]) ++ [.ref p7]))) := Tp.but (by rw [upd_ne nw7]; exact hl3) But.set
          refine ⟨_, rfl, _, _, rfl, rfl, _, rfl, ?_⟩
          refine ite_no (decide_eq_false (by omega)) ?_
          refine ⟨qs ++ [(.ref p6, d1, zd + 1)] ++ [(.ref p7, d2, zd + 1)], n, _, _, rfl, fun b o e => ?_, ?_, ?_, hn, ?_, ?_⟩
          · rw [upd_ne (ne_of_none e hw0)]
            exact (sm4.trans (Same.new hp7 _)) _ _ e
          · rw [upd_same, List.map_append, List.map_append]
            rfl
          · intro z hz'
            rcases List.mem_append.mp hz' with hz' | hz'
            · rcases List.mem_append.mp hz' with hz' | hz'
              · exact (hIq z hz').mono (((tp1.trans tp2).trans tp24).trans (tp5.trans tp6))
              · cases List.mem_singleton.mp hz'
                exact ⟨p6, x1, rfl, (tp5.trans tp6).sqT h6, (hL.tp tp24).tp (tp5.trans tp6), by show zd + 1 ≤ 6; omega⟩
            · cases List.mem_singleton.mp hz'
              exact ⟨p7, x2, rfl, tp6.sqT (SqT.here upd_same), (hR.tp tp24).tp (tp5.trans tp6), by show zd + 1 ≤ 6; omega⟩
          · rw [rem_snoc, rem_snoc]
            exact hs
          · rw [ndn_snoc, ndn_snoc, en, en2]
            show ndn qs + ndD d1 + ndD d2 < ndn qs + (ndD d1 + (ndD d2 + 0) + 1)
            omega

abbrev s_check_term : Stmt := top 27
theorem sc_check_term : FnScope ["term"] ["term"] (defScope s_check_term) := ⟨rfl, rfl, rfl, by decide +kernel, rfl, by decide +kernel, by decide +kernel⟩
theorem ok_check_term {fp fi C0 : Addr} {fpd fid : FuncData} (d : D K mg "check_term" s_check_term ["term"] f fd) (B : Blt mg) (C : Cst mg) (EC : ErrC K mg "InvalidTerm" C0) (d_is_pair : D K mg "is_pair" s_is_pair ["part"] fp fpd) (d_is_term : D K mg "is_term" s_is_term ["term"] fi fid) : FnOk P w K mg base (L2N.CX P w) 3 f fd ["term"] (spChk K C0) := by
  have G_is_term : FnOk P w K mg base CX0 2 fi fid ["term"] (spIsTerm K) := ok_is_term d_is_term B C d_is_pair
  refine Fun.okN d.F sc_check_term (fun vs H Q E h => ?_) (fun cdv A outer s H vs Q E hr h => ?_)
  · obtain ⟨_, _, rfl, _⟩ := h
    rfl
  obtain ⟨v, dd, rfl, ha, hz, h1, h2⟩ := h
  refine ⟨_, (pss_one (ps_if (pt_not (pt_val (pe_call G_is_term (hr.mono (by decide)) rfl d_is_term.m d_is_term.F.kp d_is_term.b .nil pass0 (pa_cons (pv 0) pa_nil)))) (pss_one (L2N.ps_raise rfl (L2N.takes_of rfl rfl rfl rfl) (L2N.pmk_own PySem.F.excBase_ValueError EC.q EC.g EC.k (raises_own EC.b EC.t) (by exact rfl)))) pss_nil)), ?_⟩
  refine ⟨_, rfl, v, dd, rfl, ha, hz, fun H' sm => ⟨_, rfl, ?_⟩⟩
  cases e : okd dd with
  | true => exact iteF (h1 e H' sm)
  | false => exact iteT (h2 e H' sm)

abbrev s_generators_in : Stmt := top 29
theorem sc_generators_in : FnScope ["term"] ["term"] (defScope s_generators_in) := ⟨rfl, rfl, rfl, by decide +kernel, rfl, by decide +kernel, by decide +kernel⟩
theorem ok_generators_in (d_generators_in : D K mg "generators_in" s_generators_in ["term"] f fd) : ∀ n : Nat, FnOk P w K mg base CX0 n f fd ["term"] (spTree K (fun t => .int t.sz) n)
  | 0 => fn_none spTree_no
  | n + 1 => by
    have G_generators_in := ok_generators_in d_generators_in n
    refine d_generators_in.F.ok sc_generators_in (fun vs H Q E h => ?_) (fun cdv A outer s H vs Q E hr h => ?_)
    · obtain ⟨_, _, rfl, _⟩ := h
      rfl
    obtain ⟨v, t, rfl, ha, hd, hn, q⟩ := h
    refine ⟨_, (pss_cons (ps_if (pt_cmpR (op_eqD hr.units) (pv 0) (pe_tup pa_nil) (nomark _)) (pss_one (ps_ret pe_int)) pss_nil)
 (pss_one (ps_ret (pe_op op_add (pe_call G_generators_in hr rfl d_generators_in.m d_generators_in.F.kp d_generators_in.b .nil pass0 (pa_cons (pe_ix ix_tup (pv 0) pe_int (fun _ _ => rfl)) pa_nil)) (pe_call G_generators_in hr rfl d_generators_in.m d_generators_in.F.kp d_generators_in.b .nil pass0 (pa_cons (pe_ix ix_tup (pv 0) pe_int (fun _ _ => rfl)) pa_nil)))))), ?_⟩
    refine ⟨_, rfl, zero_le', fun p hp => ⟨t.d, .tuple [], ta_mono (Tp.same (Same.new hp _)) ha, Dp.tup (SqT.here upd_same) .nil, Tree.shaped (by omega), shapedE, _, rfl, ite_eq (Tree.eqvL t) ?_⟩⟩
    have s1 := Same.new hp (.tup [])
    cases t with
    | L => exact iteT (q _ s1)
    | N l r =>
      have hd : max l.dp r.dp + 1 < n + 1 := hd
      obtain ⟨b, x1, x2, rfl, hS, hL, hR⟩ := ta_invN (ta_mono (Tp.same s1) ha)
      refine iteF ⟨_, rfl, b, _, 0, _, rfl, rfl, hS, rfl, x1, l, rfl, hL, by omega, by omega, fun H2 s2 => ?_⟩
      refine ⟨_, rfl, b, _, 1, _, rfl, rfl, (Tp.same s2).sqT hS, rfl, x2, r, rfl, ta_mono (Tp.same s2) hR, by omega, by omega, fun H3 s3 => ?_⟩
      refine ⟨_, _, rfl, rfl, ?_⟩
      have e : ((Tree.N l r).sz : Int) = (l.sz : Int) + (r.sz : Int) := by
        show ((l.sz + r.sz : Nat) : Int) = _
        omega
      have q' := q H3 ((s1.trans s2).trans s3)
      show Q (.int ((l.sz : Int) + (r.sz : Int))) H3
      rw [← e]
      exact q'

abbrev s_size_of : Stmt := top 28
theorem sc_size_of : FnScope ["term"] ["term"] (defScope s_size_of) := ⟨rfl, rfl, rfl, by decide +kernel, rfl, by decide +kernel, by decide +kernel⟩
theorem ok_size_of {f4 : Addr} {e4 : FuncData} {f1 f2 f3 CI : Addr} {e1 e2 e3 : FuncData} (d : D K mg "size_of" s_size_of ["term"] f fd) (B : Blt mg) (C : Cst mg) (EI : ErrC K mg "InvalidTerm" CI) (d_is_pair : D K mg "is_pair" s_is_pair ["part"] f1 e1) (d_is_term : D K mg "is_term" s_is_term ["term"] f2 e2) (d_check_term : D K mg "check_term" s_check_term ["term"] f3 e3) (d_generators_in : D K mg "generators_in" s_generators_in ["term"] f4 e4) : FnOk P w K mg base (L2N.CX P w) 8 f fd ["term"] (spSz3 K CI) := by
  have G_generators_in : FnOk P w K mg base CX0 7 f4 e4 ["term"] (spTree K (fun t => .int t.sz) 7) := ok_generators_in d_generators_in 7
  have G_check_term : FnOk P w K mg base (L2N.CX P w) 3 f3 e3 ["term"] (spChk K CI) := ok_check_term d_check_term B C EI d_is_pair d_is_term
  refine Fun.okN d.F sc_size_of (fun vs H Q E h => ?_) (fun cdv A outer s H vs Q E hr h => ?_)
  · obtain ⟨_, _, rfl, _⟩ := h
    rfl
  obtain ⟨v, dd, rfl, hN, hn, hI, hq⟩ := h
  refine ⟨_, (pss_cons (ps_expr (pe_call G_check_term (hr.mono (by decide)) rfl d_check_term.m d_check_term.F.kp d_check_term.b .nil passD (pa_cons (pv 0) pa_nil)))
 (pss_one (ps_ret (pe_call G_generators_in (hr.mono (by decide)) rfl d_generators_in.m d_generators_in.F.kp d_generators_in.b .nil pass0 (pa_cons (pv 0) pa_nil))))), ?_⟩
  refine ⟨_, rfl, v, dd, rfl, hN, hn, fun ok H1 s1 => ?_, fun no H1 s1 => hI no H1 s1⟩
  obtain ⟨t, rfl, hsz, hdp⟩ := okd_tree ok
  exact ⟨_, rfl, v, t, rfl, ta_mono (Tp.same s1) hN.dp, by omega, by omega, fun H2 s2 => hq t rfl hsz hdp H2 (s1.trans s2)⟩

abbrev s_depth_of : Stmt := top 30
theorem sc_depth_of : FnScope ["term"] ["term"] (defScope s_depth_of) := ⟨rfl, rfl, rfl, by decide +kernel, rfl, by decide +kernel, by decide +kernel⟩
theorem ok_depth_of {f1 f2 f3 CI : Addr} {e1 e2 e3 : FuncData} (d : D K mg "depth_of" s_depth_of ["term"] f fd) (B : Blt mg) (C : Cst mg) (EI : ErrC K mg "InvalidTerm" CI) (d_is_pair : D K mg "is_pair" s_is_pair ["part"] f1 e1) (d_is_term : D K mg "is_term" s_is_term ["term"] f2 e2) (d_check_term : D K mg "check_term" s_check_term ["term"] f3 e3) : FnOk P w K mg base (L2N.CX P w) 22 f fd ["term"] (spBad1 K CI) := by
  have G_check_term : FnOk P w K mg base (L2N.CX P w) 3 f3 e3 ["term"] (spChk K CI) := ok_check_term d_check_term B C EI d_is_pair d_is_term
  refine Fun.okN d.F sc_depth_of (fun vs H Q E h => ?_) (fun cdv A outer s H vs Q E hr h => ?_)
  · obtain ⟨_, _, rfl, _⟩ := h
    rfl
  obtain ⟨v, dd, rfl, hN, hn, no, q⟩ := h
  refine ⟨_, (pss_cons (ps_expr (pe_call G_check_term (hr.mono (by decide)) rfl d_check_term.m d_check_term.F.kp d_check_term.b .nil passD (pa_cons (pv 0) pa_nil)))
 (pss_one ps_never)), ?_⟩
  exact ⟨_, rfl, v, dd, rfl, hN, hn, fun ok => absurd (ok.symm.trans no) (by decide), fun _ H1 s1 => q H1 s1⟩

abbrev s_format_term : Stmt := top 32
theorem sc_format_term : FnScope ["term"] ["term"] (defScope s_format_term) := ⟨rfl, rfl, rfl, by decide +kernel, rfl, by decide +kernel, by decide +kernel⟩
theorem ok_format_term {f1 f2 f3 CI : Addr} {e1 e2 e3 : FuncData} (d : D K mg "format_term" s_format_term ["term"] f fd) (B : Blt mg) (C : Cst mg) (EI : ErrC K mg "InvalidTerm" CI) (d_is_pair : D K mg "is_pair" s_is_pair ["part"] f1 e1) (d_is_term : D K mg "is_term" s_is_term ["term"] f2 e2) (d_check_term : D K mg "check_term" s_check_term ["term"] f3 e3) : FnOk P w K mg base (L2N.CX P w) 22 f fd ["term"] (spBad1 K CI) := by
  have G_check_term : FnOk P w K mg base (L2N.CX P w) 3 f3 e3 ["term"] (spChk K CI) := ok_check_term d_check_term B C EI d_is_pair d_is_term
  refine Fun.okN d.F sc_format_term (fun vs H Q E h => ?_) (fun cdv A outer s H vs Q E hr h => ?_)
  · obtain ⟨_, _, rfl, _⟩ := h
    rfl
  obtain ⟨v, dd, rfl, hN, hn, no, q⟩ := h
  refine ⟨_, (pss_cons (ps_expr (pe_call G_check_term (hr.mono (by decide)) rfl d_check_term.m d_check_term.F.kp d_check_term.b .nil passD (pa_cons (pv 0) pa_nil)))
 (pss_one ps_never)), ?_⟩
  exact ⟨_, rfl, v, dd, rfl, hN, hn, fun ok => absurd (ok.symm.trans no) (by decide), fun _ H1 s1 => q H1 s1⟩

abbrev s_index_of : Stmt := top 36
theorem sc_index_of : FnScope ["term"] ["term"] (defScope s_index_of) := ⟨rfl, rfl, rfl, by decide +kernel, rfl, by decide +kernel, by decide +kernel⟩
theorem ok_index_of {f1 f2 f3 CI : Addr} {e1 e2 e3 : FuncData} (d : D K mg "index_of" s_index_of ["term"] f fd) (B : Blt mg) (C : Cst mg) (EI : ErrC K mg "InvalidTerm" CI) (d_is_pair : D K mg "is_pair" s_is_pair ["part"] f1 e1) (d_is_term : D K mg "is_term" s_is_term ["term"] f2 e2) (d_check_term : D K mg "check_term" s_check_term ["term"] f3 e3) : FnOk P w K mg base (L2N.CX P w) 22 f fd ["term"] (spBad1 K CI) := by
  have G_check_term : FnOk P w K mg base (L2N.CX P w) 3 f3 e3 ["term"] (spChk K CI) := ok_check_term d_check_term B C EI d_is_pair d_is_term
  refine Fun.okN d.F sc_index_of (fun vs H Q E h => ?_) (fun cdv A outer s H vs Q E hr h => ?_)
  · obtain ⟨_, _, rfl, _⟩ := h
    rfl
  obtain ⟨v, dd, rfl, hN, hn, no, q⟩ := h
  refine ⟨_, (pss_cons (ps_expr (pe_call G_check_term (hr.mono (by decide)) rfl d_check_term.m d_check_term.F.kp d_check_term.b .nil passD (pa_cons (pv 0) pa_nil)))
 (pss_one ps_never)), ?_⟩
  exact ⟨_, rfl, v, dd, rfl, hN, hn, fun ok => absurd (ok.symm.trans no) (by decide), fun _ H1 s1 => q H1 s1⟩

abbrev s_left_spine : Stmt := top 38
theorem sc_left_spine : FnScope ["term", "spine"] ["term"] (defScope s_left_spine) := ⟨rfl, rfl, rfl, by decide +kernel, rfl, by decide +kernel, by decide +kernel⟩
theorem ok_left_spine {f1 f2 f3 CI : Addr} {e1 e2 e3 : FuncData} (d : D K mg "left_spine" s_left_spine ["term"] f fd) (B : Blt mg) (C : Cst mg) (EI : ErrC K mg "InvalidTerm" CI) (d_is_pair : D K mg "is_pair" s_is_pair ["part"] f1 e1) (d_is_term : D K mg "is_term" s_is_term ["term"] f2 e2) (d_check_term : D K mg "check_term" s_check_term ["term"] f3 e3) : FnOk P w K mg base (L2N.CX P w) 22 f fd ["term"] (spBad1 K CI) := by
  have G_check_term : FnOk P w K mg base (L2N.CX P w) 3 f3 e3 ["term"] (spChk K CI) := ok_check_term d_check_term B C EI d_is_pair d_is_term
  refine Fun.okN d.F sc_left_spine (fun vs H Q E h => ?_) (fun cdv A outer s H vs Q E hr h => ?_)
  · obtain ⟨_, _, rfl, _⟩ := h
    rfl
  obtain ⟨v, dd, rfl, hN, hn, no, q⟩ := h
  refine ⟨_, (pss_cons (ps_expr (pe_call G_check_term (hr.mono (by decide)) rfl d_check_term.m d_check_term.F.kp d_check_term.b .nil passD (pa_cons (pv 0) pa_nil)))
 (pss_cons ps_never
 (pss_cons ps_never
 (pss_one ps_never)))), ?_⟩
  exact ⟨_, rfl, v, dd, rfl, hN, hn, fun ok => absurd (ok.symm.trans no) (by decide), fun _ H1 s1 => q H1 s1⟩

abbrev s_compare : Stmt := top 49
theorem sc_compare : FnScope ["one", "other"] ["one", "other"] (defScope s_compare) := ⟨rfl, rfl, rfl, by decide +kernel, rfl, by decide +kernel, by decide +kernel⟩
theorem ok_compare {f1 f2 f3 CI : Addr} {e1 e2 e3 : FuncData} (d : D K mg "compare" s_compare ["one", "other"] f fd) (B : Blt mg) (C : Cst mg) (EI : ErrC K mg "InvalidTerm" CI) (d_is_pair : D K mg "is_pair" s_is_pair ["part"] f1 e1) (d_is_term : D K mg "is_term" s_is_term ["term"] f2 e2) (d_check_term : D K mg "check_term" s_check_term ["term"] f3 e3) : FnOk P w K mg base (L2N.CX P w) 22 f fd ["one", "other"] (spBad2 K CI) := by
  have G_check_term : FnOk P w K mg base (L2N.CX P w) 3 f3 e3 ["term"] (spChk K CI) := ok_check_term d_check_term B C EI d_is_pair d_is_term
  refine Fun.okN d.F sc_compare (fun vs H Q E h => ?_) (fun cdv A outer s H vs Q E hr h => ?_)
  · obtain ⟨_, _, _, _, rfl, _⟩ := h
    rfl
  obtain ⟨v, u, dd, de, rfl, hN, hn, hU, hu, no, q⟩ := h
  refine ⟨_, (pss_cons (ps_expr (pe_call G_check_term (hr.mono (by decide)) rfl d_check_term.m d_check_term.F.kp d_check_term.b .nil passD (pa_cons (pv 0) pa_nil)))
 (pss_cons (ps_expr (pe_call G_check_term (hr.mono (by decide)) rfl d_check_term.m d_check_term.F.kp d_check_term.b .nil passD (pa_cons (pv 1) pa_nil)))
 (pss_one ps_never))), ?_⟩
  refine ⟨_, rfl, v, dd, rfl, hN, hn, fun ok H1 s1 => ?_, fun _ H1 s1 => q H1 s1⟩
  exact ⟨_, rfl, u, de, rfl, hU.tp (Tp.same s1), hu, fun ok2 => no.elim (fun no => absurd (ok.symm.trans no) (by decide)) (fun no => absurd (ok2.symm.trans no) (by decide)), fun _ H2 s2 => q H2 (s1.trans s2)⟩

abbrev s_law : Stmt := top 66
theorem sc_law : FnScope ["_law_script", "_law_rng", "_law_turn", "_law_asks", "_law_edges", "_law_bad", "_law_good", "_law_term_here", "_law_ask"] ["_law_script"] (defScope s_law) := ⟨rfl, rfl, rfl, by decide +kernel, rfl, by decide +kernel, by decide +kernel⟩
abbrev s__law_try : Stmt := top 60
theorem sc__law_try : FnScope ["_law_ask", "_law_e", "_law_word"] ["_law_ask"] (defScope s__law_try) := ⟨rfl, rfl, rfl, by decide +kernel, rfl, by decide +kernel, by decide +kernel⟩
def lamQ : Str := (PyProof.Rows.envOfC "law" (defScope s_law) 0 0 .none).qual ++ "<lambda>"
theorem ok_law {CI CT Pt c : Addr} {cl : Nat → Addr} {word : Addr → Option Str} {fld : Addr → Option Addr → Hp → V → Prop} {oc dV kV doc pm ct : Value} {od an : Option Addr} {osl : Array (Option Value)} {g0 g1 g2 g3 g4 g5 g6 g7 g8 g9 g10 g11 g12 g13 g14 g15 g16 g17 g18 g19 g20 g21 : Addr} {h0 h1 h2 h3 h4 h5 h6 h7 h8 h9 h10 h11 h12 h13 h14 h15 h16 h17 h18 h19 h20 h21 : FuncData}
    (lk : K.lookup f = some ⟨oc, od, .func (PySem.W.fnOf "law" "law" (defArgs s_law) (defBody s_law) (defScope s_law) dV kV doc pm an (.ref c) ct), osl⟩) (hcd : PySem.W.codeIn K (.ref c) "law" = true) (TB : LamX.TabB base mg c Pt) (B : Blt mg) (C : Cst mg)
    (hwd : ∀ D nm, word D = some nm → ∃ j, Isw K cl D j ∧ plainErr j = true ∧ nm = en j) (w0 : word CI = some (en 0)) (hfld : fld = fun _ _ _ v => v = .non)
    (M : Errs mg cl) (hW0 : Wd K CT CI none) (EI : ErrC K mg "InvalidTerm" CI) (mT : mg "TermError" = some (.ref CT))
    (d__law_draws : D K mg "_law_draws" s__law_draws ["_law_script"] g0 h0) (d__law_draw : D K mg "_law_draw" s__law_draw ["_law_rng", "_law_amount"] g1 h1) (d__law_pick : D K mg "_law_pick" s__law_pick ["_law_rng", "_law_terms"] g2 h2) (d__law_same : D K mg "_law_same" s__law_same ["_law_result", "_law_expected"] g3 h3) (d__law_error_name : D K mg "_law_error_name" s__law_error_name ["_law_e"] g4 h4) (d__law_error_field : D K mg "_law_error_field" s__law_error_field ["_law_e", "_law_word"] g5 h5) (d__law_try : D K mg "_law_try" s__law_try ["_law_ask"] g6 h6) (d__law_comb : D K mg "_law_comb" s__law_comb ["_law_many", "_law_onleft"] g7 h7) (d__law_term : D K mg "_law_term" s__law_term ["_law_rng", "_law_many", "_law_cap"] g8 h8) (d__law_any_term : D K mg "_law_any_term" s__law_any_term ["_law_rng", "_law_top"] g9 h9) (d__law_size : D K mg "_law_size" s__law_size ["_law_term_here"] g10 h10) (d__law_invalid_term : D K mg "_law_invalid_term" s__law_invalid_term ["_law_rng"] g11 h11) (d_is_pair : D K mg "is_pair" s_is_pair ["part"] g12 h12) (d_is_term : D K mg "is_term" s_is_term ["term"] g13 h13) (d_check_term : D K mg "check_term" s_check_term ["term"] g14 h14) (d_generators_in : D K mg "generators_in" s_generators_in ["term"] g15 h15) (d_size_of : D K mg "size_of" s_size_of ["term"] g16 h16) (d_depth_of : D K mg "depth_of" s_depth_of ["term"] g17 h17) (d_format_term : D K mg "format_term" s_format_term ["term"] g18 h18) (d_index_of : D K mg "index_of" s_index_of ["term"] g19 h19) (d_left_spine : D K mg "left_spine" s_left_spine ["term"] g20 h20) (d_compare : D K mg "compare" s_compare ["one", "other"] g21 h21) :
    FnOk P w K mg base CX0 64 f (PySem.W.fnOf "law" "law" (defArgs s_law) (defBody s_law) (defScope s_law) dV kV doc pm an (.ref c) ct) ["_law_script"] (spLawT K Pt) := by
  have G__law_draws := ok__law_draws (P := P) (w := w) (base := base) d__law_draws B
  have G__law_same : FnOk P w K mg base CX0 14 _ _ ["_law_result", "_law_expected"] (spSame K 14) := ok__law_same d__law_same B 14
  have G__law_any_term := ok__law_any_term (P := P) (w := w) (base := base) d__law_any_term B d__law_draw d__law_comb d__law_term
  have G__law_invalid_term := ok__law_invalid_term (P := P) (w := w) (base := base) d__law_invalid_term B d__law_draw d__law_pick d__law_comb d__law_term
  have G__law_comb := ok__law_comb (P := P) (w := w) (base := base) d__law_comb B
  have G__law_term : FnOk P w K mg base CX0 8 _ _ ["_law_rng", "_law_many", "_law_cap"] (spTerm K 7) := ok__law_term d__law_term B d__law_draw 7
  have G__law_size : FnOk P w K mg base CX0 13 _ _ ["_law_term_here"] (spTree K (fun t => .int t.sz) 13) := ok__law_size d__law_size 13
  have G_is_term := ok_is_term (P := P) (w := w) (base := base) d_is_term B C d_is_pair
  have G_size_of := ok_size_of (P := P) (w := w) (base := base) d_size_of B C EI d_is_pair d_is_term d_check_term d_generators_in
  have G_depth_of := ok_depth_of (P := P) (w := w) (base := base) d_depth_of B C EI d_is_pair d_is_term d_check_term
  have G_format_term := ok_format_term (P := P) (w := w) (base := base) d_format_term B C EI d_is_pair d_is_term d_check_term
  have G_index_of := ok_index_of (P := P) (w := w) (base := base) d_index_of B C EI d_is_pair d_is_term d_check_term
  have G_left_spine := ok_left_spine (P := P) (w := w) (base := base) d_left_spine B C EI d_is_pair d_is_term d_check_term
  have G_compare := ok_compare (P := P) (w := w) (base := base) d_compare B C EI d_is_pair d_is_term d_check_term
  have GN : FnB P w K mg base 3 g4 h4 ["_law_e"] (spName K CT word) := (ok__law_error_name d__law_error_name B M fun D nm z => (hwd D nm z).elim fun j y => ⟨j, y.1, y.2.2⟩).mono (by decide)
  have GF : FnB P w K mg base 3 g5 h5 ["_law_e", "_law_word"] (spField word fld) := (ok__law_error_field d__law_error_field B fun D nm dd H v z y => ⟨by rw [hfld] at y; exact y, (hwd D nm z).elim fun j y => ⟨j, y.2.1, y.2.2⟩⟩).mono (by decide)
  have hfs : ∀ D dd H H' v, Same H H' → fld D dd H v → fld D dd H' v := fun D dd H H' v _ y => by rw [hfld] at y ⊢; exact y
  have hf0 : ∀ D dd H, fld D dd H .non := fun D dd H => by rw [hfld]
  obtain ⟨ocT, odT, kVT, docT, pmT, anT, cdT, ctT, oslT, rfl, lkT, hcT⟩ := d__law_try.F.ex
  refine fn_of (k := 63) lk hcd sc_law (fun vs H Q E h => ?_) (fun A outer s H vs Q E hr h => ?_)
  · obtain ⟨_, _, rfl, _⟩ := h
    rfl
  obtain ⟨a, ns, rfl, hS, hP, q⟩ := h
  suffices z : ∃ t, PSs (cxOf CX0 P w K mg base ["_law_script", "_law_rng", "_law_turn", "_law_asks", "_law_edges", "_law_bad", "_law_good", "_law_term_here", "_law_ask"] "law" (defScope s_law) f (.ref c) A outer s H E).nox (defBody s_law) t ∧ t { nx := fun _ H' => Q .non H', rt := Q } (L2.start ["_law_script", "_law_rng", "_law_turn", "_law_asks", "_law_edges", "_law_bad", "_law_good", "_law_term_here", "_law_ask"] [.ref a]) H from z.elim fun t y => ⟨t, y.1.nox, y.2⟩
  refine ⟨_, (pss_cons (ps_set (i := 1) sc_law.nd rfl (Or.inl rfl) (pe_call G__law_draws (hr.mono (by decide)) rfl d__law_draws.m d__law_draws.F.kp d__law_draws.b .nil pass0 (pa_cons (pv 0) pa_nil)))
 (pss_cons (ps_for PassesOwn.never rfl (pi_range1 (by rfl) B.range (pa_cons pe_int pa_nil)) (pg_name (i := 2) sc_law.nd rfl (Or.inl rfl))
  (pss_cons (ps_asg (pe_tup (pa_cons (pe_call G__law_any_term (hr.mono (by decide)) rfl d__law_any_term.m d__law_any_term.F.kp d__law_any_term.b .nil pass0 (pa_cons (pv 1) (pa_cons pe_int pa_nil))) (pa_cons (pe_call G__law_invalid_term (hr.mono (by decide)) rfl d__law_invalid_term.m d__law_invalid_term.F.kp d__law_invalid_term.b .nil pass0 (pa_cons (pv 1) pa_nil)) pa_nil))) (pg_tup (by rfl) (pgs_cons (pg_name (i := 6) sc_law.nd rfl (Or.inr rfl)) (pgs_cons (pg_name (i := 5) sc_law.nd rfl (Or.inr rfl)) pgs_nil))))
 (pss_cons (ps_if (PW.pt (pw_or (pt_cmpR op_notBl (pe_call G_is_term (hr.mono (by decide)) rfl d_is_term.m d_is_term.F.kp d_is_term.b .nil pass0 (pa_cons (pv 6) pa_nil)) pe_bl (nomark _)) (pw_or1 (pt_cmpR op_notBl (pe_call G_is_term (hr.mono (by decide)) rfl d_is_term.m d_is_term.F.kp d_is_term.b .nil pass0 (pa_cons (pv 5) pa_nil)) pe_bl (nomark _))))) (pss_one (ps_ret pe_bl)) pss_nil)
 (pss_cons (ps_set (i := 3) sc_law.nd rfl (Or.inl rfl) (pe_lst (pa_cons (pe_lamA (T := [(Pt, lamQ)]) (k := 45) (t := fun E => tCall (spSz3 K CI) [] E (tCons (tVar 5) tNil)) TB rfl (List.mem_singleton.mpr rfl) (fun p hp _ => by rw [List.mem_singleton.mp hp]; rfl) rfl (LamX.lamS_by (by rfl)) (NdefX.ndef_free (fr := ["_law_bad"]) (by rfl)) (fun _ _ _ _ _ => rfl) (fun A2 outer2 s2 H2 E2 f2 c2 hr2 => (pe_call (E := E2) G_size_of (hr2.mono (by decide)) rfl d_size_of.m d_size_of.F.kp d_size_of.b .nil passL (pa_cons (pe_var (i := 5) rfl (.inr (.inr rfl))) pa_nil)))) (pa_cons (pe_lamAD (T := [(Pt, lamQ)]) (k := 45) (a0 := "_law_a") (t := fun E => tCall (spBad1 K CI) [] E (tCons (tVar 5) tNil)) TB rfl (List.mem_singleton.mpr rfl) (fun p hp _ => by rw [List.mem_singleton.mp hp]; rfl) rfl rfl (lamSD_by (by rfl)) rfl (fun _ _ _ _ _ _ _ => ⟨_, rfl, fun _ => rfl⟩) (fun A2 outer2 s2 H2 E2 f2 c2 hr2 => (pe_call (E := E2) G_depth_of (hr2.mono (by decide)) rfl d_depth_of.m d_depth_of.F.kp d_depth_of.b .nil passL (pa_cons (pe_var (i := 5) rfl (.inr (.inr rfl))) pa_nil)))) (pa_cons (pe_lamAD (T := [(Pt, lamQ)]) (k := 45) (a0 := "_law_b") (t := fun E => tCall (spBad1 K CI) [] E (tCons (tVar 5) tNil)) TB rfl (List.mem_singleton.mpr rfl) (fun p hp _ => by rw [List.mem_singleton.mp hp]; rfl) rfl rfl (lamSD_by (by rfl)) rfl (fun _ _ _ _ _ _ _ => ⟨_, rfl, fun _ => rfl⟩) (fun A2 outer2 s2 H2 E2 f2 c2 hr2 => (pe_call (E := E2) G_format_term (hr2.mono (by decide)) rfl d_format_term.m d_format_term.F.kp d_format_term.b .nil passL (pa_cons (pe_var (i := 5) rfl (.inr (.inr rfl))) pa_nil)))) (pa_cons (pe_lamAD (T := [(Pt, lamQ)]) (k := 45) (a0 := "_law_c") (t := fun E => tCall (spBad1 K CI) [] E (tCons (tVar 5) tNil)) TB rfl (List.mem_singleton.mpr rfl) (fun p hp _ => by rw [List.mem_singleton.mp hp]; rfl) rfl rfl (lamSD_by (by rfl)) rfl (fun _ _ _ _ _ _ _ => ⟨_, rfl, fun _ => rfl⟩) (fun A2 outer2 s2 H2 E2 f2 c2 hr2 => (pe_call (E := E2) G_index_of (hr2.mono (by decide)) rfl d_index_of.m d_index_of.F.kp d_index_of.b .nil passL (pa_cons (pe_var (i := 5) rfl (.inr (.inr rfl))) pa_nil)))) pa_nil))))))
 (pss_cons (ps_set (i := 3) sc_law.nd rfl (Or.inl rfl) (pe_op op_cat (pv 3) (pe_lst (pa_cons (pe_lamAD (T := [(Pt, lamQ)]) (k := 45) (a0 := "_law_d") (t := fun E => tCall (spBad1 K CI) [] E (tCons (tVar 5) tNil)) TB rfl (List.mem_singleton.mpr rfl) (fun p hp _ => by rw [List.mem_singleton.mp hp]; rfl) rfl rfl (lamSD_by (by rfl)) rfl (fun _ _ _ _ _ _ _ => ⟨_, rfl, fun _ => rfl⟩) (fun A2 outer2 s2 H2 E2 f2 c2 hr2 => (pe_call (E := E2) G_left_spine (hr2.mono (by decide)) rfl d_left_spine.m d_left_spine.F.kp d_left_spine.b .nil passL (pa_cons (pe_var (i := 5) rfl (.inr (.inr rfl))) pa_nil)))) (pa_cons (pe_lamAD (T := [(Pt, lamQ)]) (k := 45) (a0 := "_law_f") (t := fun E => tCall (spBad2 K CI) [] E (tCons (tVar 6) (tCons (tVar 5) tNil))) TB rfl (List.mem_singleton.mpr rfl) (fun p hp _ => by rw [List.mem_singleton.mp hp]; rfl) rfl rfl (lamSD_by (by rfl)) rfl (fun _ _ _ _ _ _ _ => ⟨_, rfl, fun _ => rfl⟩) (fun A2 outer2 s2 H2 E2 f2 c2 hr2 => (pe_call (E := E2) G_compare (hr2.mono (by decide)) rfl d_compare.m d_compare.F.kp d_compare.b .nil passL (pa_cons (pe_var (i := 6) rfl (.inr (.inr rfl))) (pa_cons (pe_var (i := 5) rfl (.inr (.inr rfl))) pa_nil))))) (pa_cons (pe_lamAD (T := [(Pt, lamQ)]) (k := 45) (a0 := "_law_g") (t := fun E => tCall (spBad2 K CI) [] E (tCons (tVar 5) (tCons (tVar 6) tNil))) TB rfl (List.mem_singleton.mpr rfl) (fun p hp _ => by rw [List.mem_singleton.mp hp]; rfl) rfl rfl (lamSD_by (by rfl)) rfl (fun _ _ _ _ _ _ _ => ⟨_, rfl, fun _ => rfl⟩) (fun A2 outer2 s2 H2 E2 f2 c2 hr2 => (pe_call (E := E2) G_compare (hr2.mono (by decide)) rfl d_compare.m d_compare.F.kp d_compare.b .nil passL (pa_cons (pe_var (i := 5) rfl (.inr (.inr rfl))) (pa_cons (pe_var (i := 6) rfl (.inr (.inr rfl))) pa_nil))))) pa_nil))))))
 (pss_cons (ps_if (pt_not (pt_val (pe_callB (cr_all rfl) (by rfl) B.all (by decide +kernel) (pa_cons (pe_lcI (own := [("_law_ask", 8)]) (g := gName 8) (tt := tYes) (te := fun σ0 => tOp (rEqD K) (tAskG _ 45 8 (TTry K CT word fld) σ0) (tTup (tCons (tC (.str "InvalidTerm")) (tCons (tC .non) tNil)))) (by rfl) sc_law.nd (pv 3) (blkOk_by (own := [("_law_ask", 8)]) (N := ["_law_script", "_law_rng", "_law_turn", "_law_asks", "_law_edges", "_law_bad", "_law_good", "_law_term_here", "_law_ask"]) (sc := defScope s_law) (by decide +kernel)) (fun _ _ _ _ _ => (pg_name (i := 8) sc_law.nd rfl (Or.inl rfl))) (fun _ _ _ _ _ => pts_nil) (fun s0 H0 C0 cl0 fp0 pins0 σ0 back => (pe_cmpR (r := rEqD K) (op_eqD hr.units) (pe_askG (X := _) (k := 45) (i := 8) (TT := TTry K CT word fld) back rfl d__law_try.m d__law_try.F.kp lkT hcT d__law_try.b sc__law_try rfl (.inl rfl) (try_gives rfl rfl rfl rfl rfl rfl mT d__law_error_name.m d__law_error_field.m d__law_error_name.F.kp d__law_error_field.F.kp d__law_error_name.b d__law_error_field.b GN GF) (hr.mono (by decide)) (by decide : 40 ≤ 45 + 1) rfl (.inl rfl)) (pe_tup (pa_cons pe_str (pa_cons pe_non pa_nil))) (nomark _)))) pa_nil)))) (pss_one (ps_ret pe_bl)) pss_nil)
 (pss_one (ps_if (pt_not (pt_val (pe_call G__law_same (hr.mono (by decide)) rfl d__law_same.m d__law_same.F.kp d__law_same.b .nil pass0 (pa_cons (pe_call G_size_of (hr.mono (by decide)) rfl d_size_of.m d_size_of.F.kp d_size_of.b .nil passF (pa_cons (pv 6) pa_nil)) (pa_cons (pe_call G__law_size (hr.mono (by decide)) rfl d__law_size.m d__law_size.F.kp d__law_size.b .nil pass0 (pa_cons (pv 6) pa_nil)) pa_nil))))) (pss_one (ps_ret pe_bl)) pss_nil))))))))
 (pss_cons (ps_set (i := 4) sc_law.nd rfl (Or.inl rfl) (pe_lst (pa_cons (pe_call G__law_comb (hr.mono (by decide)) rfl d__law_comb.m d__law_comb.F.kp d__law_comb.b .nil pass0 (pa_cons pe_int (pa_cons pe_bl pa_nil))) (pa_cons (pe_call G__law_comb (hr.mono (by decide)) rfl d__law_comb.m d__law_comb.F.kp d__law_comb.b .nil pass0 (pa_cons pe_int (pa_cons pe_bl pa_nil))) (pa_cons (pe_call G__law_term (hr.mono (by decide)) rfl d__law_term.m d__law_term.F.kp d__law_term.b .nil pass0 (pa_cons (pv 1) (pa_cons pe_int (pa_cons pe_int pa_nil)))) (pa_cons (pe_tup (pa_cons (pe_tup pa_nil) (pa_cons (pe_tup (pa_cons (pe_tup pa_nil) (pa_cons (pe_tup pa_nil) pa_nil))) pa_nil))) (pa_cons (pe_tup pa_nil) pa_nil)))))))
 (pss_one (ps_ret (pe_callB (cr_all rfl) (by rfl) B.all (by decide +kernel) (pa_cons (pe_lc (own := [("_law_term_here", 7)]) (g := gName 7) (tt := tYes) (by rfl) sc_law.nd (pi_list (pv 4)) (blkOk_by (own := [("_law_term_here", 7)]) (N := ["_law_script", "_law_rng", "_law_turn", "_law_asks", "_law_edges", "_law_bad", "_law_good", "_law_term_here", "_law_ask"]) (sc := defScope s_law) (by decide +kernel)) (fun _ _ _ _ _ => (pg_name (i := 7) sc_law.nd rfl (Or.inl rfl))) (fun _ _ _ _ _ => pts_nil) (fun _ _ _ _ _ => (pe_cmpR (r := L2.rIsB) op_isBl (pe_call G_is_term (hr.mono (by decide)) rfl d_is_term.m d_is_term.F.kp d_is_term.b .nil pass0 (pa_cons (pv 7) pa_nil)) pe_bl (nomark _)))) pa_nil))))))), ?_⟩
  refine ⟨_, rfl, a, ns, rfl, hS, fun r H1 s1 _ R1 => ?_⟩
  have T1 : LamX.Tabs [(Pt, lamQ)] H1 := tabs1 (s1 _ _ hP)
  have hNT : ∀ {G : Hp} {v : V} {t : Tree}, TA K G v t → t.sz ≤ 12 → t.dp ≤ 6 → NT K G v t.d ∧ ndD t.d ≤ 1000 ∧ okd t.d = true := fun {G v t} h1 h2 h3 => by
    have hnd := tree_nodes t
    refine ⟨NT.of h1 (by omega), by rw [tree_nd]; omega, ?_⟩
    rw [tree_okd, decide_eq_true h3, decide_eq_true h2]
    rfl
  refine ⟨6, rfl, by decide, by decide, for_range (lo := 0) (n := 6) (fun i σ G => ∃ (x2 x3 x5 x6 : Option V), σ = [some (.ref a), some (.ref r), x2, x3, none, x5, x6, none, none] ∧ Rng G r ∧ LamX.Tabs [(Pt, lamQ)] G) ⟨_, _, _, _, rfl, R1, T1⟩ ?_ ?_⟩
  · rintro i σ H2 hi ⟨x2, x3, x5, x6, rfl, R2, T2⟩
    obtain ⟨c2, Rc2⟩ := R2.toC
    refine ⟨_, rfl, r, 12, rfl, by decide, by decide, R2, fun v t H3 a3 z3 d3 R3 b3 => ?_⟩
    have T3 := Rc2.tabs b3 T2
    obtain ⟨c3, Rc3⟩ := R3.toC
    have hz : t.sz ≤ 12 := by omega
    refine ⟨_, rfl, r, rfl, R3, fun vb H4 hB R4 b4 => ⟨two_le, fun p5 np5 => ⟨p5, _, rfl, SqT.here upd_same, rfl, _, _, rfl, _, _, rfl, rfl, ?_⟩⟩⟩
    have T4 := Rc3.tabs b4 T3
    have a4 := ta_mono (Rc3.tp b4) a3
    obtain ⟨db, hN, hn, hbad⟩ := hB
    obtain ⟨c4, Rc4⟩ := R4.toC
    have s5 := Same.new np5 (.tup [v, vb])
    have Rc5 := Rc4.same s5
    have T5 := tabs_same s5 T4
    have a5 := ta_mono (Tp.same s5) a4
    have N5 := hN.tp (Tp.same s5)
    generalize (upd H4 p5 (.tup [v, vb])) = H5 at *
    clear a3 a4 T3 T4 b3 b4 Rc2 Rc3 Rc4 R2 R3 R4 hN s5 np5
    obtain ⟨w1, w2, w3⟩ := hNT a5 hz d3
    refine ⟨_, rfl, v, t.d, rfl, w1, w2, fun H6 s6 => ⟨okd t.d, true, rfl, rfl, _, rfl, ite_no (by rw [w3]; rfl) ?_⟩⟩
    refine ⟨_, rfl, vb, db, rfl, N5.tp (Tp.same s6), hn, fun H7 s7 => ⟨okd db, false, rfl, rfl, _, rfl, ite_no (by rw [hbad]; rfl) ?_⟩⟩
    have s67 := s6.trans s7
    have Rc7 := Rc5.same s67
    have T7 := tabs_same s67 T5
    have a7 := ta_mono (Tp.same s67) a5
    have N7 := N5.tp (Tp.same s67)
    clear Rc5 T5 a5 N5 s67 s6 s7 w1
    refine ⟨T7, fun f1 k1 pre1 G1 e1 t1 A1 P1 => ⟨t1, fun f2 k2 pre2 G2 e2 t2 A2 P2 => ⟨t2, fun f3 k3 pre3 G3 e3 t3 A3 P3 => ⟨t3, fun f4 k4 pre4 G4 e4 t4 A4 P4 => ⟨(by show 4 ≤ sizeLine; decide), fun l nl => ?_⟩⟩⟩⟩⟩
    have sl := Same.new nl (.lst [.ref f1, .ref f2, .ref f3, .ref f4])
    have hl : (upd G4 l (.lst [.ref f1, .ref f2, .ref f3, .ref f4])) l = some (.lst [.ref f1, .ref f2, .ref f3, .ref f4]) := upd_same
    refine ⟨_, rfl, tabs_same sl t4, fun f5 k5 pre5 G5 e5 t5 A5 P5 => ⟨t5, fun f6 k6 pre6 G6 e6 t6 A6 P6 => ⟨t6, fun f7 k7 pre7 G7 e7 t7 A7 P7 => ⟨(by show 3 ≤ sizeLine; decide), fun l2 nl2 => ?_⟩⟩⟩⟩
    have sl2 := Same.new nl2 (.lst [.ref f5, .ref f6, .ref f7])
    have eL : LamX.ExtN (upd G4 l (.lst [.ref f1, .ref f2, .ref f3, .ref f4])) (upd G7 l2 (.lst [.ref f5, .ref f6, .ref f7])) := e5.trans (e6.trans (e7.trans (LamX.ExtN.of sl2)))
    refine ⟨l, l2, _, _, rfl, rfl, eL _ _ hl (fun _ => nofun), upd_same, (by show 7 ≤ sizeLine; decide), fun l3 nl3 => ?_⟩
    have sl3 := Same.new nl3 (.lst ([.ref f1, .ref f2, .ref f3, .ref f4] ++ [.ref f5, .ref f6, .ref f7]))
    have e37 := e7.trans (LamX.ExtN.of (sl2.trans sl3))
    have e36 := e6.trans e37
    have e35 := e5.trans e36
    have e34 := (LamX.ExtN.of sl).trans e35
    have e33 := e4.trans e34
    have e32 := e3.trans e33
    have e31 := e2.trans e32
    have e30 := e1.trans e31
    have h3 : (upd (upd G7 l2 (.lst [.ref f5, .ref f6, .ref f7])) l3 (.lst ([.ref f1, .ref f2, .ref f3, .ref f4] ++ [.ref f5, .ref f6, .ref f7]))) l3 = some (.lst ([.ref f1, .ref f2, .ref f3, .ref f4] ++ [.ref f5, .ref f6, .ref f7])) := upd_same
    have T9 := tabs_same (sl2.trans sl3) t7
    generalize (upd (upd G7 l2 (.lst [.ref f5, .ref f6, .ref f7])) l3 (.lst ([.ref f1, .ref f2, .ref f3, .ref f4] ++ [.ref f5, .ref f6, .ref f7]))) = G9 at *
    have Rc9 := Rc7.extN e30
    have a9 := ta_mono (Tp.extN e30) a7
    have N9 := N7.tp (Tp.extN e30)
    have P1 := fun G e => P1 G (e31.trans e)
    have P2 := fun G e => P2 G (e32.trans e)
    have P3 := fun G e => P3 G (e33.trans e)
    have P4 := fun G e => P4 G (e34.trans e)
    have P5 := fun G e => P5 G (e36.trans e)
    have P6 := fun G e => P6 G (e37.trans e)
    have P7 := fun G e => P7 G ((LamX.ExtN.of (sl2.trans sl3)).trans e)
    clear e30 e31 e32 e33 e34 e35 e36 e37 sl sl2 sl3 eL e1 e2 e3 e4 e5 e6 e7 t1 t2 t3 t4 t5 t6 t7 Rc7 T7 a7 N7 hl nl nl2 nl3
    refine ⟨_, rfl, l3, [.ref f1, .ref f2, .ref f3, .ref f4, .ref f5, .ref f6, .ref f7], rfl, SqL.here h3, fun D hD => ⟨fun i G => Same G9 G ∧ G D = some (.lst (List.replicate i (V.bl true))), ⟨Same.new hD _, upd_same⟩, fun i G _ z => SqL.here (z.1 _ _ h3), fun i x G hx hG => ?_, fun G hG => ?_⟩⟩
    · obtain ⟨sm, hD2⟩ := hG
      have NG := N9.tp (Tp.same sm)
      have aG := ta_mono (Tp.same sm) a9
      have eG := LamX.ExtN.of sm
      obtain ⟨wg1, wg2, wg3⟩ := hNT aG hz d3
      have hi7 : i < 7 := (List.getElem?_eq_some_iff.mp hx).1
      refine ⟨rfl, ?_⟩
      have fin : ∀ (q1 : Addr) (G2 : Hp), Same G G2 → G2 q1 = none → ∀ (Z : V → Hp → Prop), (∀ y G4, Same G G4 → y = V.bl true → Z y G4) → 2 ≤ sizeLine ∧ ∀ p, (upd G2 q1 (.tup [.str (en 0), .non])) p = none → rEqD K (.ref q1) (.ref p) (upd (upd G2 q1 (.tup [.str (en 0), .non])) p (.tup [.str ("InvalidTerm" : Str), .non])) Z := fun q1 G2 s2 n1 Z hZ => ⟨two_le, fun p np => by
        have sq := Same.new n1 (.tup [.str (en 0), .non])
        have sp := Same.new np (.tup [.str ("InvalidTerm" : Str), .non])
        refine ⟨eD 0, eD 0, dp_eD (SqT.here (sp _ _ upd_same)), dp_eD (SqT.here upd_same), eD_shaped 0 (by decide), eD_shaped 0 (by decide), ?_⟩
        refine hZ _ _ (s2.trans (sq.trans sp)) ?_
        rw [SeqAt.eqv_refl _ (SeqAt.canLay_of_shaped (eD_shaped 0 (by decide)))]⟩
      have last : ∀ (y : V) (G4 : Hp), Same G G4 → y = V.bl true → ∃ acc, G4 D = some (.lst acc) ∧ acc.length < sizeLine ∧ (Same G9 (upd G4 D (.lst (acc ++ [y]))) ∧ (upd G4 D (.lst (acc ++ [y]))) D = some (.lst (List.replicate (i + 1) (V.bl true)))) := fun y G4 s4 ey => by
        refine ⟨_, s4 _ _ hD2, by rw [List.length_replicate]; exact small1000 (by omega), fun b o z => ?_, ?_⟩
        · rw [upd_ne (ne_of_none z hD)]
          exact s4 _ _ (sm _ _ z)
        · rw [upd_same, ey, List.replicate_succ']
      match i, hi7, hx with
      | 0, _, hx => cases hx; exact ⟨f1, k1, pre1, _, rfl, A1, (P1 G eG).2, fun f' => ⟨(P1 G eG).1, _, rfl, vb, db, rfl, NG, hn, fun _ H' s' => wTry (D := CI) (nm := en 0) (v := .non) hfs rfl hW0 w0 (hf0 _ _ _) (fun q1 G2 s2 n1 => fin q1 G2 (s'.trans s2) n1 _ last), fun t' et h1 h2 => by rw [et, tree_okd, decide_eq_true h2, decide_eq_true h1] at hbad; cases hbad⟩⟩
      | 1, _, hx => cases hx; exact ⟨f2, k2, pre2, _, rfl, A2, (P2 G eG).2, fun f' => ⟨(P2 G eG).1, _, rfl, vb, db, rfl, NG, hn, hbad, fun H' s' => wTry (D := CI) (nm := en 0) (v := .non) hfs rfl hW0 w0 (hf0 _ _ _) (fun q1 G2 s2 n1 => fin q1 G2 (s'.trans s2) n1 _ last)⟩⟩
      | 2, _, hx => cases hx; exact ⟨f3, k3, pre3, _, rfl, A3, (P3 G eG).2, fun f' => ⟨(P3 G eG).1, _, rfl, vb, db, rfl, NG, hn, hbad, fun H' s' => wTry (D := CI) (nm := en 0) (v := .non) hfs rfl hW0 w0 (hf0 _ _ _) (fun q1 G2 s2 n1 => fin q1 G2 (s'.trans s2) n1 _ last)⟩⟩
      | 3, _, hx => cases hx; exact ⟨f4, k4, pre4, _, rfl, A4, (P4 G eG).2, fun f' => ⟨(P4 G eG).1, _, rfl, vb, db, rfl, NG, hn, hbad, fun H' s' => wTry (D := CI) (nm := en 0) (v := .non) hfs rfl hW0 w0 (hf0 _ _ _) (fun q1 G2 s2 n1 => fin q1 G2 (s'.trans s2) n1 _ last)⟩⟩
      | 4, _, hx => cases hx; exact ⟨f5, k5, pre5, _, rfl, A5, (P5 G eG).2, fun f' => ⟨(P5 G eG).1, _, rfl, vb, db, rfl, NG, hn, hbad, fun H' s' => wTry (D := CI) (nm := en 0) (v := .non) hfs rfl hW0 w0 (hf0 _ _ _) (fun q1 G2 s2 n1 => fin q1 G2 (s'.trans s2) n1 _ last)⟩⟩
      | 5, _, hx => cases hx; exact ⟨f6, k6, pre6, _, rfl, A6, (P6 G eG).2, fun f' => ⟨(P6 G eG).1, _, rfl, _, rfl, v, vb, t.d, db, rfl, wg1, wg2, NG, hn, .inr hbad, fun H' s' => wTry (D := CI) (nm := en 0) (v := .non) hfs rfl hW0 w0 (hf0 _ _ _) (fun q1 G2 s2 n1 => fin q1 G2 (s'.trans s2) n1 _ last)⟩⟩
      | 6, _, hx => cases hx; exact ⟨f7, k7, pre7, _, rfl, A7, (P7 G eG).2, fun f' => ⟨(P7 G eG).1, _, rfl, _, rfl, vb, v, db, t.d, rfl, NG, hn, wg1, wg2, .inl hbad, fun H' s' => wTry (D := CI) (nm := en 0) (v := .non) hfs rfl hW0 w0 (hf0 _ _ _) (fun q1 G2 s2 n1 => fin q1 G2 (s'.trans s2) n1 _ last)⟩⟩
      | i + 7, h7, _ => exact absurd h7 (by omega)
    · obtain ⟨sm, hD2⟩ := hG
      refine ⟨D, List.replicate 7 true, rfl, SqL.here (hD2.trans (congrArg (fun z => some (HO.lst z)) rfl)), true, rfl, iteF ?_⟩
      have aG := ta_mono (Tp.same sm) a9
      obtain ⟨wg1, wg2, wg3⟩ := hNT aG hz d3
      refine ⟨_, rfl, v, t.d, rfl, wg1, wg2, fun bad => absurd (bad.symm.trans wg3) (by decide), fun t' et _ _ H' s' => ?_⟩
      cases d_inj et
      refine ⟨_, rfl, v, t, rfl, ta_mono (Tp.same s') aG, by omega, by decide, fun H'' s'' => ⟨.int t.sz, .int t.sz, .int t.sz, rfl, .int _, .int _, rfl, (by show 0 < 14; decide), rfl, fun H3 s3 => ⟨true, rfl, iteF ?_⟩⟩⟩
      have sA := sm.trans (s'.trans (s''.trans s3))
      exact ⟨_, _, _, _, rfl, (Rc9.same sA).rng, tabs_same sA T9⟩
  · rintro σ G ⟨x2, x3, x5, x6, rfl, RG, TG⟩
    refine ⟨7, true, rfl, by decide, by decide, fun v1 t1 G1 a1 z1 d1 s1 => ⟨7, false, rfl, by decide, by decide, fun v2 t2 G2 a2 z2 d2 s2 => ?_⟩⟩
    have s12 := s1.trans s2
    obtain ⟨cc, Rc⟩ := RG.toC
    have Rc2 := Rc.same s12
    refine ⟨_, rfl, r, 12, 6, by decide, rfl, by decide, by decide, by decide, Rc2.rng, fun v3 t3 G3 a3 z3 d3 R3 b3 => ?_⟩
    have tp3 := Rc2.tp b3
    refine ⟨zero_le', fun p1 n1 => ⟨zero_le', fun p2 n2 => ⟨zero_le', fun p3 n3 => ⟨two_le, fun p4 n4 => ⟨two_le, fun p5 n5 => ⟨zero_le', fun p6 n6 => ⟨(by show 5 ≤ sizeLine; decide), fun l nl => ?_⟩⟩⟩⟩⟩⟩⟩
    have o1 := Same.new n1 (.tup [])
    have o2 := Same.new n2 (.tup [])
    have o3 := Same.new n3 (.tup [])
    have o4 := Same.new n4 (.tup [.ref p2, .ref p3])
    have o5 := Same.new n5 (.tup [.ref p1, .ref p4])
    have o6 := Same.new n6 (.tup [])
    have o7 := Same.new nl (.lst [v1, v2, v3, .ref p5, .ref p6])
    have o57 := o6.trans o7
    have o47 := o5.trans o57
    have o37 := o4.trans o47
    have o27 := o3.trans o37
    have o17 := o2.trans o27
    have oA := o1.trans o17
    have m1 := ta_mono (((Tp.same s2).trans tp3).trans (Tp.same oA)) a1
    have m2 := ta_mono (tp3.trans (Tp.same oA)) a2
    have m3 := ta_mono (Tp.same oA) a3
    have m5 : TA K _ (.ref p5) (.N .L (.N .L .L)) := ta_node (SqT.here (o57 _ _ upd_same)) (ta_leaf (SqT.here (o17 _ _ upd_same))) (ta_node (SqT.here (o47 _ _ upd_same)) (ta_leaf (SqT.here (o27 _ _ upd_same))) (ta_leaf (SqT.here (o37 _ _ upd_same))))
    have m6 : TA K _ (.ref p6) .L := ta_leaf (SqT.here (o7 _ _ upd_same))
    have hl : (upd (upd (upd (upd (upd (upd (upd G3 p1 (.tup [])) p2 (.tup [])) p3 (.tup [])) p4 (.tup [.ref p2, .ref p3])) p5 (.tup [.ref p1, .ref p4])) p6 (.tup [])) l (.lst [v1, v2, v3, .ref p5, .ref p6])) l = some (.lst [v1, v2, v3, .ref p5, .ref p6]) := upd_same
    generalize (upd (upd (upd (upd (upd (upd (upd G3 p1 (.tup [])) p2 (.tup [])) p3 (.tup [])) p4 (.tup [.ref p2, .ref p3])) p5 (.tup [.ref p1, .ref p4])) p6 (.tup [])) l (.lst [v1, v2, v3, .ref p5, .ref p6])) = G9 at *
    have good : ∀ (i : Nat) (x : V), [v1, v2, v3, .ref p5, .ref p6][i]? = some x → i < 5 ∧ ∃ t, TA K G9 x t ∧ t.sz ≤ 12 ∧ t.dp ≤ 6 := fun i x hx => by
      have hi : i < 5 := (List.getElem?_eq_some_iff.mp hx).1
      refine ⟨hi, ?_⟩
      match i, hi, hx with
      | 0, _, hx => cases hx; exact ⟨t1, m1, by omega, by omega⟩
      | 1, _, hx => cases hx; exact ⟨t2, m2, by omega, by omega⟩
      | 2, _, hx => cases hx; exact ⟨t3, m3, by omega, by omega⟩
      | 3, _, hx => cases hx; exact ⟨_, m5, by decide, by decide⟩
      | 4, _, hx => cases hx; exact ⟨_, m6, by decide, by decide⟩
      | i + 5, h5, _ => exact absurd h5 (by omega)
    clear o1 o2 o3 o4 o5 o6 o7 o17 o27 o37 o47 o57 oA m1 m2 m3 m5 m6 n1 n2 n3 n4 n5 n6 nl tp3 Rc2 s12 a1 a2 a3
    refine ⟨_, rfl, l, rfl, ⟨_, SqL.here hl⟩, fun D hD => ?_⟩
    refine lc_list (K := K) (a := l) (xs := [v1, v2, v3, .ref p5, .ref p6]) (fun i G => Same G9 G ∧ G D = some (.lst (List.replicate i (V.bl true)))) ⟨Same.new hD _, upd_same⟩ (fun i G _ z => SqL.here (z.1 _ _ hl)) ?_ ?_
    · rintro j x G hx ⟨sm, hD2⟩
      obtain ⟨hj, t, ht, tz, td⟩ := good j x hx
      obtain ⟨w1, w2, w3⟩ := hNT (ta_mono (Tp.same sm) ht) tz td
      refine ⟨rfl, _, rfl, x, t.d, rfl, w1, w2, fun H' s' => ⟨okd t.d, true, rfl, rfl, _, s' _ _ hD2, by rw [List.length_replicate]; exact small1000 (by omega), fun b o z => ?_, ?_⟩⟩
      · rw [upd_ne (ne_of_none z hD)]
        exact s' _ _ (sm _ _ z)
      · rw [upd_same, w3, List.replicate_succ']
        rfl
    · rintro G ⟨sm, hD2⟩
      exact ⟨D, List.replicate 5 true, rfl, SqL.here (hD2.trans (congrArg (fun z => some (HO.lst z)) rfl)), q _⟩

end
theorem kit_own {K : PySem.W.Frag} {C c : Addr} {b : Bool} (ne : (Value.ref C == Value.ref c) = false) (h1 : PySem.W.isClsIn K c = true) (h2 : PySem.W.typeIn K (.ref c) = some (.type "type")) (h3 : PySem.W.subIn K (.ref C) (.ref c) = some b) : PySem.W.kitOne K (.ref C) (.ref c) = some b := by
  have e2 : ((PySem.W.clsIn K c).isSome && PySem.W.typeIn K (.ref c) == some (.type "type")) = true := by
    have h1' : (PySem.W.clsIn K c).isSome = true := h1
    rw [h1', h2] <;> rfl
  unfold PySem.W.kitOne
  rw [ne, if_neg (by decide)]
  show (if ((PySem.W.clsIn K c).isSome && PySem.W.typeIn K (.ref c) == some (.type "type")) = true then PySem.W.subIn K (.ref C) (.ref c) else none) = some b
  rw [if_pos e2]
  exact h3
theorem codeHd_mk {K : PySem.W.Frag} {cL Pt : Addr} {edL : Option Addr} {vsL : Array Value} {slL : Array (Option Value)} {f18 : Str} {t18 t7 t10 : Tok} {i7 i10 : Int} {b9 : Bool} (lC : K.lookup cL = some ⟨.type "code", edL, .fields vsL, slL⟩) (h11 : vsL[11]? = some (.ref Pt)) (h18 : vsL.getD 18 .none = .str f18 t18)
    (h7 : vsL.getD 7 .none = .int i7 t7) (h9 : vsL.getD 9 .none = .bool b9) (h10 : vsL.getD 10 .none = .int i10 t10) (ne : (cL != Pt) = true) : PySem.W.codeHdIn K cL Pt = true := by
  unfold PySem.W.codeHdIn
  rw [lC]
  simp only [h11, h18, h7, h9, h10, ne, beq_self_eq_true, Bool.and_true, Bool.and_self]
set_option maxHeartbeats 0 in
theorem all_mk {l : PySem.W.OpenLaw} {w : World} {K : PySem.W.Frag} {h : Heap} {mg : Str → Option Value} {fa : Addr} (X : K.In h) (G : h.Ns mainGlobals mg) (hfa : mg "law" = some (.ref fa)) 
    {g0 g1 g2 g3 g4 g5 g6 g7 g8 g9 g10 g11 g12 g13 g14 g15 g16 g17 g18 g19 g20 g21 g22 : Addr}
    {od0 an0 od1 an1 od2 an2 od3 an3 od4 an4 od5 an5 od6 an6 od7 an7 od8 an8 od9 an9 od10 an10 od11 an11 od12 an12 od13 an13 od14 an14 od15 an15 od16 an16 od17 an17 od18 an18 od19 an19 od20 an20 od21 an21 od22 an22 : Option Addr}
    {sl0 sl1 sl2 sl3 sl4 sl5 sl6 sl7 sl8 sl9 sl10 sl11 sl12 sl13 sl14 sl15 sl16 sl17 sl18 sl19 sl20 sl21 sl22 : Array (Option Value)}
    {oc0 kV0 dc0 pm0 cd0 ct0 oc1 kV1 dc1 pm1 cd1 ct1 oc2 kV2 dc2 pm2 cd2 ct2 oc3 kV3 dc3 pm3 cd3 ct3 oc4 kV4 dc4 pm4 cd4 ct4 oc5 kV5 dc5 pm5 cd5 ct5 oc6 kV6 dc6 pm6 cd6 ct6 oc7 kV7 dc7 pm7 cd7 ct7 oc8 kV8 dc8 pm8 cd8 ct8 oc9 kV9 dc9 pm9 cd9 ct9 oc10 kV10 dc10 pm10 cd10 ct10 oc11 kV11 dc11 pm11 cd11 ct11 oc12 kV12 dc12 pm12 cd12 ct12 oc13 kV13 dc13 pm13 cd13 ct13 oc14 kV14 dc14 pm14 cd14 ct14 oc15 kV15 dc15 pm15 cd15 ct15 oc16 kV16 dc16 pm16 cd16 ct16 oc17 kV17 dc17 pm17 cd17 ct17 oc18 kV18 dc18 pm18 cd18 ct18 oc19 kV19 dc19 pm19 cd19 ct19 oc20 kV20 dc20 pm20 cd20 ct20 oc21 kV21 dc21 pm21 cd21 ct21 oc22 kV22 dc22 pm22 ct22 : Value}
    {cL Pt CT : Addr} {f18 : Str} {t18 t7 t10 : Tok} {i7 i10 : Int} {b9 : Bool} {edL : Option Addr} {vsL : Array Value} {slL : Array (Option Value)}
    {tc_MAX_SIZE : Tok}
    {tc_MAX_DEPTH : Tok}
    {x0 x1 x2 x3 x4 x5 x6 x7 x8 x9 x10 x11 x12 x13 x14 x15 x16 x17 x18 x19 : Addr}
    (a0 : PySem.W.nsIn K mainGlobals "_law_draws" = some (some (.ref g0)))
    (l0 : K.lookup g0 = some ⟨oc0, od0, .func (PySem.W.fnOf "_law_draws" "_law_draws" (defArgs s__law_draws) (defBody s__law_draws) (defScope s__law_draws) .none kV0 dc0 pm0 an0 cd0 ct0), sl0⟩)
    (c0 : PySem.W.codeIn K cd0 "_law_draws" = true)
    (k0 : PySem.W.keepIn K (.ref g0) = true)
    (a1 : PySem.W.nsIn K mainGlobals "_law_draw" = some (some (.ref g1)))
    (l1 : K.lookup g1 = some ⟨oc1, od1, .func (PySem.W.fnOf "_law_draw" "_law_draw" (defArgs s__law_draw) (defBody s__law_draw) (defScope s__law_draw) .none kV1 dc1 pm1 an1 cd1 ct1), sl1⟩)
    (c1 : PySem.W.codeIn K cd1 "_law_draw" = true)
    (k1 : PySem.W.keepIn K (.ref g1) = true)
    (a2 : PySem.W.nsIn K mainGlobals "_law_pick" = some (some (.ref g2)))
    (l2 : K.lookup g2 = some ⟨oc2, od2, .func (PySem.W.fnOf "_law_pick" "_law_pick" (defArgs s__law_pick) (defBody s__law_pick) (defScope s__law_pick) .none kV2 dc2 pm2 an2 cd2 ct2), sl2⟩)
    (c2 : PySem.W.codeIn K cd2 "_law_pick" = true)
    (k2 : PySem.W.keepIn K (.ref g2) = true)
    (a3 : PySem.W.nsIn K mainGlobals "_law_same" = some (some (.ref g3)))
    (l3 : K.lookup g3 = some ⟨oc3, od3, .func (PySem.W.fnOf "_law_same" "_law_same" (defArgs s__law_same) (defBody s__law_same) (defScope s__law_same) .none kV3 dc3 pm3 an3 cd3 ct3), sl3⟩)
    (c3 : PySem.W.codeIn K cd3 "_law_same" = true)
    (k3 : PySem.W.keepIn K (.ref g3) = true)
    (a4 : PySem.W.nsIn K mainGlobals "_law_error_name" = some (some (.ref g4)))
    (l4 : K.lookup g4 = some ⟨oc4, od4, .func (PySem.W.fnOf "_law_error_name" "_law_error_name" (defArgs s__law_error_name) (defBody s__law_error_name) (defScope s__law_error_name) .none kV4 dc4 pm4 an4 cd4 ct4), sl4⟩)
    (c4 : PySem.W.codeIn K cd4 "_law_error_name" = true)
    (k4 : PySem.W.keepIn K (.ref g4) = true)
    (a5 : PySem.W.nsIn K mainGlobals "_law_error_field" = some (some (.ref g5)))
    (l5 : K.lookup g5 = some ⟨oc5, od5, .func (PySem.W.fnOf "_law_error_field" "_law_error_field" (defArgs s__law_error_field) (defBody s__law_error_field) (defScope s__law_error_field) .none kV5 dc5 pm5 an5 cd5 ct5), sl5⟩)
    (c5 : PySem.W.codeIn K cd5 "_law_error_field" = true)
    (k5 : PySem.W.keepIn K (.ref g5) = true)
    (a6 : PySem.W.nsIn K mainGlobals "_law_comb" = some (some (.ref g6)))
    (l6 : K.lookup g6 = some ⟨oc6, od6, .func (PySem.W.fnOf "_law_comb" "_law_comb" (defArgs s__law_comb) (defBody s__law_comb) (defScope s__law_comb) .none kV6 dc6 pm6 an6 cd6 ct6), sl6⟩)
    (c6 : PySem.W.codeIn K cd6 "_law_comb" = true)
    (k6 : PySem.W.keepIn K (.ref g6) = true)
    (a7 : PySem.W.nsIn K mainGlobals "_law_term" = some (some (.ref g7)))
    (l7 : K.lookup g7 = some ⟨oc7, od7, .func (PySem.W.fnOf "_law_term" "_law_term" (defArgs s__law_term) (defBody s__law_term) (defScope s__law_term) .none kV7 dc7 pm7 an7 cd7 ct7), sl7⟩)
    (c7 : PySem.W.codeIn K cd7 "_law_term" = true)
    (k7 : PySem.W.keepIn K (.ref g7) = true)
    (a8 : PySem.W.nsIn K mainGlobals "_law_any_term" = some (some (.ref g8)))
    (l8 : K.lookup g8 = some ⟨oc8, od8, .func (PySem.W.fnOf "_law_any_term" "_law_any_term" (defArgs s__law_any_term) (defBody s__law_any_term) (defScope s__law_any_term) .none kV8 dc8 pm8 an8 cd8 ct8), sl8⟩)
    (c8 : PySem.W.codeIn K cd8 "_law_any_term" = true)
    (k8 : PySem.W.keepIn K (.ref g8) = true)
    (a9 : PySem.W.nsIn K mainGlobals "_law_size" = some (some (.ref g9)))
    (l9 : K.lookup g9 = some ⟨oc9, od9, .func (PySem.W.fnOf "_law_size" "_law_size" (defArgs s__law_size) (defBody s__law_size) (defScope s__law_size) .none kV9 dc9 pm9 an9 cd9 ct9), sl9⟩)
    (c9 : PySem.W.codeIn K cd9 "_law_size" = true)
    (k9 : PySem.W.keepIn K (.ref g9) = true)
    (a10 : PySem.W.nsIn K mainGlobals "_law_invalid_term" = some (some (.ref g10)))
    (l10 : K.lookup g10 = some ⟨oc10, od10, .func (PySem.W.fnOf "_law_invalid_term" "_law_invalid_term" (defArgs s__law_invalid_term) (defBody s__law_invalid_term) (defScope s__law_invalid_term) .none kV10 dc10 pm10 an10 cd10 ct10), sl10⟩)
    (c10 : PySem.W.codeIn K cd10 "_law_invalid_term" = true)
    (k10 : PySem.W.keepIn K (.ref g10) = true)
    (a11 : PySem.W.nsIn K mainGlobals "is_pair" = some (some (.ref g11)))
    (l11 : K.lookup g11 = some ⟨oc11, od11, .func (PySem.W.fnOf "is_pair" "is_pair" (defArgs s_is_pair) (defBody s_is_pair) (defScope s_is_pair) .none kV11 dc11 pm11 an11 cd11 ct11), sl11⟩)
    (c11 : PySem.W.codeIn K cd11 "is_pair" = true)
    (k11 : PySem.W.keepIn K (.ref g11) = true)
    (a12 : PySem.W.nsIn K mainGlobals "is_term" = some (some (.ref g12)))
    (l12 : K.lookup g12 = some ⟨oc12, od12, .func (PySem.W.fnOf "is_term" "is_term" (defArgs s_is_term) (defBody s_is_term) (defScope s_is_term) .none kV12 dc12 pm12 an12 cd12 ct12), sl12⟩)
    (c12 : PySem.W.codeIn K cd12 "is_term" = true)
    (k12 : PySem.W.keepIn K (.ref g12) = true)
    (a13 : PySem.W.nsIn K mainGlobals "check_term" = some (some (.ref g13)))
    (l13 : K.lookup g13 = some ⟨oc13, od13, .func (PySem.W.fnOf "check_term" "check_term" (defArgs s_check_term) (defBody s_check_term) (defScope s_check_term) .none kV13 dc13 pm13 an13 cd13 ct13), sl13⟩)
    (c13 : PySem.W.codeIn K cd13 "check_term" = true)
    (k13 : PySem.W.keepIn K (.ref g13) = true)
    (a14 : PySem.W.nsIn K mainGlobals "generators_in" = some (some (.ref g14)))
    (l14 : K.lookup g14 = some ⟨oc14, od14, .func (PySem.W.fnOf "generators_in" "generators_in" (defArgs s_generators_in) (defBody s_generators_in) (defScope s_generators_in) .none kV14 dc14 pm14 an14 cd14 ct14), sl14⟩)
    (c14 : PySem.W.codeIn K cd14 "generators_in" = true)
    (k14 : PySem.W.keepIn K (.ref g14) = true)
    (a15 : PySem.W.nsIn K mainGlobals "size_of" = some (some (.ref g15)))
    (l15 : K.lookup g15 = some ⟨oc15, od15, .func (PySem.W.fnOf "size_of" "size_of" (defArgs s_size_of) (defBody s_size_of) (defScope s_size_of) .none kV15 dc15 pm15 an15 cd15 ct15), sl15⟩)
    (c15 : PySem.W.codeIn K cd15 "size_of" = true)
    (k15 : PySem.W.keepIn K (.ref g15) = true)
    (a16 : PySem.W.nsIn K mainGlobals "depth_of" = some (some (.ref g16)))
    (l16 : K.lookup g16 = some ⟨oc16, od16, .func (PySem.W.fnOf "depth_of" "depth_of" (defArgs s_depth_of) (defBody s_depth_of) (defScope s_depth_of) .none kV16 dc16 pm16 an16 cd16 ct16), sl16⟩)
    (c16 : PySem.W.codeIn K cd16 "depth_of" = true)
    (k16 : PySem.W.keepIn K (.ref g16) = true)
    (a17 : PySem.W.nsIn K mainGlobals "format_term" = some (some (.ref g17)))
    (l17 : K.lookup g17 = some ⟨oc17, od17, .func (PySem.W.fnOf "format_term" "format_term" (defArgs s_format_term) (defBody s_format_term) (defScope s_format_term) .none kV17 dc17 pm17 an17 cd17 ct17), sl17⟩)
    (c17 : PySem.W.codeIn K cd17 "format_term" = true)
    (k17 : PySem.W.keepIn K (.ref g17) = true)
    (a18 : PySem.W.nsIn K mainGlobals "index_of" = some (some (.ref g18)))
    (l18 : K.lookup g18 = some ⟨oc18, od18, .func (PySem.W.fnOf "index_of" "index_of" (defArgs s_index_of) (defBody s_index_of) (defScope s_index_of) .none kV18 dc18 pm18 an18 cd18 ct18), sl18⟩)
    (c18 : PySem.W.codeIn K cd18 "index_of" = true)
    (k18 : PySem.W.keepIn K (.ref g18) = true)
    (a19 : PySem.W.nsIn K mainGlobals "left_spine" = some (some (.ref g19)))
    (l19 : K.lookup g19 = some ⟨oc19, od19, .func (PySem.W.fnOf "left_spine" "left_spine" (defArgs s_left_spine) (defBody s_left_spine) (defScope s_left_spine) .none kV19 dc19 pm19 an19 cd19 ct19), sl19⟩)
    (c19 : PySem.W.codeIn K cd19 "left_spine" = true)
    (k19 : PySem.W.keepIn K (.ref g19) = true)
    (a20 : PySem.W.nsIn K mainGlobals "compare" = some (some (.ref g20)))
    (l20 : K.lookup g20 = some ⟨oc20, od20, .func (PySem.W.fnOf "compare" "compare" (defArgs s_compare) (defBody s_compare) (defScope s_compare) .none kV20 dc20 pm20 an20 cd20 ct20), sl20⟩)
    (c20 : PySem.W.codeIn K cd20 "compare" = true)
    (k20 : PySem.W.keepIn K (.ref g20) = true)
    (a21 : PySem.W.nsIn K mainGlobals "_law_try" = some (some (.ref g21)))
    (l21 : K.lookup g21 = some ⟨oc21, od21, .func (PySem.W.fnOf "_law_try" "_law_try" (defArgs s__law_try) (defBody s__law_try) (defScope s__law_try) .none kV21 dc21 pm21 an21 cd21 ct21), sl21⟩)
    (c21 : PySem.W.codeIn K cd21 "_law_try" = true)
    (k21 : PySem.W.keepIn K (.ref g21) = true)
    (a22 : PySem.W.nsIn K mainGlobals "law" = some (some (.ref g22)))
    (l22 : K.lookup g22 = some ⟨oc22, od22, .func (PySem.W.fnOf "law" "law" (defArgs s_law) (defBody s_law) (defScope s_law) .none kV22 dc22 pm22 an22 (.ref cL) ct22), sl22⟩)
    (c22 : PySem.W.codeIn K (.ref cL) "law" = true)
    (k22 : PySem.W.keepIn K (.ref g22) = true)
    (z_len : PySem.W.nsIn K mainGlobals "len" = some none)
    (z_list : PySem.W.nsIn K mainGlobals "list" = some none)
    (z_tuple : PySem.W.nsIn K mainGlobals "tuple" = some none)
    (z_dict : PySem.W.nsIn K mainGlobals "dict" = some none)
    (z_bool : PySem.W.nsIn K mainGlobals "bool" = some none)
    (z_isinstance : PySem.W.nsIn K mainGlobals "isinstance" = some none)
    (z_max : PySem.W.nsIn K mainGlobals "max" = some none)
    (z_min : PySem.W.nsIn K mainGlobals "min" = some none)
    (z_range : PySem.W.nsIn K mainGlobals "range" = some none)
    (z_all : PySem.W.nsIn K mainGlobals "all" = some none)
    (z_sorted : PySem.W.nsIn K mainGlobals "sorted" = some none)
    (z_enumerate : PySem.W.nsIn K mainGlobals "enumerate" = some none)
    (z_sum : PySem.W.nsIn K mainGlobals "sum" = some none)
    (z_str : PySem.W.nsIn K mainGlobals "str" = some none)
    (z_int : PySem.W.nsIn K mainGlobals "int" = some none)
    (q_MAX_SIZE : PySem.W.nsIn K mainGlobals "MAX_SIZE" = some (some (.int 12 tc_MAX_SIZE)))
    (q_MAX_DEPTH : PySem.W.nsIn K mainGlobals "MAX_DEPTH" = some (some (.int 6 tc_MAX_DEPTH)))
    (lC : K.lookup cL = some ⟨.type "code", edL, .fields vsL, slL⟩)
    (lP11 : vsL[11]? = some (.ref Pt))
    (nP : K.lookup Pt = none)
    (v18 : vsL.getD 18 .none = .str f18 t18)
    (v7 : vsL.getD 7 .none = .int i7 t7)
    (v9 : vsL.getD 9 .none = .bool b9)
    (v10 : vsL.getD 10 .none = .int i10 t10)
    (vne : (cL != Pt) = true)
    (aT : PySem.W.nsIn K mainGlobals "TermError" = some (some (.ref CT)))
    (ax0 : PySem.W.nsIn K mainGlobals "InvalidTerm" = some (some (.ref x0)))
    (ax1 : PySem.W.nsIn K mainGlobals "InvalidText" = some (some (.ref x1)))
    (ax2 : PySem.W.nsIn K mainGlobals "InvalidPath" = some (some (.ref x2)))
    (ax3 : PySem.W.nsIn K mainGlobals "PathNotFound" = some (some (.ref x3)))
    (ax4 : PySem.W.nsIn K mainGlobals "NotRewritable" = some (some (.ref x4)))
    (ax5 : PySem.W.nsIn K mainGlobals "TooLarge" = some (some (.ref x5)))
    (ax6 : PySem.W.nsIn K mainGlobals "InvalidSize" = some (some (.ref x6)))
    (ax7 : PySem.W.nsIn K mainGlobals "InvalidIndex" = some (some (.ref x7)))
    (ax8 : PySem.W.nsIn K mainGlobals "InvalidWord" = some (some (.ref x8)))
    (ax9 : PySem.W.nsIn K mainGlobals "InvalidStep" = some (some (.ref x9)))
    (ax10 : PySem.W.nsIn K mainGlobals "InvalidElement" = some (some (.ref x10)))
    (ax11 : PySem.W.nsIn K mainGlobals "InvalidModel" = some (some (.ref x11)))
    (ax12 : PySem.W.nsIn K mainGlobals "NestingTooDeep" = some (some (.ref x12)))
    (ax13 : PySem.W.nsIn K mainGlobals "InvalidLabel" = some (some (.ref x13)))
    (ax14 : PySem.W.nsIn K mainGlobals "DuplicateName" = some (some (.ref x14)))
    (ax15 : PySem.W.nsIn K mainGlobals "UnknownName" = some (some (.ref x15)))
    (ax16 : PySem.W.nsIn K mainGlobals "LimitReached" = some (some (.ref x16)))
    (ax17 : PySem.W.nsIn K mainGlobals "InvalidCommand" = some (some (.ref x17)))
    (ax18 : PySem.W.nsIn K mainGlobals "EmptyHistory" = some (some (.ref x18)))
    (ax19 : PySem.W.nsIn K mainGlobals "InvalidSnapshot" = some (some (.ref x19)))
    (ki0 : PySem.W.isClsIn K x0 = true)
    (ky0 : PySem.W.typeIn K (.ref x0) = some (.type "type"))
    (ki1 : PySem.W.isClsIn K x1 = true)
    (ky1 : PySem.W.typeIn K (.ref x1) = some (.type "type"))
    (ki2 : PySem.W.isClsIn K x2 = true)
    (ky2 : PySem.W.typeIn K (.ref x2) = some (.type "type"))
    (ki3 : PySem.W.isClsIn K x3 = true)
    (ky3 : PySem.W.typeIn K (.ref x3) = some (.type "type"))
    (ki4 : PySem.W.isClsIn K x4 = true)
    (ky4 : PySem.W.typeIn K (.ref x4) = some (.type "type"))
    (ki5 : PySem.W.isClsIn K x5 = true)
    (ky5 : PySem.W.typeIn K (.ref x5) = some (.type "type"))
    (ki6 : PySem.W.isClsIn K x6 = true)
    (ky6 : PySem.W.typeIn K (.ref x6) = some (.type "type"))
    (ki7 : PySem.W.isClsIn K x7 = true)
    (ky7 : PySem.W.typeIn K (.ref x7) = some (.type "type"))
    (ki8 : PySem.W.isClsIn K x8 = true)
    (ky8 : PySem.W.typeIn K (.ref x8) = some (.type "type"))
    (ki9 : PySem.W.isClsIn K x9 = true)
    (ky9 : PySem.W.typeIn K (.ref x9) = some (.type "type"))
    (ki10 : PySem.W.isClsIn K x10 = true)
    (ky10 : PySem.W.typeIn K (.ref x10) = some (.type "type"))
    (ki11 : PySem.W.isClsIn K x11 = true)
    (ky11 : PySem.W.typeIn K (.ref x11) = some (.type "type"))
    (ki12 : PySem.W.isClsIn K x12 = true)
    (ky12 : PySem.W.typeIn K (.ref x12) = some (.type "type"))
    (ki13 : PySem.W.isClsIn K x13 = true)
    (ky13 : PySem.W.typeIn K (.ref x13) = some (.type "type"))
    (ki14 : PySem.W.isClsIn K x14 = true)
    (ky14 : PySem.W.typeIn K (.ref x14) = some (.type "type"))
    (ki15 : PySem.W.isClsIn K x15 = true)
    (ky15 : PySem.W.typeIn K (.ref x15) = some (.type "type"))
    (ki16 : PySem.W.isClsIn K x16 = true)
    (ky16 : PySem.W.typeIn K (.ref x16) = some (.type "type"))
    (ki17 : PySem.W.isClsIn K x17 = true)
    (ky17 : PySem.W.typeIn K (.ref x17) = some (.type "type"))
    (ki18 : PySem.W.isClsIn K x18 = true)
    (ky18 : PySem.W.typeIn K (.ref x18) = some (.type "type"))
    (ki19 : PySem.W.isClsIn K x19 = true)
    (ky19 : PySem.W.typeIn K (.ref x19) = some (.type "type"))
    (xn : PySem.W.specialIn K (.builtin "object.__class__") "__get__" = some (some (.builtin "getset_descriptor.__get__")))
    (xt : PySem.W.takesIn K (.builtin "object.__class__") = some true)
    (ye : PySem.W.subIn K (.ref CT) (.type "BaseException") = some true)
    (yd : PySem.W.hasDictIn K CT = true)
    (yt : PySem.W.typeIn K (.ref CT) = some (.type "type"))
    (kn0_1 : (Value.ref x0 == Value.ref x1) = false)
    (ks0_1 : PySem.W.subIn K (.ref x0) (.ref x1) = some false)
    (kn0_2 : (Value.ref x0 == Value.ref x2) = false)
    (ks0_2 : PySem.W.subIn K (.ref x0) (.ref x2) = some false)
    (kn0_3 : (Value.ref x0 == Value.ref x3) = false)
    (ks0_3 : PySem.W.subIn K (.ref x0) (.ref x3) = some false)
    (kn0_4 : (Value.ref x0 == Value.ref x4) = false)
    (ks0_4 : PySem.W.subIn K (.ref x0) (.ref x4) = some false)
    (kn0_5 : (Value.ref x0 == Value.ref x5) = false)
    (ks0_5 : PySem.W.subIn K (.ref x0) (.ref x5) = some false)
    (kn0_6 : (Value.ref x0 == Value.ref x6) = false)
    (ks0_6 : PySem.W.subIn K (.ref x0) (.ref x6) = some false)
    (kn0_7 : (Value.ref x0 == Value.ref x7) = false)
    (ks0_7 : PySem.W.subIn K (.ref x0) (.ref x7) = some false)
    (kn0_8 : (Value.ref x0 == Value.ref x8) = false)
    (ks0_8 : PySem.W.subIn K (.ref x0) (.ref x8) = some false)
    (kn0_9 : (Value.ref x0 == Value.ref x9) = false)
    (ks0_9 : PySem.W.subIn K (.ref x0) (.ref x9) = some false)
    (kn0_10 : (Value.ref x0 == Value.ref x10) = false)
    (ks0_10 : PySem.W.subIn K (.ref x0) (.ref x10) = some false)
    (kn0_11 : (Value.ref x0 == Value.ref x11) = false)
    (ks0_11 : PySem.W.subIn K (.ref x0) (.ref x11) = some false)
    (kn0_12 : (Value.ref x0 == Value.ref x12) = false)
    (ks0_12 : PySem.W.subIn K (.ref x0) (.ref x12) = some false)
    (kn0_13 : (Value.ref x0 == Value.ref x13) = false)
    (ks0_13 : PySem.W.subIn K (.ref x0) (.ref x13) = some false)
    (kn0_14 : (Value.ref x0 == Value.ref x14) = false)
    (ks0_14 : PySem.W.subIn K (.ref x0) (.ref x14) = some false)
    (kn0_15 : (Value.ref x0 == Value.ref x15) = false)
    (ks0_15 : PySem.W.subIn K (.ref x0) (.ref x15) = some false)
    (kn0_16 : (Value.ref x0 == Value.ref x16) = false)
    (ks0_16 : PySem.W.subIn K (.ref x0) (.ref x16) = some false)
    (kn0_17 : (Value.ref x0 == Value.ref x17) = false)
    (ks0_17 : PySem.W.subIn K (.ref x0) (.ref x17) = some false)
    (kn0_18 : (Value.ref x0 == Value.ref x18) = false)
    (ks0_18 : PySem.W.subIn K (.ref x0) (.ref x18) = some false)
    (kn0_19 : (Value.ref x0 == Value.ref x19) = false)
    (ks0_19 : PySem.W.subIn K (.ref x0) (.ref x19) = some false)
    (xg0 : PySem.W.findIn K (.ref x0) "__getattribute__" = some (some (.builtin "BaseException.__getattribute__")))
    (xk0 : PySem.W.findIn K (.ref x0) "__getattr__" = some none)
    (xd0 : PySem.W.hasDictIn K x0 = true)
    (xa0 : PySem.W.findIn K (.ref x0) "__class__" = some (some (.builtin "object.__class__")))
    (xm0 : PySem.W.mroIn K x0 (.type "object") = some true)
    (ys0 : PySem.W.subIn K (.ref x0) (.ref CT) = some true)
    (xs0 : PySem.W.subIn K (.ref x0) (.type "BaseException") = some true)
    (xq0 : PySem.W.excIn K x0 [.type "ValueError", .type "Exception", .type "BaseException", .type "object"] "ValueError.__new__" = true)
    (xkp0 : PySem.W.keepIn K (.ref x0) = true) (own : LamX.OwnTab K fa h) :
    LamX.LawAtS l w K CX0 64 63 "_law_script" mg fa h := by
  have e := hfa.symm.trans (PySem.W.mg_of X G a22)
  cases e
  have F0 := fun_mk (st := s__law_draws) l0 c0 k0
  have d__law_draws : D K mg "_law_draws" s__law_draws ["_law_script"] _ _ := ⟨F0, F0.binds (ps := ["_law_script"]) fun _ _ _ _ _ _ us hl => match us, hl with | [_], _ => rfl, PySem.W.mg_of X G a0⟩
  have F1 := fun_mk (st := s__law_draw) l1 c1 k1
  have d__law_draw : D K mg "_law_draw" s__law_draw ["_law_rng", "_law_amount"] _ _ := ⟨F1, F1.binds (ps := ["_law_rng", "_law_amount"]) fun _ _ _ _ _ _ us hl => match us, hl with | [_, _], _ => rfl, PySem.W.mg_of X G a1⟩
  have F2 := fun_mk (st := s__law_pick) l2 c2 k2
  have d__law_pick : D K mg "_law_pick" s__law_pick ["_law_rng", "_law_terms"] _ _ := ⟨F2, F2.binds (ps := ["_law_rng", "_law_terms"]) fun _ _ _ _ _ _ us hl => match us, hl with | [_, _], _ => rfl, PySem.W.mg_of X G a2⟩
  have F3 := fun_mk (st := s__law_same) l3 c3 k3
  have d__law_same : D K mg "_law_same" s__law_same ["_law_result", "_law_expected"] _ _ := ⟨F3, F3.binds (ps := ["_law_result", "_law_expected"]) fun _ _ _ _ _ _ us hl => match us, hl with | [_, _], _ => rfl, PySem.W.mg_of X G a3⟩
  have F4 := fun_mk (st := s__law_error_name) l4 c4 k4
  have d__law_error_name : D K mg "_law_error_name" s__law_error_name ["_law_e"] _ _ := ⟨F4, F4.binds (ps := ["_law_e"]) fun _ _ _ _ _ _ us hl => match us, hl with | [_], _ => rfl, PySem.W.mg_of X G a4⟩
  have F5 := fun_mk (st := s__law_error_field) l5 c5 k5
  have d__law_error_field : D K mg "_law_error_field" s__law_error_field ["_law_e", "_law_word"] _ _ := ⟨F5, F5.binds (ps := ["_law_e", "_law_word"]) fun _ _ _ _ _ _ us hl => match us, hl with | [_, _], _ => rfl, PySem.W.mg_of X G a5⟩
  have F6 := fun_mk (st := s__law_comb) l6 c6 k6
  have d__law_comb : D K mg "_law_comb" s__law_comb ["_law_many", "_law_onleft"] _ _ := ⟨F6, F6.binds (ps := ["_law_many", "_law_onleft"]) fun _ _ _ _ _ _ us hl => match us, hl with | [_, _], _ => rfl, PySem.W.mg_of X G a6⟩
  have F7 := fun_mk (st := s__law_term) l7 c7 k7
  have d__law_term : D K mg "_law_term" s__law_term ["_law_rng", "_law_many", "_law_cap"] _ _ := ⟨F7, F7.binds (ps := ["_law_rng", "_law_many", "_law_cap"]) fun _ _ _ _ _ _ us hl => match us, hl with | [_, _, _], _ => rfl, PySem.W.mg_of X G a7⟩
  have F8 := fun_mk (st := s__law_any_term) l8 c8 k8
  have d__law_any_term : D K mg "_law_any_term" s__law_any_term ["_law_rng", "_law_top"] _ _ := ⟨F8, F8.binds (ps := ["_law_rng", "_law_top"]) fun _ _ _ _ _ _ us hl => match us, hl with | [_, _], _ => rfl, PySem.W.mg_of X G a8⟩
  have F9 := fun_mk (st := s__law_size) l9 c9 k9
  have d__law_size : D K mg "_law_size" s__law_size ["_law_term_here"] _ _ := ⟨F9, F9.binds (ps := ["_law_term_here"]) fun _ _ _ _ _ _ us hl => match us, hl with | [_], _ => rfl, PySem.W.mg_of X G a9⟩
  have F10 := fun_mk (st := s__law_invalid_term) l10 c10 k10
  have d__law_invalid_term : D K mg "_law_invalid_term" s__law_invalid_term ["_law_rng"] _ _ := ⟨F10, F10.binds (ps := ["_law_rng"]) fun _ _ _ _ _ _ us hl => match us, hl with | [_], _ => rfl, PySem.W.mg_of X G a10⟩
  have F11 := fun_mk (st := s_is_pair) l11 c11 k11
  have d_is_pair : D K mg "is_pair" s_is_pair ["part"] _ _ := ⟨F11, F11.binds (ps := ["part"]) fun _ _ _ _ _ _ us hl => match us, hl with | [_], _ => rfl, PySem.W.mg_of X G a11⟩
  have F12 := fun_mk (st := s_is_term) l12 c12 k12
  have d_is_term : D K mg "is_term" s_is_term ["term"] _ _ := ⟨F12, F12.binds (ps := ["term"]) fun _ _ _ _ _ _ us hl => match us, hl with | [_], _ => rfl, PySem.W.mg_of X G a12⟩
  have F13 := fun_mk (st := s_check_term) l13 c13 k13
  have d_check_term : D K mg "check_term" s_check_term ["term"] _ _ := ⟨F13, F13.binds (ps := ["term"]) fun _ _ _ _ _ _ us hl => match us, hl with | [_], _ => rfl, PySem.W.mg_of X G a13⟩
  have F14 := fun_mk (st := s_generators_in) l14 c14 k14
  have d_generators_in : D K mg "generators_in" s_generators_in ["term"] _ _ := ⟨F14, F14.binds (ps := ["term"]) fun _ _ _ _ _ _ us hl => match us, hl with | [_], _ => rfl, PySem.W.mg_of X G a14⟩
  have F15 := fun_mk (st := s_size_of) l15 c15 k15
  have d_size_of : D K mg "size_of" s_size_of ["term"] _ _ := ⟨F15, F15.binds (ps := ["term"]) fun _ _ _ _ _ _ us hl => match us, hl with | [_], _ => rfl, PySem.W.mg_of X G a15⟩
  have F16 := fun_mk (st := s_depth_of) l16 c16 k16
  have d_depth_of : D K mg "depth_of" s_depth_of ["term"] _ _ := ⟨F16, F16.binds (ps := ["term"]) fun _ _ _ _ _ _ us hl => match us, hl with | [_], _ => rfl, PySem.W.mg_of X G a16⟩
  have F17 := fun_mk (st := s_format_term) l17 c17 k17
  have d_format_term : D K mg "format_term" s_format_term ["term"] _ _ := ⟨F17, F17.binds (ps := ["term"]) fun _ _ _ _ _ _ us hl => match us, hl with | [_], _ => rfl, PySem.W.mg_of X G a17⟩
  have F18 := fun_mk (st := s_index_of) l18 c18 k18
  have d_index_of : D K mg "index_of" s_index_of ["term"] _ _ := ⟨F18, F18.binds (ps := ["term"]) fun _ _ _ _ _ _ us hl => match us, hl with | [_], _ => rfl, PySem.W.mg_of X G a18⟩
  have F19 := fun_mk (st := s_left_spine) l19 c19 k19
  have d_left_spine : D K mg "left_spine" s_left_spine ["term"] _ _ := ⟨F19, F19.binds (ps := ["term"]) fun _ _ _ _ _ _ us hl => match us, hl with | [_], _ => rfl, PySem.W.mg_of X G a19⟩
  have F20 := fun_mk (st := s_compare) l20 c20 k20
  have d_compare : D K mg "compare" s_compare ["one", "other"] _ _ := ⟨F20, F20.binds (ps := ["one", "other"]) fun _ _ _ _ _ _ us hl => match us, hl with | [_, _], _ => rfl, PySem.W.mg_of X G a20⟩
  have F21 := fun_mk (st := s__law_try) l21 c21 k21
  have d__law_try : D K mg "_law_try" s__law_try ["_law_ask"] _ _ := ⟨F21, F21.binds (ps := ["_law_ask"]) fun _ _ _ _ _ _ us hl => match us, hl with | [_], _ => rfl, PySem.W.mg_of X G a21⟩
  have B : Blt mg := ⟨PySem.W.mg_none_of X G z_len, PySem.W.mg_none_of X G z_list, PySem.W.mg_none_of X G z_tuple, PySem.W.mg_none_of X G z_dict, PySem.W.mg_none_of X G z_bool, PySem.W.mg_none_of X G z_isinstance, PySem.W.mg_none_of X G z_max, PySem.W.mg_none_of X G z_min, PySem.W.mg_none_of X G z_range, PySem.W.mg_none_of X G z_all, PySem.W.mg_none_of X G z_sorted, PySem.W.mg_none_of X G z_enumerate, PySem.W.mg_none_of X G z_sum, PySem.W.mg_none_of X G z_str, PySem.W.mg_none_of X G z_int⟩
  have M : Errs mg (fun i => [x0, x1, x2, x3, x4, x5, x6, x7, x8, x9, x10, x11, x12, x13, x14, x15, x16, x17, x18, x19].getD i 0) := fun i hi => by
    match i, hi with
    | 0, _ => exact PySem.W.mg_of X G ax0
    | 1, _ => exact PySem.W.mg_of X G ax1
    | 2, _ => exact PySem.W.mg_of X G ax2
    | 3, _ => exact PySem.W.mg_of X G ax3
    | 4, _ => exact PySem.W.mg_of X G ax4
    | 5, _ => exact PySem.W.mg_of X G ax5
    | 6, _ => exact PySem.W.mg_of X G ax6
    | 7, _ => exact PySem.W.mg_of X G ax7
    | 8, _ => exact PySem.W.mg_of X G ax8
    | 9, _ => exact PySem.W.mg_of X G ax9
    | 10, _ => exact PySem.W.mg_of X G ax10
    | 11, _ => exact PySem.W.mg_of X G ax11
    | 12, _ => exact PySem.W.mg_of X G ax12
    | 13, _ => exact PySem.W.mg_of X G ax13
    | 14, _ => exact PySem.W.mg_of X G ax14
    | 15, _ => exact PySem.W.mg_of X G ax15
    | 16, _ => exact PySem.W.mg_of X G ax16
    | 17, _ => exact PySem.W.mg_of X G ax17
    | 18, _ => exact PySem.W.mg_of X G ax18
    | 19, _ => exact PySem.W.mg_of X G ax19
    | (k + 20), hi => exact absurd hi (by omega)
  have hI0 : Isw K (fun i => [x0, x1, x2, x3, x4, x5, x6, x7, x8, x9, x10, x11, x12, x13, x14, x15, x16, x17, x18, x19].getD i 0) x0 0 := ⟨by decide, fun i hi => by
    match i, hi with
    | 0, _ => exact if_pos (beq_self_eq_true _)
    | 1, _ => exact kit_own kn0_1 ki1 ky1 ks0_1
    | 2, _ => exact kit_own kn0_2 ki2 ky2 ks0_2
    | 3, _ => exact kit_own kn0_3 ki3 ky3 ks0_3
    | 4, _ => exact kit_own kn0_4 ki4 ky4 ks0_4
    | 5, _ => exact kit_own kn0_5 ki5 ky5 ks0_5
    | 6, _ => exact kit_own kn0_6 ki6 ky6 ks0_6
    | 7, _ => exact kit_own kn0_7 ki7 ky7 ks0_7
    | 8, _ => exact kit_own kn0_8 ki8 ky8 ks0_8
    | 9, _ => exact kit_own kn0_9 ki9 ky9 ks0_9
    | 10, _ => exact kit_own kn0_10 ki10 ky10 ks0_10
    | 11, _ => exact kit_own kn0_11 ki11 ky11 ks0_11
    | 12, _ => exact kit_own kn0_12 ki12 ky12 ks0_12
    | 13, _ => exact kit_own kn0_13 ki13 ky13 ks0_13
    | 14, _ => exact kit_own kn0_14 ki14 ky14 ks0_14
    | 15, _ => exact kit_own kn0_15 ki15 ky15 ks0_15
    | 16, _ => exact kit_own kn0_16 ki16 ky16 ks0_16
    | 17, _ => exact kit_own kn0_17 ki17 ky17 ks0_17
    | 18, _ => exact kit_own kn0_18 ki18 ky18 ks0_18
    | 19, _ => exact kit_own kn0_19 ki19 ky19 ks0_19
    | (k + 20), hi => exact absurd hi (by omega)⟩
  have hW0 : Wd K CT x0 none := ⟨⟨xg0, xk0, xs0, xd0, xa0, xn, xt, xm0⟩, rfl, PySem.W.exm_ref ye yd yt ys0⟩
  have EC0 : ErrC K mg "InvalidTerm" x0 := ⟨xq0, PySem.W.mg_of X G ax0, xkp0, xs0, ky0⟩
  have hwd : ∀ (D : Addr) (nm : Str), (if D = x0 then some (en 0) else none) = some nm → ∃ j, Isw K (fun i => [x0, x1, x2, x3, x4, x5, x6, x7, x8, x9, x10, x11, x12, x13, x14, x15, x16, x17, x18, x19].getD i 0) D j ∧ plainErr j = true ∧ nm = en j := by
    intro D nm z
    by_cases e0 : D = x0
    · rw [if_pos e0] at z
      exact ⟨0, e0 ▸ hI0, by decide +kernel, (Option.some.inj z).symm⟩
    rw [if_neg e0] at z
    cases z
  have ww0 : (if x0 = x0 then some (en 0) else none) = some (en 0) := by
    exact if_pos rfl
  have hT := own cL Pt _ _ _ _ _ _ l22 rfl rfl lC lP11
  refine ⟨PySem.W.fnOf "law" "law" (defArgs s_law) (defBody s_law) (defScope s_law) .none kV22 dc22 pm22 an22 (.ref cL) ct22, [(cL, Pt)], spLawT K Pt, ?_, ?_, ?_, fun s v => .of_eq rfl, fun H a ns hl hb hH hS => ⟨a, ns, rfl, hS, hH _ (List.mem_singleton.mpr rfl), fun _ => rfl⟩, fun base _ _ hTB => ?_⟩
  · intro p hp
    rw [List.mem_singleton.mp hp]
    exact hT
  · intro p hp
    rw [List.mem_singleton.mp hp]
    exact nP
  · intro p hp
    rw [List.mem_singleton.mp hp]
    exact PySem.W.codeHd_of_K X (codeHd_mk lC lP11 v18 v7 v9 v10 vne)
  · exact ok_law (word := (fun D => if D = x0 then some (en 0) else none)) (fld := fun _ _ _ v => v = .non) l22 c22 (hTB _ (List.mem_singleton.mpr rfl)) B ⟨⟨_, PySem.W.mg_of X G q_MAX_SIZE⟩, ⟨_, PySem.W.mg_of X G q_MAX_DEPTH⟩⟩ hwd ww0 rfl M hW0 EC0 (PySem.W.mg_of X G aT) d__law_draws d__law_draw d__law_pick d__law_same d__law_error_name d__law_error_field d__law_try d__law_comb d__law_term d__law_any_term d__law_size d__law_invalid_term d_is_pair d_is_term d_check_term d_generators_in d_size_of d_depth_of d_format_term d_index_of d_left_spine d_compare
theorem walk {l : PySem.W.OpenLaw} {q : Program} {loose : List Str} {XP : (Str → Option Value) → Heap → Prop} {YP : World → Heap → Prop} {d : DefRec} {K : Params → PySem.W.Frag} (hn : l.most = some 63) (hdf : d.params.defaults = []) (hrec : ((recsOf q).any fun e => e.name == d.name) = true)
    (hY : ∀ (w : World) (h : Heap), YP w h → (K w.params).In h)
    (F : ∀ (w : World) (mg : Str → Option Value) (fa : Addr) (h : Heap), YP w h → (K w.params).In h → h.Ns mainGlobals mg → mg d.name = some (.ref fa) → LamX.OwnTab (K w.params) fa h → LamX.LawAtS l w (K w.params) CX0 64 63 "_law_script" mg fa h) :
    PySem.W.WalkO q loose XP YP l.row.toRowW d [] (fun f vs => PySem.call f vs) :=
  LamX.walk_ofOwn (n := 63) (k := 64) (x := "_law_script") (CX := fun _ => CX0) hn (by decide) hdf ⟨rfl, by decide, by decide⟩ hrec hY F fun _ _ _ _ _ z => z
end U
open PySem PySem.W PyProof.Rows
set_option maxRecDepth 100000 in
set_option maxHeartbeats 0 in
theorem PySem.Challenge.cw_uponboth_k03_valid_terms_holds : PySem.Challenge.rw_uponboth_k03_valid_terms.Holds := by
  w_on; o_law; k_head; (case hw => w_witness2)
  k_fill
  refine U.walk (l := PySem.Challenge.rw_uponboth_k03_valid_terms) rfl rfl ?hrec (fun w h Y => PySem.W.km_in_of Y) ?F
  case hrec => decide +kernel
  case F =>
    intro w mg fa h Y KX G hmg own
    refine' U.all_mk KX G hmg ?a0 ?l0 ?c0 ?k0 ?a1 ?l1 ?c1 ?k1 ?a2 ?l2 ?c2 ?k2 ?a3 ?l3 ?c3 ?k3 ?a4 ?l4 ?c4 ?k4 ?a5 ?l5 ?c5 ?k5 ?a6 ?l6 ?c6 ?k6 ?a7 ?l7 ?c7 ?k7 ?a8 ?l8 ?c8 ?k8 ?a9 ?l9 ?c9 ?k9 ?a10 ?l10 ?c10 ?k10 ?a11 ?l11 ?c11 ?k11 ?a12 ?l12 ?c12 ?k12 ?a13 ?l13 ?c13 ?k13 ?a14 ?l14 ?c14 ?k14 ?a15 ?l15 ?c15 ?k15 ?a16 ?l16 ?c16 ?k16 ?a17 ?l17 ?c17 ?k17 ?a18 ?l18 ?c18 ?k18 ?a19 ?l19 ?c19 ?k19 ?a20 ?l20 ?c20 ?k20 ?a21 ?l21 ?c21 ?k21 ?a22 ?l22 ?c22 ?k22 ?z_len ?z_list ?z_tuple ?z_dict ?z_bool ?z_isinstance ?z_max ?z_min ?z_range ?z_all ?z_sorted ?z_enumerate ?z_sum ?z_str ?z_int ?q_MAX_SIZE ?q_MAX_DEPTH ?lC ?lP11 ?nP ?v18 ?v7 ?v9 ?v10 ?vne ?aT ?ax0 ?ax1 ?ax2 ?ax3 ?ax4 ?ax5 ?ax6 ?ax7 ?ax8 ?ax9 ?ax10 ?ax11 ?ax12 ?ax13 ?ax14 ?ax15 ?ax16 ?ax17 ?ax18 ?ax19 ?ki0 ?ky0 ?ki1 ?ky1 ?ki2 ?ky2 ?ki3 ?ky3 ?ki4 ?ky4 ?ki5 ?ky5 ?ki6 ?ky6 ?ki7 ?ky7 ?ki8 ?ky8 ?ki9 ?ky9 ?ki10 ?ky10 ?ki11 ?ky11 ?ki12 ?ky12 ?ki13 ?ky13 ?ki14 ?ky14 ?ki15 ?ky15 ?ki16 ?ky16 ?ki17 ?ky17 ?ki18 ?ky18 ?ki19 ?ky19 ?xn ?xt ?ye ?yd ?yt ?kn0_1 ?ks0_1 ?kn0_2 ?ks0_2 ?kn0_3 ?ks0_3 ?kn0_4 ?ks0_4 ?kn0_5 ?ks0_5 ?kn0_6 ?ks0_6 ?kn0_7 ?ks0_7 ?kn0_8 ?ks0_8 ?kn0_9 ?ks0_9 ?kn0_10 ?ks0_10 ?kn0_11 ?ks0_11 ?kn0_12 ?ks0_12 ?kn0_13 ?ks0_13 ?kn0_14 ?ks0_14 ?kn0_15 ?ks0_15 ?kn0_16 ?ks0_16 ?kn0_17 ?ks0_17 ?kn0_18 ?ks0_18 ?kn0_19 ?ks0_19 ?xg0 ?xk0 ?xd0 ?xa0 ?xm0 ?ys0 ?xs0 ?xq0 ?xkp0 own
    (case a0 => k_is)
    (case l0 => k_is)
    (case c0 => k_is)
    (case k0 => k_is)
    (case a1 => k_is)
    (case l1 => k_is)
    (case c1 => k_is)
    (case k1 => k_is)
    (case a2 => k_is)
    (case l2 => k_is)
    (case c2 => k_is)
    (case k2 => k_is)
    (case a3 => k_is)
    (case l3 => k_is)
    (case c3 => k_is)
    (case k3 => k_is)
    (case a4 => k_is)
    (case l4 => k_is)
    (case c4 => k_is)
    (case k4 => k_is)
    (case a5 => k_is)
    (case l5 => k_is)
    (case c5 => k_is)
    (case k5 => k_is)
    (case a6 => k_is)
    (case l6 => k_is)
    (case c6 => k_is)
    (case k6 => k_is)
    (case a7 => k_is)
    (case l7 => k_is)
    (case c7 => k_is)
    (case k7 => k_is)
    (case a8 => k_is)
    (case l8 => k_is)
    (case c8 => k_is)
    (case k8 => k_is)
    (case a9 => k_is)
    (case l9 => k_is)
    (case c9 => k_is)
    (case k9 => k_is)
    (case a10 => k_is)
    (case l10 => k_is)
    (case c10 => k_is)
    (case k10 => k_is)
    (case a11 => k_is)
    (case l11 => k_is)
    (case c11 => k_is)
    (case k11 => k_is)
    (case a12 => k_is)
    (case l12 => k_is)
    (case c12 => k_is)
    (case k12 => k_is)
    (case a13 => k_is)
    (case l13 => k_is)
    (case c13 => k_is)
    (case k13 => k_is)
    (case a14 => k_is)
    (case l14 => k_is)
    (case c14 => k_is)
    (case k14 => k_is)
    (case a15 => k_is)
    (case l15 => k_is)
    (case c15 => k_is)
    (case k15 => k_is)
    (case a16 => k_is)
    (case l16 => k_is)
    (case c16 => k_is)
    (case k16 => k_is)
    (case a17 => k_is)
    (case l17 => k_is)
    (case c17 => k_is)
    (case k17 => k_is)
    (case a18 => k_is)
    (case l18 => k_is)
    (case c18 => k_is)
    (case k18 => k_is)
    (case a19 => k_is)
    (case l19 => k_is)
    (case c19 => k_is)
    (case k19 => k_is)
    (case a20 => k_is)
    (case l20 => k_is)
    (case c20 => k_is)
    (case k20 => k_is)
    (case a21 => k_is)
    (case l21 => k_is)
    (case c21 => k_is)
    (case k21 => k_is)
    (case a22 => k_is)
    (case l22 => k_is)
    (case c22 => k_is)
    (case k22 => k_is)
    (case z_len => k_is)
    (case z_list => k_is)
    (case z_tuple => k_is)
    (case z_dict => k_is)
    (case z_bool => k_is)
    (case z_isinstance => k_is)
    (case z_max => k_is)
    (case z_min => k_is)
    (case z_range => k_is)
    (case z_all => k_is)
    (case z_sorted => k_is)
    (case z_enumerate => k_is)
    (case z_sum => k_is)
    (case z_str => k_is)
    (case z_int => k_is)
    (case q_MAX_SIZE => k_is)
    (case q_MAX_DEPTH => k_is)
    (case lC => k_is)
    (case lP11 => rfl)
    (case nP => (first | rfl | with_unfolding_all rfl | decide +revert))
    (case v18 => rfl)
    (case v7 => rfl)
    (case v9 => rfl)
    (case v10 => rfl)
    (case vne => rfl)
    (case aT => k_is)
    (case ax0 => k_is)
    (case ax1 => k_is)
    (case ax2 => k_is)
    (case ax3 => k_is)
    (case ax4 => k_is)
    (case ax5 => k_is)
    (case ax6 => k_is)
    (case ax7 => k_is)
    (case ax8 => k_is)
    (case ax9 => k_is)
    (case ax10 => k_is)
    (case ax11 => k_is)
    (case ax12 => k_is)
    (case ax13 => k_is)
    (case ax14 => k_is)
    (case ax15 => k_is)
    (case ax16 => k_is)
    (case ax17 => k_is)
    (case ax18 => k_is)
    (case ax19 => k_is)
    (case ki0 => k_is)
    (case ky0 => k_is)
    (case ki1 => k_is)
    (case ky1 => k_is)
    (case ki2 => k_is)
    (case ky2 => k_is)
    (case ki3 => k_is)
    (case ky3 => k_is)
    (case ki4 => k_is)
    (case ky4 => k_is)
    (case ki5 => k_is)
    (case ky5 => k_is)
    (case ki6 => k_is)
    (case ky6 => k_is)
    (case ki7 => k_is)
    (case ky7 => k_is)
    (case ki8 => k_is)
    (case ky8 => k_is)
    (case ki9 => k_is)
    (case ky9 => k_is)
    (case ki10 => k_is)
    (case ky10 => k_is)
    (case ki11 => k_is)
    (case ky11 => k_is)
    (case ki12 => k_is)
    (case ky12 => k_is)
    (case ki13 => k_is)
    (case ky13 => k_is)
    (case ki14 => k_is)
    (case ky14 => k_is)
    (case ki15 => k_is)
    (case ky15 => k_is)
    (case ki16 => k_is)
    (case ky16 => k_is)
    (case ki17 => k_is)
    (case ky17 => k_is)
    (case ki18 => k_is)
    (case ky18 => k_is)
    (case ki19 => k_is)
    (case ky19 => k_is)
    (case xn => k_is)
    (case xt => k_is)
    (case ye => k_is)
    (case yd => k_is)
    (case yt => k_is)
    (case kn0_1 => rfl)
    (case ks0_1 => k_is)
    (case kn0_2 => rfl)
    (case ks0_2 => k_is)
    (case kn0_3 => rfl)
    (case ks0_3 => k_is)
    (case kn0_4 => rfl)
    (case ks0_4 => k_is)
    (case kn0_5 => rfl)
    (case ks0_5 => k_is)
    (case kn0_6 => rfl)
    (case ks0_6 => k_is)
    (case kn0_7 => rfl)
    (case ks0_7 => k_is)
    (case kn0_8 => rfl)
    (case ks0_8 => k_is)
    (case kn0_9 => rfl)
    (case ks0_9 => k_is)
    (case kn0_10 => rfl)
    (case ks0_10 => k_is)
    (case kn0_11 => rfl)
    (case ks0_11 => k_is)
    (case kn0_12 => rfl)
    (case ks0_12 => k_is)
    (case kn0_13 => rfl)
    (case ks0_13 => k_is)
    (case kn0_14 => rfl)
    (case ks0_14 => k_is)
    (case kn0_15 => rfl)
    (case ks0_15 => k_is)
    (case kn0_16 => rfl)
    (case ks0_16 => k_is)
    (case kn0_17 => rfl)
    (case ks0_17 => k_is)
    (case kn0_18 => rfl)
    (case ks0_18 => k_is)
    (case kn0_19 => rfl)
    (case ks0_19 => k_is)
    (case xg0 => k_is)
    (case xk0 => k_is)
    (case xd0 => k_is)
    (case xa0 => k_is)
    (case xm0 => k_is)
    (case ys0 => k_is)
    (case xs0 => k_is)
    (case xq0 => k_exc)
    (case xkp0 => k_is)
