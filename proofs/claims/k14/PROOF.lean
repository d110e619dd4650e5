import PyProof.Rows.All
import Wide.All
import OpenK.AllK
import Wide.FinOn
import HandS.Base
import HandS.Call
import HandS.List
import HandS.Comp
import HandS.Ends
import HandS.Words
import HandS.WordsList
import HandS.IsInst
import HandS.Codes
import HandS.ForMost
import HandS.ForExc
import HandS.FStr
import HandS.Style
import HandS.Hot
import HandS.HotCalls
import HandS.Lambda
import HandS.ExcIs
import HandS.Rev
import HandS.More
import HandS.StrMore
import PyProof.StrBlock2
import PyProof.FactsAll.list_3
import HandS.TupAny
import HandS.TupMul
import HandS.Defaults
import KE.KRevSl
import KE.KDflt
import KE.GoesMore
import HandS.EndTab
import HandS.EndOwn
import KE.KNestM
import HandS.ExcOwn
import HandS.ExcInit
import HandS.ExcField
import KE.KExcSuper
import KE.KExcIs
import KE.RegKSuper
import HandS.Dict
import HandS.More
import HandS.Conv
import HandS.DictComp
import HandS.Walk
import HandS.Keys
import KE.KDictOf
import KE.SortKeyHeap
import KE.DataCmp
import HandS.SortKw
import HandS.Nested
import KE.SortData
import HandS.Iter
import HandS.Deep
import HandS.WordsDict
import HandS.SuiteRaise
import HandS.RaiseFrom
import HandS.TryOnly
import HandS.TryMany
import HandS.ExcInitHot
import HandS.CallSlots
import PySem.Challenge.RW_uponboth_k14_expansion_lists
set_option Elab.async false
set_option linter.all false
set_option maxRecDepth 100000
set_option maxHeartbeats 4000000
namespace U
open PySem L2
/-! ### what stands behind the top: a def by its name; the built-in names -/
structure D (K : PySem.W.Frag) (mg : Str → Option Value) (x : Str) (st : Stmt) (ps : List Str) (f : Addr) (fd : FuncData) : Prop where
  F : Fun K x x st f fd
  b : Binds K fd ps []
  m : mg x = some (.ref f)

/-! ### trees -/
inductive Tree where
  | L
  | N (l r : Tree)
namespace Tree
def sz : Tree → Nat
  | L => 1
  | N l r => sz l + sz r
def dp : Tree → Nat
  | L => 0
  | N l r => max (dp l) (dp r) + 1
def d : Tree → PyData
  | L => .tuple []
  | N l r => .tuple [d l, d r]
theorem sz_pos : ∀ t : Tree, 0 < t.sz
  | L => Nat.zero_lt_one
  | N l r => by
    have h := sz_pos l
    show 0 < l.sz + r.sz
    omega
theorem d_lay : ∀ t : Tree, t.d.canLay0 = true
  | L => rfl
  | N l r => by
    show ((PyData.canLay0 l.d) && ((PyData.canLay0 r.d) && true)) = true
    rw [d_lay l, d_lay r]
    rfl
theorem d_depth : ∀ t : Tree, t.d.depth = t.dp + 1
  | L => rfl
  | N l r => by
    show max l.d.depth (max r.d.depth 0) + 1 = max l.dp r.dp + 1 + 1
    rw [d_depth l, d_depth r]
    omega
theorem shaped {t : Tree} (h : t.dp ≤ 63) : SeqAt.shaped t.d = true := by
  unfold SeqAt.shaped
  rw [d_lay, d_depth, decide_eq_true (by omega)]
  rfl
def isL : Tree → Bool
  | L => true
  | N _ _ => false
theorem eqvL (t : Tree) : PyData.eqv t.d (.tuple []) = t.isL := by cases t <;> rfl
end Tree
abbrev TA (K : PySem.W.Frag) (H : Hp) (v : V) (t : Tree) : Prop := Dp K H v t.d
theorem shapedE : SeqAt.shaped (.tuple []) = true := by decide +kernel

/-! ### heaps: what is a tuple stays one -/
def Tp (H H' : Hp) : Prop := ∀ b xs, Rd H b (.tup xs) → Rd H' b (.tup xs)
theorem Tp.refl (H : Hp) : Tp H H := fun _ _ h => h
theorem Tp.trans {H H1 H2 : Hp} (a : Tp H H1) (b : Tp H1 H2) : Tp H H2 := fun c o h => b c o (a c o h)
theorem Tp.same {H H' : Hp} (e : Same H H') : Tp H H' := fun b xs h => by
  rcases h with h | ⟨o, h⟩
  · exact .inl (e _ _ h)
  · exact .inr ⟨o, e _ _ h⟩
def But (r : Addr) (H H' : Hp) : Prop := ∀ b o, b ≠ r → H b = some o → H' b = some o
theorem But.trans {r : Addr} {H H1 H2 : Hp} (a : But r H H1) (b : But r H1 H2) : But r H H2 := fun c o n h => b c o n (a c o n h)
theorem But.same {r : Addr} {H H' : Hp} (e : Same H H') : But r H H' := fun b o _ h => e b o h
theorem But.set {r : Addr} {H : Hp} {o : HO} : But r H (upd H r o) := fun b z n h => by rw [upd_ne n]; exact h
theorem Tp.but {r : Addr} {H H' : Hp} {ys : List V} (hr : H r = some (.lst ys)) (e : But r H H') : Tp H H' := fun b xs h => by
  rcases h with h | ⟨o, h⟩
  · exact .inl (e _ _ (ne_of h hr (by intro z; cases z)) h)
  · exact .inr ⟨o, e _ _ (ne_of h hr (by intro z; cases z)) h⟩
theorem Same.new {H : Hp} {p : Addr} (h : H p = none) (o : HO) : Same H (upd H p o) := fun b u q => by rw [upd_ne (ne_of_none q h)]; exact q
theorem Tp.sqT {K : PySem.W.Frag} {H H' : Hp} {a : Addr} {xs : List V} (e : Tp H H') (h : SqT K H a xs) : SqT K H' a xs := by
  rcases h with h | h
  · exact .inl (e _ _ h)
  · exact .inr h
theorem SqT.here {K : PySem.W.Frag} {H : Hp} {a : Addr} {xs : List V} (h : H a = some (.tup xs)) : SqT K H a xs := .inl (.inl h)
theorem SqL.here {K : PySem.W.Frag} {H : Hp} {a : Addr} {xs : List V} (h : H a = some (.lst xs)) : SqL K H a xs := .inl (.inl h)

section
variable {K : PySem.W.Frag} {H H' : Hp}
theorem ta_leaf {a : Addr} (h : SqT K H a []) : TA K H (.ref a) .L := Dp.tup h .nil
theorem ta_node {a : Addr} {x y : V} {l r : Tree} (h : SqT K H a [x, y]) (hl : TA K H x l) (hr : TA K H y r) : TA K H (.ref a) (.N l r) := Dp.tup h (.cons hl (.cons hr .nil))
theorem ta_invL {v : V} (h : TA K H v .L) : ∃ a, v = .ref a ∧ SqT K H a [] := by
  cases h with
  | tup hs ha =>
    cases ha
    exact ⟨_, rfl, hs⟩
theorem ta_invN {v : V} {l r : Tree} (h : TA K H v (.N l r)) : ∃ a x y, v = .ref a ∧ SqT K H a [x, y] ∧ TA K H x l ∧ TA K H y r := by
  cases h with
  | tup hs ha =>
    cases ha with
    | cons h1 h2 =>
      cases h2 with
      | cons h3 h4 =>
        cases h4
        exact ⟨_, _, _, rfl, hs, h1, h3⟩
theorem ta_inv : ∀ {v : V} {t : Tree}, TA K H v t → ∃ a xs, v = .ref a ∧ SqT K H a xs
  | _, .L, h => by
    obtain ⟨a, e, q⟩ := ta_invL h
    exact ⟨a, _, e, q⟩
  | _, .N _ _, h => by
    obtain ⟨a, x, y, e, q, _⟩ := ta_invN h
    exact ⟨a, _, e, q⟩
theorem ta_mono (e : Tp H H') : ∀ {t : Tree} {v : V}, TA K H v t → TA K H' v t
  | .L, v, h => by
    obtain ⟨a, rfl, q⟩ := ta_invL h
    exact ta_leaf (e.sqT q)
  | .N l r, v, h => by
    obtain ⟨a, x, y, rfl, q, h1, h2⟩ := ta_invN h
    exact ta_node (e.sqT q) (ta_mono e h1) (ta_mono e h2)
mutual
theorem dp_same (e : Same H H') : ∀ (d : PyData) {v : V}, Dp K H v d → Dp K H' v d
  | .none, _, h => by
    cases h
    exact .non
  | .bool b, _, h => by
    cases h
    exact .bl b
  | .int i, _, h => by
    cases h
    exact .int i
  | .str x, _, h => by
    cases h
    exact .str x
  | .list ds, _, h => by
    cases h with
    | lst hs ha => exact .lst (e.seq hs) (dp_sameAll e ds ha)
  | .tuple ds, _, h => by
    cases h with
    | tup hs ha => exact .tup ((Tp.same e).sqT hs) (dp_sameAll e ds ha)
  | .dict _, _, h => by cases h
theorem dp_sameAll (e : Same H H') : ∀ (ds : List PyData) {vs : List V}, DpAll K H vs ds → DpAll K H' vs ds
  | [], _, h => by
    cases h
    exact .nil
  | d :: ds, _, h => by
    cases h with
    | cons h1 h2 => exact .cons (dp_same e d h1) (dp_sameAll e ds h2)
end
end
theorem one_le : 1 ≤ sizeLine := by decide
theorem two_le : 2 ≤ sizeLine := by decide
theorem zero_le' : 0 ≤ sizeLine := by decide
theorem four_le : 4 ≤ sizeLine := by decide
theorem ite_eq {b c : Bool} {A B : Prop} (e : b = c) (h : if c = true then A else B) : if b = true then A else B := e ▸ h
theorem ite_yes {b : Bool} {A B : Prop} (e : b = true) (h : A) : if b = true then A else B := by rw [if_pos e]; exact h
theorem ite_no {b : Bool} {A B : Prop} (e : b = false) (h : B) : if b = true then A else B := by rw [e]; exact iteF h
theorem tyx_tup {K : PySem.W.Frag} {H : Hp} {a : Addr} {xs : List V} (h : SqT K H a xs) : TyX K H (.ref a) (.type "tuple") := by
  rcases h with (h | ⟨o, h⟩) | ⟨o, its, n, h, c, _⟩
  · exact .base (.tup h)
  · exact .fTuple h
  · exact .kTuple h c
theorem tyx_lst {K : PySem.W.Frag} {H : Hp} {a : Addr} {xs : List V} (h : SqL K H a xs) : TyX K H (.ref a) (.type "list") := by
  rcases h with (h | ⟨o, h⟩) | ⟨o, its, n, h, c, _⟩
  · exact .base (.lst h)
  · exact .base (.frz h)
  · exact .kList h c
def Tree.nodes : Tree → Nat
  | .L => 1
  | .N l r => l.nodes + r.nodes + 1
/-! ### enumerate(a text): each sign in a new pair -/
def ItES (z : Str) : It :=
  ⟨fun j _ => j < z.cps.size, fun j G v G' => ∃ q c, v = .ref q ∧ G q = none ∧ G' = upd G q (.tup [.int (j : Nat), .str ⟨#[c]⟩]) ∧ z.cps[j]? = some c, fun j _ => z.cps.size ≤ j⟩
theorem draws_text {Pr : Program} {wo : World} {Ar : Around} (calm : Ar.handled = none) (it : Addr) (z : Str) (tk : Tok) :
    PySem.Draws Pr wo Ar it [it] z.cps.size (fun j v => ∃ c u, z.cps[j]? = some c ∧ v = .str ⟨#[c]⟩ u) (fun j g => g.IsStrIter it (PySem.strIterType z) z tk j) := by
  unfold PySem.strIterType
  cases z.cps.all (· < 128)
  · exact PySem.Draws.strWide calm it z tk
  · exact PySem.Draws.strAscii calm it z tk
theorem turn_ES {Pr : Program} {wo : World} {Kf : PySem.W.Frag} {ts : List Expr} {nn : Nat} {tp : Pos} (en it : Addr) (z : Str) (tk : Tok) :
    Turn Pr wo Kf (.Tuple ts nn tp) (ItES z) [en, it] en (fun j g => (∃ old, PySem.IsEnum g en it ((j : Nat) : Int) old) ∧ g.IsStrIter it (PySem.strIterType z) z tk j ∧ en ≠ it ∧ j ≤ z.cps.size) where
  mem := List.mem_cons_self
  obj := fun j g st b hb => by
    obtain ⟨⟨old, h1⟩, ⟨ob, h2, h3, h4⟩, _⟩ := st
    rcases List.mem_cons.mp hb with rfl | hb
    · exact ⟨_, h1, fun v q => nomatch q⟩
    · cases List.mem_singleton.mp hb
      refine ⟨ob, h2, fun v q => ?_⟩
      rw [h4] at q
      cases q
  keep := fun j g g' st kk => by
    obtain ⟨⟨old, h1⟩, ⟨ob, h2, h3⟩, h5⟩ := st
    exact ⟨⟨old, kk en List.mem_cons_self _ h1⟩, ⟨ob, kk it (List.mem_cons_of_mem _ List.mem_cons_self) _ h2, h3⟩, h5⟩
  item := by
    intro X e1 e2 e3 calm j pins s σ G Ex inv fp st lt
    cases e1
    cases e2
    cases e3
    obtain ⟨⟨old, h1⟩, h2, ne, le⟩ := st
    have l1 : en < s.heap.objs.size := Heap.lt_size h1
    have l2 : it < s.heap.objs.size := by
      obtain ⟨_, y, _⟩ := h2
      exact Heap.lt_size y
    refine PySem.wpAny_pyNext_enum_itemD (draws_text (show X.A.in1.handled = none from inv.ok.hd calm) it z tk) h1 h2 lt ne (fun y => ne (List.mem_singleton.mp y)) fun u g' t2 hu out h2' hT sz kp => ?_
    obtain ⟨c, u', hc, rfl⟩ := hu
    refine ⟨_, rfl, PySem.wpAny_letOwnedTupleGo_enum (s := { s with heap := g', toks := t2 + 1 }) out fun g'' h1' sb => ?_⟩
    have hT' : g''.get? s.heap.objs.size = some { cls := .type "tuple", data := .seq #[.int j t2, .str ⟨#[c]⟩ u'] } := (sb.2 _ (Nat.ne_of_gt l1)).trans hT
    have made : ObjOk X.prog X.w (upd G s.heap.objs.size (.tup [.int (j : Nat), .str ⟨#[c]⟩])) g'' s.heap.objs.size (.tup [.int (j : Nat), .str ⟨#[c]⟩]) :=
      ⟨two_le, [.int j t2, .str ⟨#[c]⟩ u'], .cons ⟨_, rfl⟩ (.cons ⟨_, rfl⟩ .nil), ⟨_, hT', rfl, _, rfl⟩⟩
    have inv' : Inv X pins σ (upd G s.heap.objs.size (.tup [.int (j : Nat), .str ⟨#[c]⟩])) { s with heap := g'', toks := t2 + 1 } := by
      refine Inv.turnedNew (ch := [en, it]) inv (fun b ob nb y => ?_) fp (Nat.le_refl _) made
      have n1 : b ≠ en := fun y => nb (by rw [y]; exact List.mem_cons_self)
      have n2 : b ≠ it := fun y => nb (by rw [y]; exact List.mem_cons_of_mem _ List.mem_cons_self)
      exact (sb.2 b n1).trans (kp b ob n1 n2 y)
    refine ⟨.ref s.heap.objs.size, _, inv', rfl, ⟨_, c, rfl, inv.hok.fresh (Nat.le_refl _), rfl, hc⟩, ⟨⟨.str ⟨#[c]⟩ u', ?_⟩, ?_, ne, lt⟩, fun b hb => ?_⟩
    · rw [show (((j + 1 : Nat) : Nat) : Int) = (j : Int) + 1 by omega]
      exact h1'
    · obtain ⟨ob, y1, y2⟩ := h2'
      exact ⟨ob, (sb.2 it (Ne.symm ne)).trans y1, y2⟩
    · have lb : b < s.heap.objs.size := by
        rcases List.mem_cons.mp hb with rfl | hb
        · exact l1
        · cases List.mem_singleton.mp hb
          exact l2
      rw [upd_ne (Nat.ne_of_lt lb)]
      exact (fp b hb).1
  done := by
    intro X e1 e2 e3 calm j pins s σ G Ex inv fp st ge
    cases e1
    cases e2
    cases e3
    obtain ⟨⟨old, h1⟩, h2, ne, le⟩ := st
    have ej : j = z.cps.size := Nat.le_antisymm le ge
    subst ej
    obtain ⟨f0, f1, f2, f3, f4, f5⟩ := fp it (List.mem_cons_of_mem _ List.mem_cons_self)
    exact PySem.wpAny_pyNext_enum_endD (draws_text (show X.A.in1.handled = none from inv.ok.hd calm) it z tk) h1 h2 fun g' eb => ⟨rfl, inv.turned (t' := s.toks) (fun b o nb y => eb b o nb y) f0 f1 f3 f4 f5⟩
  self := fun Ar j s Q Ex st y => by
    obtain ⟨⟨_, h1⟩, _⟩ := st
    exact PySem.wpAny_pyIter_enum h1 y
def iES (ta : L2.TA) : TI := fun σ G R => ta σ G fun vs G1 => ∃ z : Str, vs = [.str z] ∧ R (ItES z) G1
theorem pi_ES {X : Cx} {ex : Expr} {ta : L2.TA} {p pos tp : Pos} {ts : List Expr} {nn : Nat} (gl : Gl X "enumerate") (mm : X.mg "enumerate" = none) (ha : PA X [ex] ta) (hs : starEach [ex] X.env = [(false, eval ex X.env)] := by rfl) :
    PI X (.Tuple ts nn tp) (.Call (.Name "enumerate" p) [ex] [] pos) (iES ta) := by
  refine ⟨fun pins s σ G R inv y => ?_⟩
  refine PyProof.Rows.Call_ (ld_blt inv gl mm PyProof.Rows.boot_enumerate (PyProof.Rows.callWith_type1 (thn (ha.run pos pins s σ G _ inv y) fun us s1 ⟨vs, G1, inv1, r1, q1⟩ => ?_) hs rfl))
  obtain ⟨z, rfl, q⟩ := q1
  cases r1 with
  | cons r rr =>
    cases rr
    obtain ⟨tk, rfl⟩ := r
    refine PySem.call_enumerate_str fun g' h1 h2 sz kp => PySem.wpAny_pyIter_enum h1 ?_
    refine ⟨s1.heap.objs.size + 1, [s1.heap.objs.size + 1, s1.heap.objs.size], _, _, G1, rfl, inv1.kept (t' := s1.toks) kp, turn_ES (s1.heap.objs.size + 1) s1.heap.objs.size z tk, ⟨⟨.none, h1⟩, h2, Nat.succ_ne_self _, Nat.zero_le _⟩, fun b hb => ?_, q⟩
    have ge : s1.heap.objs.size ≤ b := by
      rcases List.mem_cons.mp hb with rfl | hb
      · exact Nat.le_succ _
      · cases List.mem_singleton.mp hb
        exact Nat.le_refl _
    exact inv1.fpOk ge (inv1.hok.fresh ge)
theorem for_ES {z : Str} {g : TG} {tb : TS} {D : Ends} {σ : L2.St} {G : Hp} (Pv : Nat → L2.St → Hp → Prop) (h0 : Pv 0 σ G)
    (hs : ∀ j c σ G, z.cps[j]? = some c → Pv j σ G → ∀ q, G q = none → g (.ref q) σ (upd G q (.tup [.int (j : Nat), .str ⟨#[c]⟩])) fun σ2 G2 => tb { D with nx := Pv (j + 1), ct := Pv (j + 1), bk := D.nx } σ2 G2) (hd : ∀ σ G, Pv z.cps.size σ G → D.nx σ G) :
    ∃ Wd : Nat → Nat → L2.St → Hp → Prop, (∃ m, Wd 0 m σ G) ∧ ∀ j m σ G, Wd j m σ G →
      ((ItES z).stop j G ∧ D.nx σ G) ∨ ((ItES z).go j G ∧ ∃ Nn : L2.St → Hp → Prop, (∀ σ' G', Nn σ' G' → ∃ m', m' < m ∧ Wd (j + 1) m' σ' G') ∧ ∀ v G', (ItES z).yld j G v G' → g v σ G' fun σ2 G2 => tb { D with nx := Nn, ct := Nn, bk := D.nx } σ2 G2) := by
  refine ⟨fun j m σ G => m = z.cps.size - j ∧ j ≤ z.cps.size ∧ Pv j σ G, ⟨_, rfl, Nat.zero_le _, h0⟩, ?_⟩
  rintro j m σ G ⟨rfl, le, pv⟩
  rcases Nat.lt_or_ge j z.cps.size with lt | ge
  · refine .inr ⟨lt, Pv (j + 1), fun σ' G' y => ⟨z.cps.size - (j + 1), by omega, rfl, lt, y⟩, fun v G' y => ?_⟩
    obtain ⟨q, c, rfl, nq, rfl, hc⟩ := y
    exact hs j c σ G hc pv q nq
  · have ej : j = z.cps.size := Nat.le_antisymm le ge
    subst ej
    exact .inl ⟨Nat.le_refl _, hd σ G pv⟩
/-! ### raising while an exception is handled that has a context itself (raise .. from None keeps it) -/
namespace HotY
open PySem.Spec PyProof.Rows
theorem bne_ref {a b : Addr} (h : a ≠ b) : ¬ ((Value.ref a == Value.ref b) = true) := fun z => h (by simpa using z)
/-- what a context may be: None, or an exception that p tells of and whose own is None -/
def Ctx2 (p : Addr → Obj → Prop) (c : Option Value) : Prop := c = some .none ∨ ∃ (y : Addr) (oy : Obj) (vy : Array Value), c = some (.ref y) ∧ p y oy ∧ oy.data = .fields vy ∧ vy[2]? = some .none
theorem Ctx2.imp {p q : Addr → Obj → Prop} {c : Option Value} (h : Ctx2 p c) (k : ∀ y oy, p y oy → (∃ vy : Array Value, oy.data = .fields vy) → q y oy) : Ctx2 q c :=
  Or.imp id (fun ⟨y, oy, vy, e, hp, d, n⟩ => ⟨y, oy, vy, e, k y oy hp ⟨vy, d⟩, d, n⟩) h
def HotAt (A : Around) (x1 : Addr) (h : Heap) : Prop := A.handled = some (.ref x1) ∧ ∃ (o : Obj) (vs : Array Value), h.get? x1 = some o ∧ o.data = .fields vs ∧ Ctx2 (fun y oy => h.get? y = some oy) vs[2]?
section
variable {prog : Program} {w : World} {A : Around} {E : Value → Shared → Prop} {s : Shared}
theorem unchained2 {x1 y a : Addr} {o1 oy : Obj} {vs1 vy : Array Value} {Q : Value → Shared → Prop} (h1 : s.heap.get? x1 = some o1) (d1 : o1.data = .fields vs1) (c1 : vs1[2]? = some (.ref y)) (hy : s.heap.get? y = some oy) (dy : oy.data = .fields vy) (cy : vy[2]? = some .none) (ya : y ≠ a) (yx : y ≠ x1) (q : Q .none s) :
    wpAny (model prog w) A (holding [Value.ref a] (runValue (.builtin "proto.unchain" ⟨[.ref a, .ref x1, .ref x1, .bool false], []⟩))) Q E s := by
  refine wpAny_holding (wpAny_runValue (codeAny_builtin HotX.entry_unchain ?_))
  show wpAny _ _ (field (.ref x1) 2 >>= _) _ _ s
  refine wpAny_bind (wpAny_field h1 d1 c1 ?_)
  rw [if_neg (show ¬ ((Value.ref y == Value.none) = true) from Bool.false_ne_true), if_neg (bne_ref ya), if_neg (bne_ref yx)]
  dsimp only
  rw [if_neg Bool.false_ne_true]
  refine wpAny_bind (wpAny_pure ?_)
  refine wpAny_pure ⟨by first | rfl | kernel_rfl | decide +kernel, codeAny_builtin HotX.entry_unchain ?_⟩
  show wpAny _ _ (field (.ref y) 2 >>= _) _ _ s
  refine wpAny_bind (wpAny_field hy dy cy ?_)
  rw [if_pos (show (Value.none == Value.none) = true from rfl)]
  first
  | exact wpAny_bind (wpAny_pure (wpAny_pure q))
  | exact wpAny_pure q
/-- the new one is not in the chain: it stands above what stood -/
theorem raiseNew_hot {α : Type} {a x1 : Addr} {old : Heap} {oe : Obj} {vs : Array Value} {Q : α → Shared → Prop} (hot : HotAt A x1 old) (up : ∀ b o, old.get? b = some o → s.heap.get? b = some o) (fr : old.get? a = none) (ha : s.heap.get? a = some oe) (da : oe.data = .fields vs) (hi : 2 < vs.size)
    (hE : E (.ref a) { s with heap := s.heap.update a (Obj.mapFields (·.setIfInBounds 2 (.ref x1))) }) : wpAny (model prog w) A (raiseNew (.ref a) : Sem α) Q E s := by
  obtain ⟨hh, o1, vs1, h1, d1, c1⟩ := hot
  have nx : x1 ≠ a := fun z => by rw [← z, h1] at fr; cases fr
  rcases c1 with c1 | ⟨y, oy, vy, c1, hy, dy, cy⟩
  · exact HotX.raiseNew_hot ⟨hh, o1, vs1, up _ _ h1, d1, c1⟩ nx ha da hi hE
  · have ny : y ≠ a := fun z => by rw [← z, hy] at fr; cases fr
    have yx : y ≠ x1 := fun z => by
      rw [z, h1] at hy
      cases hy
      rw [d1] at dy
      cases dy
      rw [c1] at cy
      cases cy
    unfold raiseNew
    refine wpAny_bind (wpAny_handled ?_)
    rw [hh]
    have hb : (Value.ref x1 != Value.ref a) = true := HotX.ref_bne nx
    first
    | (show wpAny _ _ (if (Value.ref x1 != Value.ref a) = true then _ else _) _ _ _
       rw [if_pos hb]
       first
       | exact wpAny_bind (unchained2 (up _ _ h1) d1 c1 (up _ _ hy) dy cy ny yx (wpAny_bind (HotX.chained ha da hi (wpAny_throw hE))))
       | exact wpAny_bind (wpAny_bind (unchained2 (up _ _ h1) d1 c1 (up _ _ hy) dy cy ny yx (HotX.chained ha da hi (wpAny_throw hE)))))
    | (refine wpAny_bind ?_
       show wpAny _ _ (if (Value.ref x1 != Value.ref a) = true then _ else _) _ _ _
       rw [if_pos hb]
       exact wpAny_bind (unchained2 (up _ _ h1) d1 c1 (up _ _ hy) dy cy ny yx (HotX.chained ha da hi (wpAny_throw hE))))
end
end HotY
/-! ### iterators at their end while an exception is handled -/
section
variable {Pr : Program} {wo : World} {Ar : Around} {Ex : Value → Shared → Prop} {st : Shared}
open HotY
/-- a StopIteration, made and raised there: all that stood stands -/
theorem stop_hot {α : Type} {xh : Addr} {Qa : α → Shared → Prop} (hot : HotAt Ar xh st.heap) (k : ∀ g (a : Addr), (∀ b o, st.heap.get? b = some o → g.get? b = some o) → (∃ o, g.get? a = some o ∧ o.cls = .type "StopIteration") → Ex (.ref a) { st with heap := g }) :
    wpAny (model Pr wo) Ar (newExc (.type "StopIteration") [] >>= fun e => (raiseNew e : Sem α)) Qa Ex st := by
  have fr : st.heap.get? (st.heap.objs.size + 1) = Option.none := by
    cases q : st.heap.get? (st.heap.objs.size + 1) with
    | none => rfl
    | some o =>
      have z : st.heap.objs.size + 1 < st.heap.objs.size := Heap.lt_size q
      exact absurd z (by omega)
  simp only [newExc, newTuple]
  refine wpAny_bind (wpAny_bind (wpAny_newObj_type (wpAny_bind (m := firstArgMember _ _) (wpAny_of_eq (a := Value.none) (by first | rfl | (simp only [firstArgMember]; rfl)) (wpAny_newObj_type ?_ (by size_fits)))) (by size_fits)))
  refine raiseNew_hot (x1 := xh) hot (fun b o y => Heap.get?_push_of_some _ (Heap.get?_push_of_some _ y)) (by rw [Heap.size_push]; exact fr) (Heap.get?_push_size _ rfl) rfl (by first | (simp; done) | (simp; omega)) ?_
  refine k _ _ (fun b o y => ?_) ⟨_, Heap.get?_update_self _ (Heap.get?_push_size _ rfl) rfl, rfl⟩
  rw [Heap.get?_update_other _ _ (Nat.ne_of_gt (Heap.lt_size (Heap.get?_push_of_some _ y)))]
  exact Heap.get?_push_of_some _ (Heap.get?_push_of_some _ y)
theorem list_end_hot {ite lis xh : Addr} {j : Nat} {its : Array Value} {Qn : Option Value → Shared → Prop} (hot : HotAt Ar xh st.heap) (nxi : xh ≠ ite) (hi : st.heap.IsListIter ite lis j) (hL : st.heap.IsList lis its) (out : its[j]? = none)
    (k : ∀ g, Heap.ExtBut ite st.heap g → Qn none { st with heap := g }) : wpAny (model Pr wo) Ar (pyNext (.ref ite)) Qn Ex st := by
  obtain ⟨oi, h1, h2, h3⟩ := id hi
  obtain ⟨ol, h4, _, nl, h5⟩ := hL
  obtain ⟨hh, oe, ve, e1, e2, e3⟩ := hot
  unfold pyNext
  refine wpAny_bind (wpAny_attempt (wpAny_callSpecial?_slot (name := Str.ofString "__next__") hi.typeIs PySem.slot_listiter_next (wpAny_call_entry PySem.slot_listiter_next hi.typeIs PySem.entry_listiter_next ?_ (PySem.args_listiter_next _))))
  show wpAny _ _ (field (.ref ite) 0 >>= _) _ _ st
  refine wpAny_bind (wpAny_field h1 h3 (x := .ref lis) rfl ?_)
  show wpAny _ _ (if (Value.ref lis == Value.none) = true then _ else _) _ _ st
  rw [if_neg (show ¬ ((Value.ref lis == Value.none) = true) from Bool.false_ne_true)]
  show wpAny _ _ (field (.ref ite) 1 >>= _) _ _ st
  refine wpAny_bind (wpAny_field h1 h3 (x := .int j 0) rfl ?_)
  show wpAny _ _ (seqItems? (.ref lis) >>= _) _ _ st
  refine wpAny_bind (wpAny_seqItems h4 h5 ?_)
  simp only [Int.toNat_natCast, out]
  refine wpAny_bind (wpAny_rule (wpAny_bind (wpAny_setField h1 h3 (by simp) ?_)))
  have hot' : HotAt Ar.in1 xh (st.heap.update ite (Obj.mapFields (·.setIfInBounds 0 Value.none))) := ⟨hh, oe, ve, by rw [Heap.get?_update_other _ _ nxi.symm]; exact e1, e2, e3.elim .inl fun ⟨y, oy, vy, y1, y2, y3, y4⟩ => .inr ⟨y, oy, vy, y1, by
    have ny : ite ≠ y := fun z => by
      rw [← z, h1] at y2
      cases y2
      rw [h3] at y3
      cases y3
      cases y4
    show (st.heap.update ite (Obj.mapFields (·.setIfInBounds 0 Value.none))).get? y = some oy
    rw [Heap.get?_update_other _ _ ny]
    exact y2, y3, y4⟩⟩
  refine stop_hot hot' fun g a kp ha => ?_
  obtain ⟨oa, y1, y2⟩ := ha
  refine wpAny_bind (wpAny_isInstance (T := "StopIteration") (b := true) ⟨oa, y1, y2⟩ PySem.isSubtype_stop (wpAny_pure (k _ fun b o nb y => kp b o ?_)))
  rw [Heap.get?_update_other _ _ (Ne.symm nb)]
  exact y
theorem tuple_end_hot {ite tup xh : Addr} {j : Nat} {its : Array Value} {Qn : Option Value → Shared → Prop} (hot : HotAt Ar xh st.heap) (nxi : xh ≠ ite) (hi : PyProof.Rows.IsTupIter st.heap ite tup j) (hT : PyProof.Rows.IsTup st.heap tup its) (out : its[j]? = none)
    (k : ∀ g, Heap.ExtBut ite st.heap g → Qn none { st with heap := g }) : wpAny (model Pr wo) Ar (pyNext (.ref ite)) Qn Ex st := by
  obtain ⟨oi, h1, h2, h3⟩ := id hi
  obtain ⟨ol, h4, _, nl, h5⟩ := hT
  obtain ⟨hh, oe, ve, e1, e2, e3⟩ := hot
  unfold pyNext
  refine wpAny_bind (wpAny_attempt (wpAny_callSpecial?_slot (name := Str.ofString "__next__") hi.typeIs PySem.F.slot_tuple_iterator_next (wpAny_call_entry PySem.F.slot_tuple_iterator_next hi.typeIs PySem.F.entry_tuple_iterator_next ?_ (PySem.F.args_tuple_iterator_next_1 _))))
  show wpAny _ _ (field (.ref ite) 0 >>= _) _ _ st
  refine wpAny_bind (wpAny_field h1 h3 (x := .ref tup) rfl ?_)
  show wpAny _ _ (if (Value.ref tup == Value.none) = true then _ else _) _ _ st
  rw [if_neg (show ¬ ((Value.ref tup == Value.none) = true) from Bool.false_ne_true)]
  show wpAny _ _ (field (.ref ite) 1 >>= _) _ _ st
  refine wpAny_bind (wpAny_field h1 h3 (x := .int j 0) rfl ?_)
  show wpAny _ _ (seqItems? (.ref tup) >>= _) _ _ st
  refine wpAny_bind (wpAny_seqItems h4 h5 ?_)
  simp only [Int.toNat_natCast, out]
  refine wpAny_bind (wpAny_rule (wpAny_bind (wpAny_setField h1 h3 (by simp) ?_)))
  have hot' : HotAt Ar.in1 xh (st.heap.update ite (Obj.mapFields (·.setIfInBounds 0 Value.none))) := ⟨hh, oe, ve, by rw [Heap.get?_update_other _ _ nxi.symm]; exact e1, e2, e3.elim .inl fun ⟨y, oy, vy, y1, y2, y3, y4⟩ => .inr ⟨y, oy, vy, y1, by
    have ny : ite ≠ y := fun z => by
      rw [← z, h1] at y2
      cases y2
      rw [h3] at y3
      cases y3
      cases y4
    show (st.heap.update ite (Obj.mapFields (·.setIfInBounds 0 Value.none))).get? y = some oy
    rw [Heap.get?_update_other _ _ ny]
    exact y2, y3, y4⟩⟩
  refine stop_hot hot' fun g a kp ha => ?_
  obtain ⟨oa, y1, y2⟩ := ha
  refine wpAny_bind (wpAny_isInstance (T := "StopIteration") (b := true) ⟨oa, y1, y2⟩ PySem.isSubtype_stop (wpAny_pure (k _ fun b o nb y => kp b o ?_)))
  rw [Heap.get?_update_other _ _ (Ne.symm nb)]
  exact y
/-- a, b = a tuple, there -/
theorem unpack_hot {tup xh : Addr} {its : Array Value} {Ql : List Value → Shared → Prop} (hot : HotAt Ar xh st.heap) (hT : PyProof.Rows.IsTup st.heap tup its)
    (k : ∀ g, Heap.ExtBut st.heap.objs.size st.heap g → Ql its.toList { st with heap := g }) : wpAny (model Pr wo) Ar (unpackItems (.ref tup) its.size none) Ql Ex st := by
  have nt : tup ≠ st.heap.objs.size := by
    obtain ⟨o, y, _⟩ := hT
    exact Nat.ne_of_lt (Heap.lt_size y)
  obtain ⟨hh, oe, ve, e1, e2, e3⟩ := hot
  have nx : xh ≠ st.heap.objs.size := Nat.ne_of_lt (Heap.lt_size e1)
  unfold unpackItems
  refine wpAny_bind ?_
  unfold notIterableAtAll
  refine wpAny_bind (wpAny_specialOf hT.typeIs PyProof.Rows.slot_tuple_iter.lookup (wpAny_pure ?_))
  simp only [Bool.false_eq_true, if_false]
  refine wpAny_bind (wpAny_holding (PyProof.Rows.iter_tuple hT (wpAny_bind (wpAny_holding (PyProof.Rows.draw_tuple nt its.size 0 _ _ ⟨_, Heap.get?_push_size _ rfl, rfl, rfl⟩ (hT.push _) (by omega) fun g1 hi1 sb1 => ?_)))))
  rw [show List.take its.size (List.drop 0 its.toList) = its.toList by rw [List.drop_zero]; exact List.take_of_length_le (by simp), if_neg (by simp)]
  have hT1 : PyProof.Rows.IsTup g1 tup its := (hT.push _).extBut sb1.extBut nt
  have hot1 : HotAt Ar xh g1 := ⟨hh, oe, ve, sb1.extBut _ _ nx (Heap.get?_push_of_some _ e1), e2, e3.imp fun y oy y2 _ => sb1.extBut _ _ (Nat.ne_of_lt (Heap.lt_size y2)) (Heap.get?_push_of_some _ y2)⟩
  refine wpAny_bind (wpAny_holding (tuple_end_hot (st := { st with heap := g1 }) hot1 nx hi1 hT1 (by simp) fun g2 eb2 => ?_))
  simp only [Option.isSome_none, Bool.false_eq_true, if_false]
  exact wpAny_pure (k g2 fun b o nb y => eb2 b o nb (sb1.extBut b o nb (Heap.get?_push_of_some _ y)))
end
/-! ### a context in which an exception is handled that stood when it began -/
structure HotB (X : Cx) (xh : Addr) (oh : Obj) : Prop where
  hnd : X.A.handled = some (.ref xh)
  obj : X.s_0.heap.get? xh = some oh
  dat : ∃ vs : Array Value, oh.data = .fields vs ∧ HotY.Ctx2 (fun y oy => X.s_0.heap.get? y = some oy ∧ X.H_0 y = Option.none ∧ y ∉ X.fs ∧ y ∉ X.ex) vs[2]?
  unt : X.H_0 xh = none
  nfs : xh ∉ X.fs
  nex : xh ∉ X.ex
section
variable {X : Cx} {pins : List (Addr × Obj)} {σ : L2.St} {H : Hp} {s : Shared} {xh : Addr} {oh : Obj}
theorem HotB.get (h : HotB X xh oh) (I : Inv X pins σ H s) : s.heap.get? xh = some oh := I.base.keep xh oh h.obj h.unt h.nfs h.nex
theorem HotB.hot (h : HotB X xh oh) (I : Inv X pins σ H s) : HotY.HotAt X.A xh s.heap := by
  obtain ⟨vs, d1, d2⟩ := h.dat
  exact ⟨h.hnd, oh, vs, h.get I, d1, d2.imp fun y oy k _ => I.base.keep y oy k.1 k.2.1 k.2.2.1 k.2.2.2⟩
theorem HotB.none (h : HotB X xh oh) (I : Inv X pins σ H s) : H xh = Option.none := I.base.free xh oh h.obj h.unt h.nex
theorem HotB.nloc (h : HotB X xh oh) (I : Inv X pins σ H s) : xh ≠ X.env.locals := fun z => by
  obtain ⟨m, ⟨o, es, ep, e1, e2, _⟩, _⟩ := I.loc
  obtain ⟨vs, d1, _⟩ := h.dat
  have g := h.get I
  rw [z, e1] at g
  cases g
  rw [d1] at e2
  cases e2
theorem nloc_of {y : Addr} {oy : Obj} (I : Inv X pins σ H s) (g : s.heap.get? y = some oy) (hd : ∃ vy : Array Value, oy.data = .fields vy) : y ≠ X.env.locals := fun z => by
  obtain ⟨m, ⟨o, es, ep, e1, e2, _⟩, _⟩ := I.loc
  obtain ⟨vs, d1⟩ := hd
  rw [z, e1] at g
  cases g
  rw [d1] at e2
  cases e2
theorem big_of {p : Addr → Obj → Prop} {vs : Array Value} (c : HotY.Ctx2 p vs[2]?) : 2 < vs.size := by
  rcases c with c | ⟨y, oy, vy, c, _⟩
  · exact (Array.getElem?_eq_some_iff.mp c).1
  · exact (Array.getElem?_eq_some_iff.mp c).1
theorem HotB.blk (h : HotB X xh oh) (I : Inv X pins σ H s) (scope : Scope) (ce : Env) {fp : List Addr} (hf : ∀ (b : Addr) (o : Obj) (vs : Array Value), s.heap.get? b = some o → o.data = .fields vs → 2 < vs.size → b ∉ fp) : HotB (X.blk s H scope ce fp) xh oh := by
  obtain ⟨vs, d1, d2⟩ := h.dat
  refine ⟨h.hnd, h.get I, ⟨vs, d1, ?_⟩, h.none I, fun z => (List.mem_cons.mp (I.stkSub xh z)).elim (h.nloc I) h.nfs, hf xh oh vs (h.get I) d1 (big_of d2)⟩
  rcases d2 with d2 | ⟨y, oy, vy, c, ⟨k1, k2, k3, k4⟩, dy, cy⟩
  · exact .inl d2
  · have gy := I.base.keep y oy k1 k2 k3 k4
    exact .inr ⟨y, oy, vy, c, ⟨gy, I.base.free y oy k1 k2 k4, fun z => (List.mem_cons.mp (I.stkSub y z)).elim (nloc_of I gy ⟨vy, dy⟩) k3, hf y oy vy gy dy (Array.getElem?_eq_some_iff.mp cy).1⟩, dy, cy⟩
/-- (a, b) = a tuple, there -/
theorem pg_tupB {es : List Expr} {k : Nat} {t : TGs} {n : Nat} {pos : Pos} (hb : HotB X xh oh) (h : PGs X es t)
    (hn : (assignEach es X.env).length = n := by rfl) (hst : (assignEach es X.env).findIdx? (·.1) = Option.none := by rfl) : PG X (.Tuple es k pos) (gTup X.K n t) := by
  refine ⟨fun pins s σ H v u Q I r y => ?_⟩
  obtain ⟨a, xs, rfl, hq, hl, y⟩ := y
  cases r
  obtain ⟨its, rv, hT, hz⟩ := I.tuple hq
  have e1 : (assignEach es X.env).length = its.toArray.size := by
    rw [List.size_toArray, hn, ← hl, rv.length]
  rw [PyProof.Rows.assign_Tuple]
  refine wpAny_bind (wpAny_standAt ?_)
  unfold unpack
  rw [e1, hst]
  refine wpAny_bind (wpAny_holding (unpack_hot (hb.hot I) hT fun g eb => ?_))
  have I1 : Inv X pins σ H { s with heap := g } := I.kept (t' := s.toks) fun b o e => eb b o (Nat.ne_of_lt (Heap.lt_size e)) e
  exact h.run pins _ σ H xs _ Q I1 (by simpa using rv) y
/-- [elt for tg in a list if ..], there -/
def tLcB (K : PySem.W.Frag) (tl : TE) (g : TG) (tt : TT) (te : TE) (vs : List Nat) : TE := fun σ H Q => tl σ H fun x H1 => ∃ a xs, x = .ref a ∧ SqL K H1 a xs ∧ ∀ D, H1 D = Option.none → ∃ Pv : Nat → Hp → Prop, Pv 0 (upd H1 D (.lst [])) ∧ (∀ i G, i ≤ xs.length → Pv i G → SqL K G a xs) ∧
  (∀ i v G, xs[i]? = some v → Pv i G → g v (wipe σ vs) G fun σ2 G2 => wipe σ2 vs = wipe σ vs ∧ tt σ2 G2 fun b G3 => if b = true then te σ2 G3 fun y G4 => ∃ acc, G4 D = some (.lst acc) ∧ acc.length < sizeLine ∧ Pv (i + 1) (upd G4 D (.lst (acc ++ [y]))) else Pv (i + 1) G3) ∧ ∀ G, Pv xs.length G → Q (.ref D) G
theorem pe_lcB {elt tg iter : Expr} {ifs : List Expr} {scope : Scope} {own : List (Str × Nat)} {pos : Pos} {tl : TE} {g : TG} {tt : TT} {te : TE} (hb : HotB X xh oh) (hN : X.N.Nodup) (hi : PE X iter tl) (ok : BlkOk X.N X.env.scope scope own)
    (hg : ∀ (s : Shared) (H : Hp) (C : Addr) (cl : List (Str × Addr)) (fp : List Addr), HotB (X.blk s H scope (compEnvC scope cl C X.env) fp) xh oh → PG (X.blk s H scope (compEnvC scope cl C X.env) fp) tg g)
    (ht : ∀ (s : Shared) (H : Hp) (C : Addr) (cl : List (Str × Addr)) (fp : List Addr), PTs (X.blk s H scope (compEnvC scope cl C X.env) fp) ifs tt)
    (he : ∀ (s : Shared) (H : Hp) (C : Addr) (cl : List (Str × Addr)) (fp : List Addr), PE (X.blk s H scope (compEnvC scope cl C X.env) fp) elt te) (hs : ∀ x, foldedSetIterable iter X.env x = pure x := by intro _; rfl) :
    PE X (.ListComp elt [⟨tg, iter, ifs, 0⟩] scope pos) (tLcB X.K tl g tt te (own.map (·.2))) := by
  refine ⟨fun pins s σ H Q I h => ?_⟩
  rw [eval_ListComp]
  have hfree : ∀ y ∈ scope.names, y.2 = .free → ∃ c, X.env.cells.lookup y.1 = some c := fun y hy e => (ok.free y hy e).elim (fun k => I.ok.has _ (.inl k)) (fun k => I.ok.has _ (.inr k))
  refine wpAny_comprehension_free (use := Option.none) rfl hs (closure_ok hfree) ok.kind (fun y hy e => by rw [ok.uniq y hy, e]) (thn (hi.run pins s σ H _ I h) fun xv s1 ⟨x, H1, I1, r1, a, xs, ex, hL, k⟩ => ?_)
  subst ex
  cases r1
  obtain ⟨its, rv, hl, hz⟩ := I1.list hL
  refine PySem.wpAny_pyIter_list hl.isList ?_
  -- the iterator's object, the new list, the block's frame
  have I2 : Inv X pins σ H1 { s1 with heap := s1.heap.push { cls := .type "list_iterator", data := .fields #[.ref a, .int 0 0] } } := I1.kept (t' := s1.toks) fun b o e => Heap.get?_push_of_some _ e
  have hit2 : ({ s1 with heap := s1.heap.push { cls := .type "list_iterator", data := .fields #[.ref a, .int 0 0] } } : Shared).heap.IsListIter s1.heap.objs.size a 0 := ⟨_, Heap.get?_push_size _ rfl, rfl, rfl⟩
  have it0 : H1 s1.heap.objs.size = Option.none := I1.hok.fresh (Nat.le_refl _)
  have fit : FpOk X pins H1 s1.heap.objs.size := I1.fpOk (Nat.le_refl _) it0
  have nxi : xh ≠ s1.heap.objs.size := Nat.ne_of_lt (Heap.lt_size (hb.get I1))
  have ltit : s1.heap.objs.size < ({ s1 with heap := s1.heap.push { cls := .type "list_iterator", data := .fields #[.ref a, .int 0 0] } } : Shared).heap.objs.size := by
    show _ < (s1.heap.push _).objs.size
    rw [Heap.size_push]
    exact Nat.lt_succ_self _
  generalize ({ s1 with heap := s1.heap.push { cls := .type "list_iterator", data := .fields #[.ref a, .int 0 0] } } : Shared) = s2 at *
  generalize s1.heap.objs.size = it at *
  refine wpAny_newObj_type (newEnv_comp ?_) (by show 0 ≤ sizeLine; decide)
  obtain ⟨Pv, p0, pl, pt, pd⟩ := k s2.heap.objs.size (I2.hok.fresh (Nat.le_refl _))
  have I3 : Inv X pins σ (upd H1 s2.heap.objs.size (.lst [])) { s2 with heap := s2.heap.push { cls := .type "list", data := .seq ([] : List Value).toArray } } :=
    I2.laid (t' := s2.toks) (fun b o e => Heap.get?_push_of_some _ e) (Nat.le_refl _) ⟨Nat.zero_le _, [], 0, .nil, Heap.get?_push_size _ rfl⟩
  have hit3 : ({ s2 with heap := s2.heap.push { cls := .type "list", data := .seq ([] : List Value).toArray } } : Shared).heap.IsListIter it a 0 := by
    obtain ⟨o, y1, y2⟩ := hit2
    exact ⟨o, Heap.get?_push_of_some _ y1, y2⟩
  have lt3 : it < ({ s2 with heap := s2.heap.push { cls := .type "list", data := .seq ([] : List Value).toArray } } : Shared).heap.objs.size := by
    show _ < (s2.heap.push _).objs.size
    rw [Heap.size_push]
    exact Nat.lt_succ_of_lt ltit
  have fit3 : FpOk X pins (upd H1 s2.heap.objs.size (.lst [])) it := ⟨by rw [upd_ne (Nat.ne_of_lt ltit)]; exact it0, fit.2⟩
  generalize hDD : s2.heap.objs.size = D at *
  generalize ({ s2 with heap := s2.heap.push { cls := .type "list", data := .seq ([] : List Value).toArray } } : Shared) = s3 at *
  generalize upd H1 D (.lst []) = H3 at *
  have I4 := block_start I3 ok hN (fp := [it]) fun b hm => by
    rw [List.mem_singleton.mp hm]
    exact ⟨fit3, lt3⟩
  -- the block's context, by letters
  have hotB := fun ce => hb.blk I3 scope ce (fp := [it]) fun b o vs e1 e2 e3 z => by
    obtain ⟨oi, i1, _, i3⟩ := hit3
    rw [List.mem_singleton.mp z, i1] at e1
    cases e1
    rw [i3] at e2
    cases e2
    exact absurd (show 2 < 2 from e3) (by omega)
  have pg := fun cl => hg s3 H3 s3.heap.objs.size cl [it] (hotB _)
  have pts := fun cl => ht s3 H3 s3.heap.objs.size cl [it]
  have pe := fun cl => he s3 H3 s3.heap.objs.size cl [it]
  have hit4 : ({ s3 with heap := pushCells (s3.heap.push { cls := .type "dict", data := .dict #[] }) scope.names } : Shared).heap.IsListIter it a 0 := by
    obtain ⟨o, y1, y2⟩ := hit3
    exact ⟨o, pushCells_keeps _ _ _ _ (Heap.get?_push_of_some _ y1), y2⟩
  show codeAny _ _ (.compStart (.ListComp elt [⟨tg, iter, ifs, 0⟩] scope pos) 0 (.ref it) (.ref D) (compEnvC scope (cellsFrom (s3.heap.objs.size + 1) scope.names (cloFrom X.env.cells scope.names [])) s3.heap.objs.size X.env)) (compPost (model X.prog X.w) X.A X.xe Option.none (EP X pins σ Q) (.ref D) s3.heap.objs.size) { s3 with heap := pushCells (s3.heap.push { cls := .type "dict", data := .dict #[] }) scope.names }
  specialize pg (cellsFrom (s3.heap.objs.size + 1) scope.names (cloFrom X.env.cells scope.names []))
  specialize pts (cellsFrom (s3.heap.objs.size + 1) scope.names (cloFrom X.env.cells scope.names []))
  specialize pe (cellsFrom (s3.heap.objs.size + 1) scope.names (cloFrom X.env.cells scope.names []))
  have eL : (compEnvC scope (cellsFrom (s3.heap.objs.size + 1) scope.names (cloFrom X.env.cells scope.names [])) s3.heap.objs.size X.env).locals = s3.heap.objs.size := rfl
  generalize compEnvC scope (cellsFrom (s3.heap.objs.size + 1) scope.names (cloFrom X.env.cells scope.names [])) s3.heap.objs.size X.env = ce at *
  generalize ({ s3 with heap := pushCells (s3.heap.push { cls := .type "dict", data := .dict #[] }) scope.names } : Shared) = s4 at *
  have hb4 := hotB ce
  have mem1 : it ∈ [it] := List.mem_singleton.mpr rfl
  have fpk : ∀ {σ' : L2.St} {G : Hp} {s' : Shared}, Inv (X.blk s3 H3 scope ce [it]) [] σ' G s' → G it = Option.none → FpOk (X.blk s3 H3 scope ce [it]) [] G it := fun {σ' G s'} J g0 =>
    ⟨g0, (J.ok.exf it mem1).1, J.ok.exfs it mem1, .inl mem1, fun y c e => (J.ok.exf it mem1).2 y c e, fun p hp => absurd (show p ∈ ([] : List (Addr × Obj)) ++ [] from hp) (by simp)⟩
  have loop : ∀ s4 : Shared, Inv (X.blk s3 H3 scope ce [it]) [] (wipe σ (own.map (·.2))) H3 s4 → s4.heap.IsListIter it a 0 → codeAny (model X.prog X.w) X.A (.compLoop (.ListComp elt [⟨tg, iter, ifs, 0⟩] scope pos) 0 (.ref it) (.ref D) ce) (compPost (model X.prog X.w) X.A X.xe Option.none (EP X pins σ Q) (.ref D) s3.heap.objs.size) s4 := by
    intro s4 I4 hit4
    refine compLoop_any (fun n s' => ∃ j G, n = xs.length - j ∧ j ≤ xs.length ∧ Inv (X.blk s3 H3 scope ce [it]) [] (wipe σ (own.map (·.2))) G s' ∧ s'.heap.IsListIter it a j ∧ G it = Option.none ∧ Pv j G) ?_ _ ⟨0, H3, rfl, Nat.zero_le _, I4, hit4, fit3.1, p0⟩
    rintro n s5 ⟨j, G, rfl, le, I5, hi5, g5, pv⟩
    have hL5 : SqL (X.blk s3 H3 scope ce [it]).K G a xs := pl j G le pv
    obtain ⟨its5, rv5, hl5, hz5⟩ := I5.list hL5
    obtain ⟨f0, f1, f2, f3, f4, f5⟩ := fpk I5 g5
    rcases Nat.lt_or_ge j xs.length with lt | ge
    · obtain ⟨u, hu, ru⟩ := rv5.get (List.getElem?_eq_getElem lt)
      refine PySem.wpAny_pyNext_list_item hi5 hl5.isList (x := u) (by simpa using hu) fun g6 hi6 sb6 => ?_
      have I6 : Inv (X.blk s3 H3 scope ce [it]) [] (wipe σ (own.map (·.2))) G { s5 with heap := g6 } := I5.turned (t' := s5.toks) (fun b o nb e => (sb6.2 b nb).trans e) f0 f1 f3 f4 f5
      obtain ⟨o6, y1, y2, y3⟩ := id hi6
      refine go_of (s := { s5 with heap := g6 }) y1 y2 y3 (by decide) ?_
      have I6p := I6.pinned (fp := [it]) (fun b hm => by rw [List.mem_singleton.mp hm]; exact fpk I6 g5) (fun b hm => by rw [List.mem_singleton.mp hm]; exact ⟨o6, y1, fun v z => by rw [y3] at z; cases z⟩)
      refine thnF (pg.run _ _ _ G _ u _ I6p ru (pt j _ G (List.getElem?_eq_getElem lt) pv)) fun _ s8 ⟨σ8, H8, I8, hw8, q8⟩ => ?_
      refine thnF (pts.run _ s8 σ8 H8 _ I8 q8) fun b s9 ⟨H9, I9, q9⟩ => ?_
      have fin : ∀ {s' : Shared} {G' : Hp}, Inv (X.blk s3 H3 scope ce [it]) ([] ++ pinsAt [it] g6) σ8 G' s' → Pv (j + 1) G' → ∃ m, m < xs.length - j ∧ ∃ j' G', m = xs.length - j' ∧ j' ≤ xs.length ∧ Inv (X.blk s3 H3 scope ce [it]) [] (wipe σ (own.map (·.2))) G' s' ∧ s'.heap.IsListIter it a j' ∧ G' it = Option.none ∧ Pv j' G' := fun {s' G'} J nx => by
        have pin := J.pin (it, o6) (List.mem_append_right _ (List.mem_append_right _ (mem_pinsAt mem1 y1)))
        have hln : (wipe σ (own.map (·.2))).length = σ8.length := by rw [← hw8, wipe_length]
        refine ⟨xs.length - (j + 1), by omega, j + 1, G', rfl, lt, (J.unpinned (pins := [])).weak hln (fun i v e => ?_), ⟨o6, pin.1, y2, y3⟩, pin.2.1, nx⟩
        rw [← hw8] at e
        exact (wipe_some e).1
      cases b with
      | false =>
        simp only [Bool.false_eq_true, if_false] at q9 ⊢
        exact fin I9 q9
      | true =>
        simp only [if_true] at q9 ⊢
        refine thnF (pe.run _ s9 σ8 H9 _ I9 q9) fun z s10 ⟨yv, H10, I10, r10, acc, hD10, hz10, nx⟩ => ?_
        exact app_ok (X := X.blk s3 H3 scope ce [it]) I10 hD10 hz10 r10 fun s11 I11 => fin I11 nx
    · have ej : j = xs.length := Nat.le_antisymm le ge
      subst ej
      refine list_end_hot (hb4.hot I5) nxi hi5 hl5.isList (by have := rv5.length; simp; omega) fun g6 eb => ?_
      have I6 : Inv (X.blk s3 H3 scope ce [it]) [] (wipe σ (own.map (·.2))) G { s5 with heap := g6 } := I5.turned (t' := s5.toks) (fun b o nb e => eb b o nb e) f0 f1 f3 f4 f5
      have I7 : Inv X pins σ G { s5 with heap := g6 } := I3.call' (ch := [it]) I6.os I6.base I6.hok I6.bare fun b hm => by
        rw [List.mem_singleton.mp hm]
        exact ⟨fit3.2.2.2.1, fit3.2.1, fit3.2.2.2.2.1, fit3.2.2.2.2.2⟩
      have nC : G s3.heap.objs.size = Option.none := by
        have z : G ce.locals = Option.none := I6.free
        rw [eL] at z
        exact z
      obtain ⟨m, hn, _⟩ := I6.loc
      have hn : g6.Ns ce.locals m := hn
      rw [eL] at hn
      obtain ⟨k0, k1, k2, k3, k4, k5⟩ := I3.fpOk (Nat.le_refl _) nC
      exact ⟨m, hn, fun g7 sb => ⟨.ref D, G, I7.turned (t' := s5.toks) (fun b o nb e => (sb.2 b nb).trans e) k0 k1 k3 k4 k5, rfl, pd G pv⟩⟩
  refine codeAny_compStart_list (loop s4 I4 hit4) ?_
  exact PySem.wpAny_pyIter_listiter hit4 (loop s4 I4 hit4)
end
open PySem.Spec PyProof.Rows
/-! ### isinstance of the handled exception, wherever it was handed -/
def rIsB (K : PySem.W.Frag) (D xh : Addr) : List V → Hp → VK → Prop := fun vs H Q => ∃ (c : V) (u : Value) (b : Bool), vs = [.ref xh, c] ∧ ClsV c u ∧ PySem.W.kitOne K (.ref D) u = some b ∧ Q (.bl b) H
theorem call_isB {X : Cx} {xh D : Addr} {oh : Obj} (hb : HotB X xh oh) (C : ExcC X.K D) (hc : oh.cls = .ref D) (hd : oh.dict = none) : CallR X (.builtin "isinstance") (rIsB X.K D xh) := by
  intro pins s σ H vs us Q I r y
  obtain ⟨c, u, b, rfl, kc, e, q⟩ := y
  obtain ⟨u1, u2, rfl, r1, r2⟩ := vals2 r
  cases (show u1 = Value.ref xh from r1)
  have e2 := kc.eq r2
  subst e2
  obtain ⟨ws, d1, _⟩ := hb.dat
  have J : PySem.W.InstAt s.heap xh oh D none := by
    have g := hb.get I
    obtain ⟨oc, od, oda, osl⟩ := oh
    dsimp only at hc hd d1
    subst hc hd d1
    exact ⟨g, rfl, rfl, trivial⟩
  exact PySem.W.kia_one (PySem.W.handS_kitx_exc C.hg C.hk C.hs C.hd C.ha C.hn C.ht C.hm) I.kIn J e (fun z => nomatch z) fun tk => ⟨.bl b, H, I.tok tk, rfl, q⟩
/-! ### a def called while an exception is handled, that exception told -/
structure HotP (A : Around) (outer : List Env) (H : Hp) (s : Shared) (xh : Addr) (oh : Obj) : Prop where
  hnd : A.handled = some (.ref xh)
  dat : ∃ vs : Array Value, oh.data = .fields vs ∧ HotY.Ctx2 (fun y oy => L2H.PinOk outer H s (y, oy)) vs[2]?
  pin : L2H.PinOk outer H s (xh, oh)
theorem HotP.b {CX : CXT} {P : Program} {w : World} {K : PySem.W.Frag} {mg : Str → Option Value} {base : Heap} {N : List Str} {qual : Str} {scope : Scope} {f : Addr} {cd : Value} {A : Around} {outer : List Env} {s : Shared} {H : Hp} {E : XK} {xh : Addr} {oh : Obj} (h : HotP A outer H s xh oh) :
    HotB (L2H.cxH CX P w K mg base N qual scope f cd A outer s H E (xh, oh)) xh oh := ⟨h.hnd, h.pin.get, h.dat.imp fun vs d => ⟨d.1, d.2.imp fun y oy k _ => ⟨k.get, k.free, k.nofs, fun z => nomatch (show y ∈ ([] : List Addr) from z)⟩⟩, h.pin.free, h.pin.nofs, fun z => nomatch (show xh ∈ ([] : List Addr) from z)⟩
/-- its promise: sp with the exception told -/
def FnB (P : Program) (w : World) (K : PySem.W.Frag) (mg : Str → Option Value) (base : Heap) (k : Nat) (f : Addr) (fd : FuncData) (ps : List Str) (sp : Addr → Value → Option Addr → Sp) : Prop :=
  ∀ (A : Around) (outer : List Env) (s : Shared) (H : Hp) (args : Args) (us : List Value) (vs : List V) (Q : VK) (xh : Addr) (oh : Obj), L2H.RoomH k A → HotP A outer H s xh oh → Env0 P w K mg base A outer s H → BindsTo s fd args (ps.zip us) → Vals vs us → vs.length = ps.length → sp xh oh.cls oh.dict vs H Q E0 →
    codeAny (model P w) A (.call (.ref f) args) (CR CX0 outer P w H s Q E0) s
theorem Fun.okB {P : Program} {w : World} {K : PySem.W.Frag} {mg : Str → Option Value} {base : Heap} {x qual : Str} {st : Stmt} {f : Addr} {fd : FuncData} {N ps : List Str} {k : Nat} {sp : Addr → Value → Option Addr → Sp} (F : L2.Fun K x qual st f fd) (S : FnScope N ps (defScope st))
    (body : ∀ (cdv : Value) (A : Around) (outer : List Env) (s : Shared) (H : Hp) (vs : List V) (Q : VK) (xh : Addr) (oh : Obj), L2H.RoomH k (A.deeper (PyProof.Rows.envOfC qual (defScope st) s.heap.objs.size f cdv)) → HotB (L2H.cxH CX0 P w K mg base N qual (defScope st) f cdv A outer s H E0 (xh, oh)).nox xh oh → sp xh oh.cls oh.dict vs H Q E0 →
      ∃ t, PSs (L2H.cxH CX0 P w K mg base N qual (defScope st) f cdv A outer s H E0 (xh, oh)).nox (defBody st) t ∧ t { nx := fun _ H' => Q .non H', rt := Q } (L2.start N vs) H) : FnB P w K mg base (k + 1) f fd ps sp := by
  obtain ⟨oc, od, kV, doc, pm, an, cdv, ct, osl, rfl, lk, hcd⟩ := F.ex
  intro A outer s H args us vs Q xh oh hr hp e0 hb r hl hsp
  have KX : K.In s.heap := e0.mod.kin.keeps fun b o e => (e0.bs b o e).1
  have hkind : ∀ y ∈ ps.zip us, (defScope st).names.lookup y.1 = some .local ∨ ((defScope st).names.lookup y.1 = some .cell ∧ ((cellsFrom (s.heap.objs.size + 1) (defScope st).names []).lookup y.1).isSome = true) := by
    rintro ⟨n, v⟩ hy
    exact (S.par n (List.of_mem_zip hy).1).imp id fun q => ⟨q, PySem.W.cellsFrom_some _ _ _ (.inl q)⟩
  refine codeAny_call_function hr.depth (KX _ _ lk) rfl S.co S.gen rfl (PySem.W.codeRec_of KX hcd) (hb _ _ _ _ (wpAny_newFunctionEnv_cells S.kind hkind fun env he s1 y => ?_))
  subst he
  refine ⟨(e0.mod.nolimit.keeps fun b o e => (e0.bs b o e).1).keeps y.toInCall.keep, codeAny_func ?_⟩
  have hB := hp.b (CX := CX0) (P := P) (w := w) (K := K) (mg := mg) (base := base) (N := N) (qual := qual) (scope := defScope st) (f := f) (cd := cdv) (E := E0)
  obtain ⟨t, ht, hq⟩ := body cdv A outer s H vs Q xh oh (hr.deeper _) ⟨hB.hnd, hB.obj, hB.dat, hB.unt, hB.nfs, hB.nex⟩ hsp
  have I : Inv (L2H.cxH CX0 P w K mg base N qual (defScope st) f cdv A outer s H E0 (xh, oh)) [] (L2.start N vs) H s1 := L2H.inv_startH S hp.pin e0 hl r y
  refine wpAny_mono (ht.run [] s1 (L2.start N vs) H _ (I.wish _) hq) (fun fl s' z => ?_) fun _ _ z => z.elim
  have z' : SP (L2H.cxH CX0 P w K mg base N qual (defScope st) f cdv A outer s H E0 (xh, oh)) [] { nx := fun _ H' => Q .non H', rt := Q } fl s' := z.unwish
  cases fl with
  | ret u =>
    obtain ⟨v, σ', H', J, rv, q⟩ := z'
    exact ⟨v, H', J.os, J.bare, J.base, J.hok, rv, q⟩
  | next =>
    obtain ⟨σ', H', J, q⟩ := z'
    exact ⟨V.non, H', J.os, J.bare, J.base, J.hok, rfl, q⟩
  | brk => exact z'.elim fun _ y => y.elim fun _ y => y.2.elim
  | cont => exact z'.elim fun _ y => y.elim fun _ y => y.2.elim
/-! ### calls of such defs, out of the suite or out of another such def -/
structure HotG (X : Cx) (xh : Addr) (oh : Obj) : Prop where
  hnd : X.A.handled = some (.ref xh)
  dat : ∃ vs : Array Value, oh.data = .fields vs ∧ HotY.Ctx2 (fun y oy => ∀ {pins : List (Addr × Obj)} {σ : L2.St} {H : Hp} {s : Shared}, Inv X pins σ H s → s.heap.get? y = some oy ∧ H y = none ∧ y ≠ X.env.locals ∧ y ∉ X.fs) vs[2]?
  at_ : ∀ {pins : List (Addr × Obj)} {σ : L2.St} {H : Hp} {s : Shared}, Inv X pins σ H s → s.heap.get? xh = some oh ∧ H xh = none ∧ xh ≠ X.env.locals ∧ xh ∉ X.fs
theorem HotB.g {X : Cx} {xh : Addr} {oh : Obj} (h : HotB X xh oh) : HotG X xh oh := ⟨h.hnd, h.dat.imp fun vs d => ⟨d.1, d.2.imp fun y oy k e => fun {pins σ H s} I => ⟨I.base.keep y oy k.1 k.2.1 k.2.2.1 k.2.2.2, I.base.free y oy k.1 k.2.1 k.2.2.2, nloc_of I (I.base.keep y oy k.1 k.2.1 k.2.2.1 k.2.2.2) e, k.2.2.1⟩⟩, fun I => ⟨h.get I, h.none I, h.nloc I, h.nfs⟩⟩
theorem hotG_suite {X : Cx} {a : Addr} {oe : Obj} {pn : List (Addr × Obj)} {cls : Value} {d : Option Addr} (hz : L2N.Zn cls d oe) (hf : ∃ vs, oe.data = .fields vs) : HotG (X.suite a ((a, oe) :: pn)) a oe := by
  obtain ⟨vs, e⟩ := hf
  refine ⟨rfl, ⟨vs, e, .inl (hz.2.2 vs e)⟩, fun I => ?_⟩
  obtain ⟨h1, h2, h3, h4, _⟩ := I.pin (a, oe) (List.mem_append_left _ List.mem_cons_self)
  exact ⟨h1, h2, h3, h4⟩
/-- the same where its context stands among the pins -/
theorem hotG_suite2 {X : Cx} {a : Addr} {oe : Obj} {pn : List (Addr × Obj)} (hf : ∃ vs : Array Value, oe.data = .fields vs ∧ HotY.Ctx2 (fun y oy => (y, oy) ∈ pn) vs[2]?) : HotG (X.suite a ((a, oe) :: pn)) a oe := by
  obtain ⟨vs, e, c⟩ := hf
  refine ⟨rfl, ⟨vs, e, c.imp fun y oy m _ => fun {pins σ H s} I => ?_⟩, fun I => ?_⟩
  · obtain ⟨h1, h2, h3, h4, _⟩ := I.pin (y, oy) (List.mem_append_left _ (List.mem_cons_of_mem _ m))
    exact ⟨h1, h2, h3, h4⟩
  · obtain ⟨h1, h2, h3, h4, _⟩ := I.pin (a, oe) (List.mem_append_left _ List.mem_cons_self)
    exact ⟨h1, h2, h3, h4⟩
theorem HotG.p {X : Cx} {xh : Addr} {oh : Obj} (h : HotG X xh oh) {pins : List (Addr × Obj)} {σ : L2.St} {H : Hp} {s : Shared} (I : Inv X pins σ H s) : HotP X.A X.stack H s xh oh := by
  obtain ⟨h1, h2, h3, h4⟩ := h.at_ I
  obtain ⟨vs, d1, d2⟩ := h.dat
  exact ⟨h.hnd, ⟨vs, d1, d2.imp fun y oy k e => by
    obtain ⟨k1, k2, k3, k4⟩ := k I
    obtain ⟨vy, dy⟩ := e
    exact ⟨k1, k2, fun z => (List.mem_cons.mp (I.stkSub y z)).elim k3 k4, fun v z => by rw [dy] at z; cases z⟩⟩, h1, h2, fun z => (List.mem_cons.mp (I.stkSub xh z)).elim h3 h4, fun v z => by rw [d1] at z; cases z⟩
def tCallG (sp : Addr → Value → Option Addr → Sp) (xh : Addr) (cls : Value) (dd : Option Addr) (n : Nat) (t : L2.TA) : TE := fun σ H Q => t σ H fun vs H1 => vs.length = n ∧ sp xh cls dd vs H1 Q E0
theorem pe_callG {X : Cx} {k : Nat} {f : Addr} {fd : FuncData} {ps : List Str} {sp : Addr → Value → Option Addr → Sp} {xh : Addr} {oh : Obj} {x : Str} {p pos : Pos} {e : Expr} {es : List Expr} {t : L2.TA} (G : FnB X.prog X.w X.K X.mg X.base k f fd ps sp) (hr : L2H.RoomH k X.A) (hg : HotG X xh oh) {cls : Value} {dd : Option Addr} (hcl : oh.cls = cls) (hdd : oh.dict = dd) (gl : Gl X x) (hm : X.mg x = some (.ref f)) (hk : PySem.W.keepIn X.K (.ref f) = true) (hb : Binds X.K fd ps [])
    (ha : PA X (e :: es) t) (hdb : (x == ("__debug__" : Str)) = false := by decide) (he : starEach (e :: es) X.env = (false, eval e X.env) :: starEach es X.env := by rfl) (hpl : (backTo pos (starEach es X.env)).any (·.1) = false := by rfl) :
    PE X (.Call (.Name x p) (e :: es) [] pos) (tCallG sp xh cls dd ps.length t) := by
  subst hcl hdd
  refine ⟨fun pins s σ H Q I y => ?_⟩
  refine wpAny_Call_Name_kw (ld_glob I gl hm (PySem.W.callWith_K (h₀ := X.base) I.ok.mod.kin hk (thn (ha.run pos pins s σ H _ I y) fun us s1 ⟨vs, H1, I1, r, q⟩ => ⟨I1.kIn, ?_⟩) he hpl) hdb)
  obtain ⟨hl, q⟩ := q
  have hu : us.length = ps.length := by rw [← r.length, hl]
  have hbb : BindsTo s1 fd ⟨us, []⟩ (ps.zip us) := by
    have z := hb s1 us I1.kIn (by rw [List.append_nil]; exact hu)
    rw [List.append_nil] at z
    exact z
  refine wpAny_call (codeAny_mono (G X.A X.stack s1 H1 ⟨us, []⟩ us vs Q xh oh hr (hg.p I1) I1.env0 hbb r hl q) fun rs s' hq => ?_)
  cases rs with
  | error e => exact False.elim hq
  | ok fl =>
    cases fl with
    | ret u => exact I1.after hq
    | next => exact False.elim hq
    | brk => exact False.elim hq
    | cont => exact False.elim hq
/-! ### exceptions in flight whose context stands on the ground (raise .. from None leaves the handled one there) -/
namespace L2C
open PySem.Spec PyProof.Rows L2
def Zx (B : Heap) (H : Hp) (cls : Value) (d : Option Addr) : Obj → Prop := fun o => o.cls = cls ∧ o.dict = d ∧ ∀ vs : Array Value, o.data = .fields vs → HotY.Ctx2 (fun y oy => B.get? y = some oy ∧ H y = none) vs[2]?
theorem fld2 {o : Obj} {v : Value} {vs : Array Value} (e : (o.mapFields (·.setIfInBounds 1 v)).data = .fields vs) : ∃ vs0 : Array Value, o.data = .fields vs0 ∧ vs[2]? = vs0[2]? := by
  obtain ⟨c, d, dt, sl⟩ := o
  cases dt with
  | fields vs0 =>
    have e2 : vs0.setIfInBounds 1 v = vs := Data.fields.inj e
    refine ⟨vs0, rfl, ?_⟩
    rw [← e2]
    first
    | exact Array.getElem?_setIfInBounds_ne (by decide)
    | simp [Array.getElem?_setIfInBounds]
  | _ =>
    first
    | exact Data.noConfusion e
    | cases e
theorem Zx.steady {B : Heap} {H : Hp} {cls : Value} {d : Option Addr} : PXN.Steady1 (Zx B H cls d) := fun o v h => ⟨PXN.steady_cls o v h.1, PXN.steady_dict o v h.2.1, fun vs e => by
  obtain ⟨vs0, e0, e2⟩ := fld2 e
  rw [e2]
  exact h.2.2 vs0 e0⟩
theorem zx_ofN {B : Heap} {H : Hp} {cls : Value} {d : Option Addr} {o : Obj} (h : L2N.Zn cls d o) : Zx B H cls d o := ⟨h.1, h.2.1, fun vs e => .inl (h.2.2 vs e)⟩
theorem traced_imp {h B : Heap} {a : Addr} {Z Z' : Obj → Prop} {fl : Value} (z : ∀ o, Z o → Z' o) (x : HandSPX.TracedZ h B a Z fl) : HandSPX.TracedZ h B a Z' fl := by
  obtain ⟨oe, vs, T, oT, ts, he, hz, r⟩ := x
  exact ⟨oe, vs, T, oT, ts, he, z _ hz, r⟩
theorem sky_imp {B : Heap} {l : List Env} {a L : Addr} {Z Z' : Obj → Prop} {h : Heap} (z : ∀ o, Z o → Z' o) (x : Sky B l a Z L h) : Sky B l a Z' L h := by
  rcases x with ⟨x1, x2, x3, oe, vs, x4, x5, x6⟩ | ⟨x1, x2, x3, x4⟩ | ⟨x1, x2, x3, x4⟩
  · exact .inl ⟨x1, x2, x3, oe, vs, x4, z _ x5, x6⟩
  · exact .inr (.inl ⟨x1, x2, x3, traced_imp z x4⟩)
  · exact .inr (.inr ⟨x1, x2, x3, traced_imp z x4⟩)
/-- in the air of X -/
def XE (X : Cx) (W : WX) (u : Value) (s' : Shared) : Prop :=
  ∃ (a : Addr) (B : Heap) (sI : Shared) (pins : List (Addr × Obj)) (σ : L2.St) (H : Hp) (cls : Value) (d : Option Addr),
    u = .ref a ∧ Inv X pins σ H sI ∧ (∀ b o, sI.heap.get? b = some o → b ∉ frs X.stack → B.get? b = some o) ∧ sI.heap.UpToSlots s'.heap ∧ Sky B X.stack a (Zx B H cls d) X.env.locals s'.heap ∧ H a = none ∧ s'.os = sI.os ∧ AllBare s'.gens ∧ W cls d σ H
def Takes (X : Cx) (W : WX) : Prop := ∀ u s', XE X W u s' → X.xe u s'
theorem XE.ofN {X : Cx} {W : WX} {u : Value} {s' : Shared} (x : L2N.XE X W u s') : XE X W u s' := by
  obtain ⟨a, B, sI, pins, σ, H, cls, d, x1, x2, x3, x4, x5, r⟩ := x
  exact ⟨a, B, sI, pins, σ, H, cls, d, x1, x2, x3, x4, sky_imp (fun o => zx_ofN) x5, r⟩
theorem Takes.n {X : Cx} {W : WX} (t : Takes X W) : L2N.Takes X W := fun u s' x => t u s' (XE.ofN x)
/-- behind a call that let one out -/
def CX (P : Program) (w : World) (outer : List Env) (H : Hp) (s : Shared) (E : XK) (u : Value) (s' : Shared) : Prop :=
  ∃ (a : Addr) (B : Heap) (H' : Hp) (cls : Value) (d : Option Addr), u = .ref a ∧ HandSPX.FlyingZ B outer a (Zx B H' cls d) s'.heap ∧ HOk P w H' B ∧ UB (frs outer) H H' s.heap B s'.heap ∧ H' a = none ∧ s'.os = s.os ∧ AllBare s'.gens ∧ E cls d H'
theorem CX.ofN {P : Program} {w : World} {outer : List Env} {H : Hp} {s : Shared} {E : XK} {u : Value} {s' : Shared} (c : L2N.CX P w outer H s E u s') : CX P w outer H s E u s' := by
  obtain ⟨a, B, H', cls, d, e, ⟨f1, f2, f3, f4⟩, r⟩ := c
  exact ⟨a, B, H', cls, d, e, ⟨f1, f2, f3, traced_imp (fun o => zx_ofN) f4⟩, r⟩
/-- what lets out none but such as have no context may stand among those -/
theorem fn_up {P : Program} {w : World} {K : PySem.W.Frag} {mg : Str → Option Value} {base : Heap} {k : Nat} {f : Addr} {fd : FuncData} {ps : List Str} {sp : Sp} (F : FnOk P w K mg base (L2N.CX P w) k f fd ps sp) : FnOk P w K mg base (CX P w) k f fd ps sp :=
  ⟨F.len, fun A outer s H args us vs Q E hr e0 hb r hsp => codeAny_mono (F.run A outer s H args us vs Q E hr e0 hb r hsp) fun rs s' hq => by
    cases rs with
    | error e => exact CX.ofN hq
    | ok fl => cases fl <;> exact hq⟩
section
variable {X : Cx} {pins : List (Addr × Obj)} {σ : L2.St} {H : Hp} {s s' : Shared} {W : WX} {E : XK} {u : Value}
/-- what a call let out is in the caller's air: the ground and the callers' frames, taken for themselves, are a state of ours -/
theorem XE.of_call (I : Inv X pins σ H s) (hW : ∀ cls d H', E cls d H' → W cls d σ H') (c : CX X.prog X.w X.stack H s E u s') : XE X W u s' := by
  obtain ⟨a, B, H', cls, d, rfl, fl, hok, ub, na, os, ag, hE⟩ := c
  have up0 : B.StaysIn s'.heap := fl.1
  obtain ⟨G, yes, no⟩ := restrict s'.heap fun b => (B.get? b).isSome || decide (b ∈ frs X.stack)
  have inB : ∀ b o, B.get? b = some o → G.get? b = some o := fun b o e => (yes b (by rw [e]; rfl)).trans (up0 b o e)
  have inF : ∀ b, b ∈ frs X.stack → G.get? b = s'.heap.get? b := fun b m => yes b (by rw [decide_eq_true m, Bool.or_true])
  have back : ∀ b o, G.get? b = some o → s'.heap.get? b = some o := fun b o e => by
    cases q : ((B.get? b).isSome || decide (b ∈ frs X.stack)) with
    | true => exact (yes b q).symm.trans e
    | false => exact absurd ((no b q).symm.trans e) (by simp)
  have J : Inv X pins σ H' { s with heap := G, gens := s'.gens, drawn := s'.drawn, toks := s'.toks } :=
    I.call (ch := []) ⟨fun b o e n m _ => inB b o (ub.keep b o e n m), fun b o e _ m _ => (ub.slot b o e m).imp fun sl q => (inF b m).trans q, fun b o e n _ => ub.free b o e n, fun b o e _ => by
      by_cases m : b ∈ frs X.stack
      · obtain ⟨sl, q⟩ := ub.slot b o e m
        exact ⟨_, (inF b m).trans q⟩
      · obtain ⟨o', q⟩ := ub.there b o e m
        exact ⟨o', inB b o' q⟩, ub.tups, ub.frzs, ub.tbls⟩ (hok.kept inB) ag fun _ z => nomatch z
  refine ⟨a, B, _, pins, σ, H', cls, d, rfl, J, fun b o e m => ?_, Heap.UpToSlots.of_keeps back, .inr (.inl fl), na, os, ag, hW _ _ _ hE⟩
  cases q : B.get? b with
  | some o' => exact ((up0 b o' q).symm.trans (back b o e)) ▸ rfl
  | none =>
    have z := no b (by rw [q, decide_eq_false m]; rfl)
    exact absurd (z.symm.trans e) (by simp)
/-- it leaves the def -/
theorem XE.leave (hs : X.stack = X.env :: X.outer) (hf : X.env.frame = some X.env.locals) (hex : X.ex = []) {E₁ : Value → Shared → Prop} (x : XE X (fun cls d _ H => E cls d H) u s') :
    wpAny (model X.prog X.w) X.A (leaving X.env u) (fun _ s'' => CX X.prog X.w X.outer X.H_0 X.s_0 E u s'') E₁ s' := by
  obtain ⟨a, B, sI, pins, σ, H, cls, d, rfl, I, nb, up, sky, na, os, ag, w⟩ := x
  have fr : X.A.frames = some (X.env :: X.outer) := by rw [I.ok.frames, hs]
  have noex : ∀ b, b ∉ X.ex := fun b m => by rw [hex] at m; exact nomatch m
  have offs : ∀ b o, X.s_0.heap.get? b = some o → b ∉ X.fs → b ∉ frs X.stack := fun b o e n m => (List.mem_cons.mp (I.stkSub b m)).elim (fun z => by
    have h1 := Heap.lt_size e
    have h2 := I.ok.above
    rw [z] at h1
    exact absurd (Nat.lt_of_lt_of_le h1 h2) (Nat.lt_irrefl _)) n
  have ground := I.inGround nb
  have done : ∀ g, HandSPX.FlyingZ B X.outer a (Zx B H cls d) g → s'.heap.UpToSlots g → CX X.prog X.w X.outer X.H_0 X.s_0 E (.ref a) { s' with heap := g } := fun g fl up' =>
    ⟨a, B, H, cls, d, rfl, fl, ground, ⟨fun b o e n m => nb b o (I.base.keep b o e n m (noex b)) (offs b o e m), fun b o e m => by
      obtain ⟨_, o₀, e₀, nf⟩ := I.ok.funs.mem m
      rw [e] at e₀
      cases e₀
      obtain ⟨_, y1⟩ := I.base.slot b o e (I.ok.frf b m) m (noex b)
      obtain ⟨_, y2⟩ := up b _ y1 nf
      obtain ⟨sl3, y3⟩ := up' b _ y2 nf
      exact ⟨sl3, y3⟩, fun b o e n => I.base.free b o e n (noex b), fun b o e m => (I.base.there b o e (noex b)).imp fun o' y => nb b o' y (offs b o e m), I.base.tups, I.base.frzs, I.base.tbls⟩, na, os.trans I.os, ag, w⟩
  rw [hs] at sky
  rcases sky with ⟨y1, y2, y3, oe, vs, y4, y5, y6, y7⟩ | fl | hd
  · exact PXN.leaving_firstZ Zx.steady fr y3 hf y4 y1 y2 y6 y7 y5 done
  · exact PXN.leaves_onZ Zx.steady fr hf fl done
  · exact HandSPX.leaves_heldZ hf hd done
theorem takes_of (hs : X.stack = X.env :: X.outer) (hf : X.env.frame = some X.env.locals) (hex : X.ex = []) {E₁ : Value → Shared → Prop}
    (hx : X.xe = fun e s' => wpAny (model X.prog X.w) X.A (leaving X.env e) (fun _ s'' => CX X.prog X.w X.outer X.H_0 X.s_0 E e s'') E₁ s') : Takes X (fun cls d _ H => E cls d H) := fun u s' x => by
  rw [hx]
  exact XE.leave hs hf hex x
theorem passes (tk : Takes X (fun cls d _ H => E cls d H)) : Passes (CX X.prog X.w) X E := fun _ _ _ _ _ _ I c => tk _ _ (XE.of_call I (fun _ _ _ h => h) c)
theorem passesN (tk : Takes X (fun cls d _ H => E cls d H)) : Passes (L2N.CX X.prog X.w) X E := fun _ _ _ _ _ _ I c => tk _ _ (XE.of_call I (fun _ _ _ h => h) (CX.ofN c))
end
/-- of a caught one: its context is None or stands among the pins -/
def CtxP (pn : List (Addr × Obj)) (o : Obj) : Prop := ∃ vs : Array Value, o.data = .fields vs ∧ HotY.Ctx2 (fun y oy => (y, oy) ∈ pn) vs[2]?
/-- try: .. except C as e: of a clause that names all that may come -/
theorem ps_try_as {X : Cx} {x n : Str} {c : Value} {i : Nat} {body suite : List Stmt} {b₀ : Stmt} {np pos pos' : Pos} {tb : WX → TS} {ts : Addr → Value → Option Addr → TS} (hs : X.stack = X.env :: X.outer) (hf : X.env.frame = some X.env.locals) (hN : X.N.Nodup) (hi : X.N[i]? = some n) (hln : X.env.kindOf n = some .local) (hc : Names X x c)
    (hb : ∀ (W : WX) (pn : List (Addr × Obj)) (xe : Value → Shared → Prop), Takes (X.tr pn xe) W → PassesOwn (model X.prog X.w) X.A X.env xe → PSs (X.tr pn xe) body (tb W))
    (hsu : ∀ (a : Addr) (oe : Obj) (cls : Value) (d : Option Addr) (pn : List (Addr × Obj)), oe.cls = cls → oe.dict = d → CtxP pn oe → PSs (X.suite a ((a, oe) :: pn)) (b₀ :: suite) (ts a cls d)) :
    PS X (.Try body [.ExceptHandler (some (.Name x np)) (some n) (b₀ :: suite) pos'] [] [] pos) (fun D σ H => tb (wAs X.K c i ts (fun _ _ _ _ => False) D) D σ H) := by
  refine ⟨fun pins s σ H D I h => ?_⟩
  have ok := I.ok
  have fr : X.A.frames = some (X.env :: X.outer) := by rw [ok.frames, hs]
  refine wpAny_Try_except (wpAny_mono ((hb (wAs X.K c i ts (fun _ _ _ _ => False) D) (X.pn ++ pins) (fun e s₁ => wpAny (model X.prog X.w) X.A (noteFrame e X.env) (fun _ s₂ => wpAny (model X.prog X.w) X.A (setFlight e none) (fun _ s₃ => wpAny (model X.prog X.w) X.A (handleBy e X.env [.ExceptHandler (some (.Name x np)) (some n) (b₀ :: suite) pos']) (SP X pins D) X.xe s₃) X.xe s₂) X.xe s₁) (fun u s' xx => ?_) PassesOwn.looking).run [] s σ H D (I.toTry _) h) (fun f s1 hsp => ?_) fun e s1 he => he)
  · obtain ⟨a, B, sI, _, σ', H', cls, d, rfl, JT, nb, up, sky, na, os, ag, b, hm, hyes, hno⟩ := xx
    obtain rfl : b = true := by
      cases b with
      | true => rfl
      | false => exact (hno rfl).elim
    have J : Inv X pins σ' H' sI := JT.ofTry ok
    show wpAny (model X.prog X.w) X.A (noteFrame (.ref a) X.env) _ _ _
    refine L2N.Sky.land Zx.steady fr hf (show Sky B (X.env :: X.outer) a (Zx B H' cls d) X.env.locals s'.heap by rw [← hs]; exact sky) fun g1 fl1 up1 => ?_
    obtain ⟨o1, w1, eo1, z1, d1⟩ := fl1.there
    have offF : ∀ {B2 h2 : Heap} {o2 : Obj} {w2 : Array Value} {a2 : Addr}, h2.FunFrames B2 (X.env :: X.outer) → h2.get? a2 = some o2 → o2.data = .fields w2 → a2 ∉ frs (X.env :: X.outer) := fun ff eq dq hq => by
      obtain ⟨_, o', e', hd'⟩ := ff.mem hq
      rw [eq] at e'
      cases e'
      exact hd' _ dq
    have offL : ∀ {b : Addr}, b ∉ frs (X.env :: X.outer) → b ≠ X.env.locals := fun off z => off (List.mem_filterMap.mpr ⟨X.env, List.mem_cons_self, by rw [hf, z]⟩)
    have offS : ∀ {b : Addr}, b ∉ frs (X.env :: X.outer) → b ∉ X.fs := fun off hq => by
      obtain ⟨e, he, hq⟩ := List.mem_filterMap.mp hq
      exact off (List.mem_filterMap.mpr ⟨e, List.mem_cons_of_mem _ he, hq⟩)
    have off := offF fl1.2.2.1 eo1 d1
    have J1 : Inv X pins σ' H' { s' with heap := g1 } := J.landed nb fl1.1 (up.trans up1) os ag
    have LT : PySem.W.Looks (model X.prog X.w) g1 (typeOf (.ref a)) cls := fun A Q E s k q => wpAny_typeOf_ref (k _ _ eo1) (by rw [z1.1]; exact q)
    refine wpAny_handleBy_cons (codeAny_handlers_test ?_) (by intro q; cases q)
    have test : ∀ {Q : Value → Shared → Prop} {E : Value → Shared → Prop}, Q c { s' with heap := g1 } → wpAny (model X.prog X.w) (X.A.mark (some (.ref a))) (eval (.Name x np) X.env) Q E { s' with heap := g1 } := fun {Q E} q => by
      have S1 := J1.suite eo1 d1 na (offL off) (offS off)
      obtain ⟨hg, hdbg, hm | ⟨hm, hv, hnn⟩⟩ := hc
      · exact ld_glob (X := X.suite a ((a, o1) :: (X.pn ++ pins))) S1 hg hm q hdbg
      · exact ld_blt (X := X.suite a ((a, o1) :: (X.pn ++ pins))) S1 hg hm hv q hnn hdbg
    refine test ((PySem.W.exm_one (M := model X.prog X.w) J1.kIn LT hm).here ?_)
    refine codeAny_handlers_suite_as (HandSPX.lands_againZ fl1 fun g2 fl2 up2 => ?_)
    obtain ⟨o2, w2, eo2, z2, d2⟩ := fl2.there
    have J2 : Inv X pins σ' H' { s' with heap := g2 } := J.landed nb fl2.1 ((up.trans up1).trans up2) os ag
    -- the context joins the pins
    obtain ⟨pl, cx, hpl⟩ : ∃ pl : List (Addr × Obj), HotY.Ctx2 (fun y oy => (y, oy) ∈ pl) w2[2]? ∧ ∀ p ∈ pl, g2.get? p.1 = some p.2 ∧ H' p.1 = none ∧ ∃ vy : Array Value, p.2.data = .fields vy := by
      rcases z2.2.2 w2 d2 with c0 | ⟨y, oy, vy, c0, ⟨by1, hy⟩, dy, cy⟩
      · exact ⟨[], .inl c0, fun _ m => nomatch m⟩
      · refine ⟨[(y, oy)], .inr ⟨y, oy, vy, c0, List.mem_singleton.mpr rfl, dy, cy⟩, fun p m => ?_⟩
        obtain rfl := List.mem_singleton.mp m
        exact ⟨fl2.1 y oy by1, hy, vy, dy⟩
    have J3 : Inv X (pl ++ pins) σ' H' { s' with heap := g2 } := J2.pins_of fun p m => by
      rcases List.mem_append.mp m with m | m
      · obtain ⟨q1, q2, vy, q3⟩ := hpl p m
        have o' := offF (h2 := g2) fl2.2.2.1 q1 q3
        exact ⟨q1, q2, offL o', offS o', fun v z => by rw [q3] at z; cases z⟩
      · exact J2.pin p (List.mem_append_right _ m)
    have S3 := J3.suite eo2 d2 na (offL off) (offS off)
    have wk : ∀ {σ6 : L2.St} {H6 : Hp} {s6 : Shared}, Inv (X.suite a ((a, o2) :: (X.pn ++ (pl ++ pins)))) [] σ6 H6 s6 → Inv X pins σ6 H6 s6 := fun S6 => (S6.unsuite ok).pins_of fun p m => (S6.unsuite ok).pin p (List.mem_append_right _ (List.mem_append_right _ m))
    refine store_ok (X := X.suite a ((a, o2) :: (X.pn ++ (pl ++ pins)))) (v := .ref a) S3 hN hi (.inl hln) rfl (fun s5 S5 => ?_) (.inr hln)
    refine wpAny_mono ((hsu a o2 cls d (X.pn ++ (pl ++ pins)) z2.1 z2.2.1 ⟨w2, d2, cx.imp fun y oy m _ => List.mem_append_right _ (List.mem_append_left _ m)⟩).run [] s5 _ H' _ S5 (hyes rfl a na)) (fun f s6 hq => ?_) fun _ _ z => False.elim z
    cases f with
    | next =>
      obtain ⟨σ6, H6, S6, q6⟩ := hq
      exact gone_ok (wk S6) hN hi hln fun s7 J7 => ⟨_, _, J7, q6⟩
    | brk =>
      obtain ⟨σ6, H6, S6, q6⟩ := hq
      exact gone_ok (wk S6) hN hi hln fun s7 J7 => ⟨_, _, J7, q6⟩
    | cont =>
      obtain ⟨σ6, H6, S6, q6⟩ := hq
      exact gone_ok (wk S6) hN hi hln fun s7 J7 => ⟨_, _, J7, q6⟩
    | ret u =>
      obtain ⟨v6, σ6, H6, S6, r6, q6⟩ := hq
      exact gone_ok (wk S6) hN hi hln fun s7 J7 => ⟨_, _, _, J7, r6, q6⟩
  · cases f with
    | next => exact hsp.elim fun σ6 y => y.elim fun H6 y => wpAny_execs_nil ⟨σ6, H6, y.1.ofTry ok, y.2⟩
    | brk => exact hsp.elim fun σ6 y => y.elim fun H6 y => ⟨σ6, H6, y.1.ofTry ok, y.2⟩
    | cont => exact hsp.elim fun σ6 y => y.elim fun H6 y => ⟨σ6, H6, y.1.ofTry ok, y.2⟩
    | ret u => exact hsp.elim fun v6 y => y.elim fun σ6 y => y.elim fun H6 y => ⟨v6, σ6, H6, y.1.ofTry ok, y.2⟩
end L2C
/-! ### a lambda without parameters handed to a def, its errors told with their context -/
def lamCxN (X : Cx) (A : Around) (outer : List Env) (s : Shared) (H : Hp) (E : XK) (scope : Scope) (f c : Addr) : Cx :=
  (LamX.lamCx X A outer s H E scope f c).wish fun e s' => wpAny (model X.prog X.w) (A.deeper (LamX.lamEnv X scope s.heap.objs.size f c)) (leaving (LamX.lamEnv X scope s.heap.objs.size f c) e) (fun _ s2 => L2C.CX X.prog X.w outer H s E e s2) (fun e2 s2 => L2C.CX X.prog X.w outer H s E e2 s2) s'
theorem pe_actN {X : Cx} {pins : List (Addr × Obj)} {σ : L2.St} {H : Hp} {s : Shared} {CXg : CXT} {Eg : XK} {Ng : List Str} {qg : Str} {sg : Scope} {g f c : Addr} {cdg pm ctv : Value} {params : Arguments} {body : Expr} {scope : Scope} {k i : Nat} {a : Str} {pn : List (Addr × Obj)} {xe : Value → Shared → Prop} {W : WX} {E : L2.St → XK} {tb : XK → TE} {p1 p2 : Pos}
    (I : Inv X pins σ H s) (L : LamX.LamS X.env.scope scope) (hf : s.heap.get? f = some (PySem.W.kla_obj "<lambda>" (X.env.qual ++ "<lambda>") params body scope (cloFrom X.env.cells scope.names []) pm c ctv)) (hfn : H f = none) (hfr : f ∉ frs X.stack)
    (hbind : bindArgs (PySem.W.kla_fn "<lambda>" (X.env.qual ++ "<lambda>") params body scope (cloFrom X.env.cells scope.names []) pm (.ref c) ctv) ⟨[], []⟩ = pure [])
    (tk : L2C.Takes ((cxOf CXg X.prog X.w X.K X.mg X.base Ng qg sg g cdg X.A X.stack s H Eg).tr pn xe) W) (hW : ∀ cls d σ2 H2, E σ2 cls d H2 → W cls d σ2 H2) (hr : Room (k + 1) (X.A.deeper (envOfC qg sg s.heap.objs.size g cdg)))
    (hbody : ∀ (A : Around) (outer : List Env) (s : Shared) (H : Hp) (E : XK), Room k (A.deeper (LamX.lamEnv X scope s.heap.objs.size f c)) → PE (lamCxN X A outer s H E scope f c) body (tb E))
    (hN : Ng[i]? = some a) (hv : Vis sg a) (hd : (a == ("__debug__" : Str)) = false := by decide) (hcd : (a == ("__classdict__" : Str)) = false := by decide) :
    PE ((cxOf CXg X.prog X.w X.K X.mg X.base Ng qg sg g cdg X.A X.stack s H Eg).tr pn xe) (.Call (.Name a p1) [] [] p2) (fun σZ HZ Q => σZ[i]? = some (some (.ref f)) ∧ HZ c = some (LamX.CodeO c (X.env.qual ++ "<lambda>")) ∧ tb (E σZ) σ HZ Q) := by
  refine ⟨fun pz sz σz Hz Q Iz ⟨hs, hc, y⟩ => ?_⟩
  refine wpAny_Call_Name_kw (thn ((pe_var (pos := p1) (i := i) hN hv hd hcd).run pz sz σz Hz (fun v H1 => v = .ref f ∧ H1 = Hz) Iz ⟨.ref f, hs, rfl, rfl⟩) fun u s1 ⟨v, H1, I1, r1, ev, eH⟩ => ?_)
  subst ev eH
  cases (show u = Value.ref f from r1)
  have of1 := I1.base.keep f _ hf hfn hfr (fun z => nomatch (show f ∈ ([] : List Addr) from z))
  refine PySem.W.callWith_F0 ⟨_, _, _, _, of1⟩ ?_
  obtain ⟨⟨oc, vs, t, hoc, hdc, hvc⟩, _, _⟩ := I1.hok c _ hc
  have run : codeAny (model X.prog X.w) (X.A.deeper (envOfC qg sg s.heap.objs.size g cdg)) (.call (.ref f) ⟨[], []⟩) (CR (L2C.CX X.prog X.w) (envOfC qg sg s.heap.objs.size g cdg :: X.stack) X.prog X.w H1 s1 Q (E σz)) s1 := by
    refine PySem.W.kla_callFunE hr.depth of1 rfl L.co L.gen rfl ⟨c, oc, vs, t, rfl, hoc, hdc, hvc⟩ ?_
    rw [hbind]
    refine wpAny_pure (wpAny_newFunctionEnv (fun y hy => (L.own y hy).2) (fun y hy => absurd hy (by simp)) (fun g1 hns hsb => ⟨I1.nolimit.fresh _ hsb, ?_⟩) L.kind)
    have kp : ∀ b o, s1.heap.get? b = some o → g1.get? b = some o := fun b o e => hsb.extBut b o (Nat.ne_of_lt (Heap.lt_size e)) (Heap.get?_push_of_some _ e)
    have J := LamX.lam_start2 (E := E σz) (f := f) (c' := c) (tk := s1.toks + ([] : List (Str × Value)).length) I L I1.env0 hr.hd I1.base hns kp
    refine PySem.W.kla_codeExpr (wpAny_mono ((hbody _ _ s1 H1 (E σz) (hr.deeper _)).run [] _ _ H1 Q (J.wish _) y) (fun v s3 ⟨w3, H3, J3, rv, q⟩ => ⟨w3, H3, J3.os, J3.bare, J3.base, J3.hok, rv, q⟩) fun e s3 z => z)
  refine wpAny_call (codeAny_mono run fun rs s2 hq => ?_)
  cases rs with
  | error e => exact tk e s2 (L2C.XE.of_call I1 (fun cls d H' h => hW cls d σz H' h) hq)
  | ok fl =>
    cases fl with
    | ret u => exact I1.after hq
    | next => exact False.elim hq
    | brk => exact False.elim hq
    | cont => exact False.elim hq
/-- the def that calls what it got; TT: what it makes of the lambda's reading -/
def GivesN (X : Cx) (Ng : List Str) (x : Str) (sg : Scope) (g : Addr) (cdg : Value) (bg : List Stmt) (a q : Str) (TT : (XK → Hp → VK → Prop) → Hp → VK → Prop) : Prop :=
  ∀ (k : Nat) (f c : Addr) (s : Shared) (H : Hp) (Q : VK) (tl : XK → Hp → VK → Prop), Room k (X.A.deeper (envOfC x sg s.heap.objs.size g cdg)) → 40 ≤ k →
    (∀ (W : WX) (pn : List (Addr × Obj)) (xe : Value → Shared → Prop) (E : L2.St → XK) (p1 p2 : Pos), L2C.Takes ((cxOf CX0 X.prog X.w X.K X.mg X.base Ng x sg g cdg X.A X.stack s H E0).tr pn xe) W → (∀ cls d σ2 H2, E σ2 cls d H2 → W cls d σ2 H2) →
      PE ((cxOf CX0 X.prog X.w X.K X.mg X.base Ng x sg g cdg X.A X.stack s H E0).tr pn xe) (.Call (.Name a p1) [] [] p2) (fun σZ HZ Q => σZ[0]? = some (some (.ref f)) ∧ HZ c = some (LamX.CodeO c q) ∧ tl (E σZ) HZ Q)) →
    H c = some (LamX.CodeO c q) → TT tl H Q →
    ∃ t, PSs (cxOf CX0 X.prog X.w X.K X.mg X.base Ng x sg g cdg X.A X.stack s H E0).nox bg t ∧ t { nx := fun _ H' => Q .non H', rt := Q } (L2.start Ng [.ref f]) H
theorem pe_lamN {X : Cx} {T : List (Addr × Str)} {TT : (XK → Hp → VK → Prop) → Hp → VK → Prop} {x a : Str} {g c P : Addr} {k : Nat} {pg : Arguments} {bg : List Stmt} {sg : Scope} {dV kV doc pm cdv ct oc : Value} {an od : Option Addr} {osl : Array (Option Value)} {Ng : List Str}
    {params : Arguments} {body : Expr} {scope : Scope} {t : XK → TE} {p lpos pos : Pos} (hg : Gl X x) (hm : X.mg x = some (.ref g)) (hk : PySem.W.keepIn X.K (.ref g) = true)
    (lk : X.K.lookup g = some ⟨oc, od, .func (PySem.W.fnOf x x pg bg sg dV kV doc pm an cdv ct), osl⟩) (hcg : PySem.W.codeIn X.K cdv x = true) (hb : Binds X.K (PySem.W.fnOf x x pg bg sg dV kV doc pm an cdv ct) [a] []) (Sg : FnScope Ng [a] sg) (hNg : Ng[0]? = some a) (hva : Vis sg a)
    (hG : GivesN X Ng x sg g cdv bg a (X.env.qual ++ "<lambda>") TT) (TB : LamX.TabB X.base X.mg c P) (hcode : X.env.code = .ref c) (hmT : (P, X.env.qual ++ "<lambda>") ∈ T) (hu : ∀ p ∈ T, p.1 = P → p.2 = X.env.qual ++ "<lambda>") (hr : Room (k + 2) X.A) (k40 : 40 ≤ k + 1) (L : LamX.LamS X.env.scope scope) (hdef : defaultsOf params X.env = ([], []))
    (hbind : ∀ (q : Str) (cl : List (Str × Addr)) (pm cv ctv : Value), bindArgs (PySem.W.kla_fn "<lambda>" q params body scope cl pm cv ctv) ⟨[], []⟩ = pure [])
    (hbody : ∀ (A : Around) (outer : List Env) (s : Shared) (H : Hp) (E : XK) (f c2 : Addr), Room k (A.deeper (LamX.lamEnv X scope s.heap.objs.size f c2)) → PE (lamCxN X A outer s H E scope f c2) body (t E))
    (hdb : (x == ("__debug__" : Str)) = false := by decide) (hd : (a == ("__debug__" : Str)) = false := by decide) (hcd : (a == ("__classdict__" : Str)) = false := by decide) :
    PE X (.Call (.Name x p) [.Lambda params body scope lpos] [] pos) (LamX.tLam T TT t) := by
  refine ⟨fun pins s σ H Q I ⟨hT, y⟩ => ?_⟩
  refine wpAny_Call_Name_kw (ld_glob I hg hm (PySem.W.callWith_K (h₀ := X.base) I.ok.mod.kin hk ?_ (by rfl) (by rfl)) hdb)
  show wpAny _ _ (spliced ((false, eval (.Lambda params body scope lpos) X.env) :: backTo pos (starEach [] X.env))) _ _ s
  refine Calls.spliced_cons (LamX.lam_make2 I TB hcode hmT hu hT hdef (L.has I.ok) fun f c2 pm2 ctv H1 s1 I1 eN T1 hf hfn hfr hco => Calls.spliced_nil ⟨I1.kIn, ?_⟩)
  have run : codeAny (model X.prog X.w) X.A (.call (.ref g) ⟨[.ref f], []⟩) (CR CX0 X.stack X.prog X.w H1 s1 Q E0) s1 := by
    refine LamX.run_ofS (N := Ng) (ps := [a]) (us := [.ref f]) (vs := [.ref f]) lk hcg Sg hr I1.env0 (hb s1 [.ref f] I1.kIn rfl) (.cons rfl .nil) rfl fun hr2 => ?_
    obtain ⟨t2, ht2, hq2⟩ := hG _ f c2 s1 H1 Q (fun E H' Q' => t E σ H' Q') hr2 k40 (fun W pn xe E p1 p2 tk hW => pe_actN (i := 0) I1 L hf hfn hfr (hbind _ _ _ _ _) tk hW hr2 (fun A outer s H E hr3 => hbody A outer s H E f c2 hr3) hNg hva hd hcd) hco (y H1 eN T1)
    exact ⟨t2, ht2.nox, hq2⟩
  refine wpAny_call (codeAny_mono run fun rs s2 hq => ?_)
  cases rs with
  | error e => exact (show False from hq).elim
  | ok fl =>
    cases fl with
    | ret u => exact I1.after hq
    | next => exact False.elim hq
    | brk => exact False.elim hq
    | cont => exact False.elim hq
/-! ### try: return ('value', ask()) / except TermError as e: the error's word and field -/
/-- a class that TermError names -/
structure Wd (K : PySem.W.Frag) (CT D : Addr) (dd : Option Addr) : Prop where
  exc : ExcC K D
  nod : dd = none
  mat : PySem.W.exmOne K (.ref D) (.ref CT) = some true
def spName (K : PySem.W.Frag) (CT : Addr) (word : Addr → Option Str) : Addr → Value → Option Addr → Sp := fun xh cls dd vs H Q _ => ∃ (D : Addr) (nm : Str), cls = .ref D ∧ Wd K CT D dd ∧ word D = some nm ∧ vs = [.ref xh] ∧ ∀ H', Same H H' → Q (.str nm) H'
def spField (word : Addr → Option Str) (fld : Addr → Option Addr → Hp → V → Prop) : Addr → Value → Option Addr → Sp := fun xh cls dd vs H Q _ => ∃ (D : Addr) (nm : Str) (v : V), cls = .ref D ∧ word D = some nm ∧ fld D dd H v ∧ vs = [.ref xh, .str nm] ∧ ∀ H', Same H H' → Q v H'
def tSuite (K : PySem.W.Frag) (CT : Addr) (word : Addr → Option Str) (fld : Addr → Option Addr → Hp → V → Prop) (a : Addr) (cls : Value) (d : Option Addr) : TS :=
  tSeq (tAsg (tCallG (spName K CT word) a cls d 1 (tCons (tVar 1) tNil)) (gName 2)) (tRet (tTup (tCons (tVar 2) (tCons (tCallG (spField word fld) a cls d 2 (tCons (tVar 1) (tCons (tVar 2) tNil))) tNil))))
def TTry (K : PySem.W.Frag) (CT : Addr) (word : Addr → Option Str) (fld : Addr → Option Addr → Hp → V → Prop) : (XK → Hp → VK → Prop) → Hp → VK → Prop := fun tl H Q =>
  ∀ f : Addr, tl (fun cls d H2 => wAs K (.ref CT) 1 (tSuite K CT word fld) (fun _ _ _ _ => False) { nx := fun _ H' => Q .non H', rt := Q } cls d [some (.ref f), none, none] H2) H
    (fun v H' => 2 ≤ sizeLine ∧ ∀ p, H' p = none → Q (.ref p) (upd H' p (.tup [.str ("value" : Str), v])))
theorem wTry {K : PySem.W.Frag} {CT : Addr} {word : Addr → Option Str} {fld : Addr → Option Addr → Hp → V → Prop} {Q : VK} {n : L2.St → Hp → Prop} {cls : Value} {dd : Option Addr} {f D : Addr} {nm : Str} {v : V} {H' : Hp}
    (hst : ∀ D dd H H' v, Same H H' → fld D dd H v → fld D dd H' v) (e : cls = .ref D) (hw : Wd K CT D dd) (ew : word D = some nm) (hf : fld D dd H' v) (h : ∀ (p : Addr) (H2 : Hp), Same H' H2 → H2 p = none → Q (.ref p) (upd H2 p (.tup [.str nm, v]))) :
    wAs K (.ref CT) 1 (tSuite K CT word fld) (fun _ _ _ _ => False) { nx := n, rt := Q } cls dd [some (.ref f), none, none] H' := by
  subst e
  refine ⟨true, hw.mat, fun _ a _ => ?_, fun z => nomatch z⟩
  refine ⟨_, rfl, rfl, D, nm, rfl, hw, ew, rfl, fun H1 k1 => ?_⟩
  refine ⟨_, rfl, _, rfl, _, rfl, rfl, D, nm, v, rfl, ew, hst _ _ _ _ _ k1 hf, rfl, fun H2 k2 => ⟨by show 2 ≤ sizeLine; decide, fun p hp => h p H2 (k1.trans k2) hp⟩⟩
theorem try_gives {X : Cx} {x q : Str} {sg : Scope} {g CT fN fF : Addr} {cdg : Value} {fdN fdF : FuncData} {word : Addr → Option Str} {fld : Addr → Option Addr → Hp → V → Prop} {j1 n1 n2 : Nat} {q1 q2 q3 q4 q5 q6 q7 q8 q9 p1 p2 p3 p4 p5 p6 p7 p8 p9 q10 q11 : Pos}
    (s0 : sg.names.lookup ("_law_ask" : Str) = some .local) (s1 : sg.names.lookup ("_law_e" : Str) = some .local) (s2 : sg.names.lookup ("_law_word" : Str) = some .local) (g1 : sg.names.lookup ("TermError" : Str) = some .globalImplicit) (g2 : sg.names.lookup ("_law_error_name" : Str) = some .globalImplicit) (g3 : sg.names.lookup ("_law_error_field" : Str) = some .globalImplicit)
    (mT : X.mg ("TermError" : Str) = some (.ref CT)) (mN : X.mg ("_law_error_name" : Str) = some (.ref fN)) (mF : X.mg ("_law_error_field" : Str) = some (.ref fF)) (kN : PySem.W.keepIn X.K (.ref fN) = true) (kF : PySem.W.keepIn X.K (.ref fF) = true) (bN : Binds X.K fdN [("_law_e" : Str)] []) (bF : Binds X.K fdF [("_law_e" : Str), "_law_word"] [])
    (GN : FnB X.prog X.w X.K X.mg X.base 3 fN fdN [("_law_e" : Str)] (spName X.K CT word)) (GF : FnB X.prog X.w X.K X.mg X.base 3 fF fdF [("_law_e" : Str), "_law_word"] (spField word fld)) :
    GivesN X [("_law_ask" : Str), "_law_e", "_law_word"] x sg g cdg [.Try [.Return (some (.Tuple [.Constant (.str ("value" : Str)) j1 p1, .Call (.Name ("_law_ask" : Str) p2) [] [] p3] n1 p4)) p5] [.ExceptHandler (some (.Name ("TermError" : Str) p6)) (some ("_law_e" : Str)) [.Assign [.Name ("_law_word" : Str) q1] (.Call (.Name ("_law_error_name" : Str) q2) [.Name ("_law_e" : Str) q3] [] q4) q5, .Return (some (.Tuple [.Name ("_law_word" : Str) q6, .Call (.Name ("_law_error_field" : Str) q7) [.Name ("_law_e" : Str) q8, .Name ("_law_word" : Str) q9] [] p7] n2 p8)) p9] q10] [] [] q11] ("_law_ask" : Str) q (TTry X.K CT word fld) := by
  intro k f c s H Q tl hr k40 act hc y
  have hr3 := hr.mono (show 3 ≤ k by omega)
  have nd : ([("_law_ask" : Str), "_law_e", "_law_word"] : List Str).Nodup := by decide +kernel
  refine ⟨_, pss_one (L2C.ps_try_as (i := 1) (c := .ref CT) (tb := fun W => tRet (tTup (tCons (tC (.str ("value" : Str))) (tCons (fun σZ HZ Q => σZ[0]? = some (some (.ref f)) ∧ HZ c = some (LamX.CodeO c q) ∧ tl (fun cls d H2 => W cls d σZ H2) HZ Q) tNil))))
    (ts := tSuite X.K CT word fld) rfl rfl nd rfl s1 ⟨g1, by decide +kernel, .inl mT⟩
    (fun W pn xe tk _ => pss_one (ps_ret (pe_tup (pa_cons pe_str (pa_cons (act W pn xe (fun σ2 cls d H2 => W cls d σ2 H2) _ _ tk (fun _ _ _ _ h => h)) pa_nil)))))
    (fun a oe cls d pn hz1 hz2 hf => pss_cons (ps_set (i := 2) nd rfl (.inl s2) (by exact pe_callG (X := Cx.suite (cxOf CX0 X.prog X.w X.K X.mg X.base [("_law_ask" : Str), "_law_e", "_law_word"] x sg g cdg X.A X.stack s H E0).nox a ((a, oe) :: pn)) GN ⟨hr3.dp, hr3.un⟩ (hotG_suite2 hf) hz1 hz2 g2 mN kN bN (pa_cons (pe_var (i := 1) rfl (.inl s1)) pa_nil)))
      (pss_one (ps_ret (pe_tup (pa_cons (pe_var (i := 2) rfl (.inl s2)) (pa_cons (by exact pe_callG (X := Cx.suite (cxOf CX0 X.prog X.w X.K X.mg X.base [("_law_ask" : Str), "_law_e", "_law_word"] x sg g cdg X.A X.stack s H E0).nox a ((a, oe) :: pn)) GF ⟨hr3.dp, hr3.un⟩ (hotG_suite2 hf) hz1 hz2 g3 mF kF bF (pa_cons (pe_var (i := 1) rfl (.inl s1)) (pa_cons (pe_var (i := 2) rfl (.inl s2)) pa_nil))) pa_nil))))))), ?_⟩
  exact ⟨rfl, hc, y f⟩
section OPN
open PySem PySem.Spec PyProof.Rows
/-! ### an own exception whose __init__ says super().__init__(text), then self.f = x -/
/-- the context of such a body: its only cell is __class__'s, in the written part -/
def cxS (CX : CXT) (P : Program) (w : World) (K : PySem.W.Frag) (mg : Str → Option Value) (base : Heap) (N : List Str) (qual : Str) (scope : Scope) (f : Addr) (cd : Value) (cc : Addr) (A : Around) (outer : List Env) (s : Shared) (H : Hp) (E : XK) : Cx where
  prog := P
  w := w
  K := K
  mg := mg
  base := base
  A := A.deeper (PySem.W.ksEnv qual scope s.heap.objs.size f cd cc)
  N := N
  s_0 := s
  H_0 := H
  env := PySem.W.ksEnv qual scope s.heap.objs.size f cd cc
  outer := outer
  stack := PySem.W.ksEnv qual scope s.heap.objs.size f cd cc :: outer
  ex := []
  calm := true
  fn := fun _ => false
  pn := []
  xe := fun e s' => wpAny (model P w) (A.deeper (PySem.W.ksEnv qual scope s.heap.objs.size f cd cc)) (leaving (PySem.W.ksEnv qual scope s.heap.objs.size f cd cc) e) (fun _ s'' => CX outer H s E e s'') (fun e' s'' => CX outer H s E e' s'') s'
/-- the scope of such a def -/
structure SupScope (ps : List Str) (sc : Scope) : Prop where
  kind : sc.kind = .function
  co : sc.isCoroutine = false
  gen : sc.isGenerator = false
  nd : ps.Nodup
  par : ∀ x ∈ ps, sc.names.lookup x = some .local
  sup : sc.names.lookup ("super" : Str) = some .globalImplicit
  cls : sc.names.lookup ("__class__" : Str) = some .free
  noc : ∀ y ∈ sc.names, y.2 ≠ .cell
  fre : ∀ x, sc.names.lookup x = some .free → x = ("__class__" : Str)
theorem rev_lookup {ps : List Str} {us : List Value} {i : Nat} {y : Str} {u : Value} (nd : ps.Nodup) (hp : ps[i]? = some y) (hu : us[i]? = some u) : (ps.zip us).reverse.lookup y = some u := by
  have gen : ∀ {l : List (Str × Value)} {n : Str} {c : Value}, (l.map (·.1)).Nodup → (n, c) ∈ l → l.lookup n = some c := fun {l n c} => by
    induction l with
    | nil => intro _ h; cases h
    | cons p r ih =>
      intro hn h
      obtain ⟨k, d⟩ := p
      rw [List.map_cons, List.nodup_cons] at hn
      rw [List.lookup_cons]
      rcases List.mem_cons.mp h with e | h2
      · cases e
        rw [beq_self_eq_true]
      · have ne : (n == k) = false := by
          rw [beq_eq_false_iff_ne]
          rintro rfl
          exact hn.1 (List.mem_map.mpr ⟨_, h2, rfl⟩)
        rw [ne]
        exact ih hn.2 h2
  refine gen ?_ ?_
  · rw [List.map_reverse]
    unfold List.Nodup
    rw [List.pairwise_reverse]
    have e : (ps.zip us).map (·.1) = ps.take us.length := by
      clear hp hu nd
      induction ps generalizing us with
      | nil => simp
      | cons a r ih =>
        cases us with
        | nil => rfl
        | cons b s =>
          rw [List.zip_cons_cons, List.map_cons, ih]
          rfl
    rw [e]
    exact (nd.sublist (List.take_sublist _ _)).imp fun h z => h z.symm
  · rw [List.mem_reverse]
    refine List.mem_of_getElem? (i := i) ?_
    rw [List.getElem?_zip_eq_some]
    exact ⟨hp, hu⟩
theorem inv_startS {CX : CXT} {P : Program} {w : World} {K : PySem.W.Frag} {mg : Str → Option Value} {base : Heap} {ps : List Str} {qual : Str} {scope : Scope} {f cc D : Addr} {cd cl : Value} {cld : Option Addr} {csl : Array (Option Value)} {A : Around} {outer : List Env} {s : Shared} {h1 : Heap} {tk : Nat} {H : Hp} {E : XK} {us : List Value} {vs : List V}
    (S : SupScope ps scope) (hcell : K.lookup cc = some ⟨cl, cld, .cell (some (.ref D)), csl⟩) (hd : A.handled = none) (e0 : Env0 P w K mg base A outer s H) (hl : vs.length = ps.length) (r : Vals vs us)
    (ns : h1.Ns s.heap.objs.size (fun x => (ps.zip us).reverse.lookup x)) (hk : ∀ b o, s.heap.get? b = some o → h1.get? b = some o) :
    Inv (cxS CX P w K mg base ps qual scope f cd cc A outer s H E) [] (vs.map some) H { s with heap := h1, toks := tk } := by
  have KX : K.In s.heap := e0.mod.kin.keeps fun b o e => (e0.bs b o e).1
  have noA : ∀ b : Addr, b ∉ (cxS CX P w K mg base ps qual scope f cd cc A outer s H E).ex := fun b z => absurd (show b ∈ ([] : List Addr) from z) (by simp)
  have look1 : ∀ y c, (cxS CX P w K mg base ps qual scope f cd cc A outer s H E).env.cells.lookup y = some c → y = ("__class__" : Str) ∧ c = cc := fun y c h => by
    have h : List.lookup y [(("__class__" : Str), cc)] = some c := h
    rw [List.lookup_cons] at h
    by_cases q : (y == ("__class__" : Str)) = true
    · rw [q] at h
      exact ⟨eq_of_beq q, (Option.some.inj h).symm⟩
    · rw [Bool.not_eq_true] at q
      rw [q] at h
      cases h
  have base0 : base.get? cc = some ⟨cl, cld, .cell (some (.ref D)), csl⟩ := e0.mod.kin _ _ hcell
  refine ⟨⟨e0.mod, S.kind, rfl, rfl, Nat.le_refl _, fun y z c h1 h2 => ?_, fun y hy => ?_, fun y c h => ?_, fun _ => hd, Around.frames_deeper e0.frames, .inr ⟨rfl, rfl⟩, fun b z => absurd z (noA b), e0.bs, e0.bsz, fun b _ _ => noA b, fun b z => absurd z (noA b), e0.funs, e0.frf⟩,
    rfl, e0.bare, Un.kept hk, ⟨_, ns, fun i y v h1 h2 h3 => ?_⟩, fun y c h => ?_, e0.hok.fresh (Nat.le_refl _), fun y c h => ?_, fun p hp => absurd (show p ∈ ([] : List (Addr × Obj)) from hp) (by simp), e0.hok.kept hk, ?_⟩
  · rw [(look1 _ _ h1).1, (look1 _ _ h2).1]
  · have hy : scope.names.lookup y = some .cell ∨ scope.names.lookup y = some .free := hy
    rcases hy with hy | hy
    · exact absurd rfl (S.noc _ (PySem.mem_of_lookup hy))
    · exact ⟨cc, by rw [S.fre _ hy]; rfl⟩
  · exact nomatch h
  · have ha : vs[i]? = some v := by
      rw [List.getElem?_map] at h2
      cases e : vs[i]? with
      | none => rw [e] at h2; cases h2
      | some a => rw [e] at h2; cases h2; rfl
    obtain ⟨u, hu, rv⟩ := r.get ha
    have hp : ps[i]? = some y := h1
    refine ⟨u, rv, .inl ⟨S.par y (List.mem_of_getElem? hp), ?_⟩⟩
    exact rev_lookup S.nd hp hu
  · obtain ⟨rfl, rfl⟩ := look1 _ _ h
    exact ⟨_, _, hk _ _ (KX _ _ hcell), rfl⟩
  · obtain ⟨rfl, rfl⟩ := look1 _ _ h
    exact (e0.bs _ _ base0).2
  · show (vs.map some).length = ps.length
    rw [List.length_map, hl]
/-- the bound ValueError.__init__, called -/
theorem call_mw {X : Cx} {pins : List (Addr × Obj)} {σ : L2.St} {H : Hp} {s : Shared} {a C u : Addr} {us : List Value} {A : Around} {E : Value → Shared → Prop} {Q : Value → Shared → Prop} (T : OexC X.K C) (I : Inv X pins σ H s) (e : H a = some (exo a C none)) (hu : s.heap.get? u = some (PySem.W.kxs_mw "ValueError.__init__" a)) (hl : us.length ≤ sizeLine) (h : ∀ s', Inv X pins σ H s' → Q .none s') :
    wpAny (model X.prog X.w) A (call (.ref u) us) Q E s := by
  obtain ⟨nm, q, N, bs, bm, sn, sub, ab, col, dd, k0, k1, k2, k3, k5, hC, hbm⟩ := T.cls
  obtain ⟨t1, ho⟩ := exo_at I.hok e
  obtain ⟨hp, g, d, t, os⟩ := s
  refine wpAny_call (codeAny_of_tree ?_)
  show wpAny _ A.in1 (callAny (.ref u) ⟨us, []⟩) _ _ _
  simp only [callAny]
  refine wpAny_bind (wpAny_load hu ?_)
  simp only [PySem.W.kxs_mw, show (Value.type "method-wrapper" == Value.type "method" || Value.type "method-wrapper" == Value.type "builtin_function_or_method" || Value.type "method-wrapper" == Value.type "method-wrapper") = true by decide, if_true]
  refine PySem.W.KFB.if_so (by decide) ?_
  refine wpAny_bind (PySem.W.check_bound_init PySem.F.excBase_ValueError.toExcCallFacts (I.kIn _ _ hC) ho rfl ?_)
  refine wpAny_bind (wpAny_pure (wpAny_pure ?_))
  refine ⟨plainId_quiet PySem.F.excBase_ValueError.init.plain _, codeAny_builtin PySem.F.excBase_ValueError.initEntry ?_⟩
  refine PySem.W.exc_init_tree (cls := .ref C) (t0 := t1) (dv := none) (c2 := .none) (c3 := .none) (b4 := .bool false) ho hl fun h' k hx _ => ?_
  have J := I.write (t' := t) (x := a) (e := a) (o := exo a C none) (by rw [e]; exact True.intro) (.inl rfl) k ⟨_, hx⟩ (exo_ok hx)
  have eu : upd H a (exo a C none) = H := by
    funext b
    by_cases hb : b = a
    · rw [hb, upd_same, e]
    · rw [upd_ne hb]
  rw [eu] at J
  exact h _ J
theorem cw1 {M : Model} {A : Around} {E : Value → Shared → Prop} {s : Shared} {pos : Pos} {u x : Addr} {i : String} {env : Env} {e : Expr} {Q : Value → Shared → Prop} (h : wpAny M A (spliced (backTo pos (starEach [e] env))) (fun vs s₁ => PySem.W.KxsAt i u x s₁.heap ∧ wpAny M A (call (.ref u) vs) Q E s₁) E s)
    (he : starEach [e] env = [(false, eval e env)]) : wpAny M A (callWith pos (.ref u) [] (backTo pos (starEach [e] env)) []) Q E s := by
  rw [he] at h ⊢
  exact PySem.W.kxs_callWith (i := i) (x := x) rfl (PySem.Calls.evalArgs_plain h)
/-- such an __init__: the exception gets its dict, with the one field -/
def spS (C : Addr) (fld : Str) (okv : V → Prop) : Sp := fun vs H Q _ => ∃ (a : Addr) (v : V), vs = [.ref a, v] ∧ H a = some (exo a C none) ∧ okv v ∧ ∀ dx, H dx = none → dx ≠ a → Q .non (upd (upd H dx (exd dx [(fld, v)])) a (exo a C (some dx)))
open PySem.W in
theorem ok_sup {CX : CXT} {P : Program} {w : World} {K : PySem.W.Frag} {mg : Str → Option Value} {base : Heap} {f cda cc C : Addr} {name qual sf xn fld file : Str} {params : Arguments} {scope : Scope} {dV kV doc pm ct oc cl ccl : Value} {an od cld cdd : Option Addr} {osl csl ccs : Array (Option Value)} {cvs : Array Value} {tf : Tok} {ar : Arg} {e : Expr} {okv : V → Prop} {p0 p1 p2 p3 p4 q1 q2 q3 q4 : Pos}
    (lk : K.lookup f = some ⟨oc, od, .func (ksFn name qual params [.Expr (.Call (.Attribute (.Call (.Name ("super" : Str) p0) [] [] p1) ("__init__" : Str) p2) [e] [] p3) p4, .Assign [.Attribute (.Name sf q1) fld q2] (.Name xn q3) q4] scope dV kV doc pm an (.ref cda) ct cc), osl⟩)
    (hcd : codeIn K (.ref cda) qual = true) (S : SupScope [sf, xn] scope) (hp : (params.posonlyargs ++ params.args).head? = some ar) (har : ar.arg = sf)
    (hcode : K.lookup cda = some ⟨ccl, cdd, .fields cvs, ccs⟩) (hvs : cvs[2]? = some (.str file tf)) (hfile : ((P.main.file : Str) == file) = true) (htop : (P.main.scope.names.lookup ("super" : Str)).isSome = false)
    (hcell : K.lookup cc = some ⟨cl, cld, .cell (some (.ref C)), csl⟩) (T : OexC K C) (hsub : mroIn K C (.ref C) = some true) (hsuper : mg ("super" : Str) = none) (ho : nsIn K cStatics "thirdparty.any" = some none)
    (hm : ks_superIn K C C "__init__" = some (some (.builtin "ValueError.__init__"))) (hB : subIn K (.ref C) (.type "ValueError") = some true) (hno : findIn K (.ref C) fld = some none)
    (he : ∀ (A : Around) (outer : List Env) (s : Shared) (H : Hp) (E : XK) (a : Addr) (v : V), okv v → ∃ ta, PA (cxS CX P w K mg base [sf, xn] qual scope f (.ref cda) cc A outer s H E) [e] ta ∧ ta [some (.ref a), some v] H fun ws H2 => ws.length ≤ 1000 ∧ H2 = H)
    (hev : ∀ env : Env, ∃ pl : Sem Bool, eval (.Call (.Attribute (.Call (.Name ("super" : Str) p0) [] [] p1) ("__init__" : Str) p2) [e] [] p3) env = (do
      let ov ← attributeBase (.Call (.Name ("super" : Str) p0) [] [] p1) ("__init__" : Str) env (eval (.Call (.Name ("super" : Str) p0) [] [] p1) env)
      standAt p2.atName
      let (f, first) ← holding [ov] (getMethod ov ("__init__" : Str) pl)
      callWith p3 f first (backTo p3 (starEach [e] env)) []) := by exact fun _ => ⟨_, rfl⟩)
    (hsw : ∀ env : Env, swapsWith (.Call (.Attribute (.Call (.Name ("super" : Str) p0) [] [] p1) ("__init__" : Str) p2) [e] [] p3) none p4.line env = pure false := by exact fun _ => rfl)
    (hstar : ∀ env, starEach [e] env = [(false, eval e env)] := by exact fun _ => rfl) (hsw2 : ∀ env : Env, swapsWith (.Name xn q3) (some (.Attribute (.Name sf q1) fld q2)) q4.line env = pure false := by exact fun _ => rfl)
    (n1 : (sf == ("__debug__" : Str)) = false := by decide) (n2 : (sf == ("__classdict__" : Str)) = false := by decide) (n3 : (xn == ("__debug__" : Str)) = false := by decide) (n4 : (xn == ("__classdict__" : Str)) = false := by decide) :
    FnOk P w K mg base CX 1 f (ksFn name qual params [.Expr (.Call (.Attribute (.Call (.Name ("super" : Str) p0) [] [] p1) ("__init__" : Str) p2) [e] [] p3) p4, .Assign [.Attribute (.Name sf q1) fld q2] (.Name xn q3) q4] scope dV kV doc pm an (.ref cda) ct cc) [sf, xn] (spS C fld okv) := by
  refine ⟨fun vs H Q E h => ?_, fun A outer s H args us vs Q E hr e0 hb r hsp => ?_⟩
  · obtain ⟨_, _, rfl, _⟩ := h
    rfl
  obtain ⟨a, v, rfl, ha, hv, q⟩ := hsp
  have KX : K.In s.heap := e0.mod.kin.keeps fun b o e => (e0.bs b o e).1
  have lim : s.heap.NoLimit := e0.mod.nolimit.keeps fun b o e => (e0.bs b o e).1
  have hloc : ∀ y ∈ [sf, xn].zip us, scope.names.lookup y.1 = some .local := fun ⟨n, v⟩ hy => S.par n (List.of_mem_zip hy).1
  refine ks_codeAny_call_defAt (body := [.Expr (.Call (.Attribute (.Call (.Name ("super" : Str) p0) [] [] p1) ("__init__" : Str) p2) [e] [] p3) p4, .Assign [.Attribute (.Name sf q1) fld q2] (.Name xn q3) q4]) (binds := [sf, xn].zip us) hr.depth (KX _ _ lk) rfl lim (codeRec_of KX hcd) rfl hb S.noc hloc (fun h1 hns hk => ?_) S.co S.gen S.kind
  have I := inv_startS (CX := CX) (qual := qual) (f := f) (cd := .ref cda) (tk := s.toks + ([sf, xn].zip us).length) (E := E) S hcell hr.hd e0 rfl r hns hk
  obtain ⟨ta, hpa, hta⟩ := he A outer s H E a v hv
  obtain ⟨u, rfl, ru⟩ : ∃ u, us = [.ref a, u] ∧ RelV v u := by
    cases r with
    | cons r1 r2 =>
      cases r2 with
      | cons r3 r4 =>
        cases r4
        obtain rfl := (show _ = Value.ref a from r1)
        exact ⟨_, rfl, r3⟩
  have hz : ([sf, xn].zip [Value.ref a, u]).reverse.lookup sf = some (.ref a) := rev_lookup (i := 0) S.nd rfl rfl
  obtain ⟨mb, b1, b2⟩ := I.mod.blt
  obtain ⟨nm, qn, N, bs, bm, sn, sub, ab, col, dd, k0, k1, k2, k3, k5, hC, hbm⟩ := id T.cls
  have hcl : clsIn K C = some { name := nm, bases := bs, mro := .ref C :: bm, ns := N, qualname := qn, hasDict := true, slotNames := sn, subclasses := sub, abstract := ab, collection := col, hasDel := false } := by unfold clsIn; rw [hC] <;> rfl
  have hD1 := I.kIn _ _ hC
  obtain ⟨t1, ho1⟩ := exo_at I.hok ha
  obtain ⟨pl, hev1⟩ := hev (ksEnv qual scope s.heap.objs.size f (.ref cda) cc)
  refine ks_wpAt_execs_cons (ks_wpAt_Expr_any (ks_wpAt_MethodCall (pl := pl) ?_ hev1) (by show (scope.kind == .module && _) = false; rw [S.kind]; rfl) (hsw _))
  refine ks_wpAt_super_base (env := ksEnv qual scope s.heap.objs.size f (.ref cda) cc) S.sup S.cls (by decide) rfl (I.kIn _ _ lk) rfl hp rfl (I.kIn _ _ hcode) rfl hvs hfile htop ?_
  refine ks_loadName_global S.kind S.sup (Calls.loadGlobal_builtin (env := ksEnv qual scope s.heap.objs.size f (.ref cda) cc) (I.mod.glob.keeps I.bk) hsuper (b1.keeps I.bk) ((b2 _ (by decide)).trans PyProof.Rows.Boot.«super») ⟨rfl, ?_⟩)
  refine wpAny_loadName_free S.kind S.cls rfl ⟨_, I.kIn _ _ hcell, rfl⟩ ?_
  refine wpAny_loadName_local S.kind (by rw [har]; exact S.par sf (by simp)) hns (by rw [har]; exact hz) ?_
  refine ks_wpAny_isType_cls hD1 rfl ⟨rfl, ?_⟩
  refine ks_wpAny_call_super hD1 rfl ho1 rfl (fun c z => nomatch z) (looks_mroIn I.kIn hsub) (fun h2 e2 k2 => ?_)
  have I2 := I.kept (t' := s.toks + ([sf, xn].zip [Value.ref a, u]).length) k2
  have inst : InstAt h2 a { cls := .ref C, dict := none, data := .fields #[.ref t1, .none, .none, .none, .bool false, .none] } C none := ⟨k2 _ _ ho1, rfl, rfl, trivial⟩
  have hI : Looks (model P w) h2 (isInstance (.ref a) (.type "ValueError")) true := inst.type.andThen (looks_subIn I2.kIn hB)
  have hm1 : alongIn K "__init__" (((Value.ref C :: bm).dropWhile (· != .ref C)).drop 1) = some (some (.builtin "ValueError.__init__")) := by
    have z := hm
    unfold ks_superIn at z
    rw [hcl] at z
    exact z
  refine kxs_getMethod kxs_ValueError e2 (looks_opaque I2.kIn ho) (l₀ := .ref C :: bm) (fun A Q E s k q => wpAny_bind ((looks_clsIn I2.kIn hcl) A _ E s k (wpAny_pure q))) rfl I2.kIn hm1 hI (ks_ne I2.kIn inst hcl) (by decide) ?_
  have I3 := (I2.kept (t' := s.toks + ([sf, xn].zip [Value.ref a, u]).length + 1) (h' := h2.push (kxs_mw "ValueError.__init__" a)) fun b o z => Heap.get?_push_of_some _ z).pins_of (pins' := [(h2.objs.size, kxs_mw "ValueError.__init__" a)]) fun p hp => by
    obtain rfl : p = (h2.objs.size, kxs_mw "ValueError.__init__" a) := by simpa using hp
    exact ⟨Heap.get?_push_at rfl rfl, I2.hok.fresh (Nat.le_refl _), Nat.ne_of_gt I2.lt, I2.nofs (Nat.le_refl _), fun v z => nomatch z⟩
  refine cw1 (i := "ValueError.__init__") (x := a) (thn (hpa.run p3 _ _ _ _ _ I3 hta) fun us s4 ⟨vs, H1, I4, r4, hlen, hH⟩ => ?_) (hstar _)
  subst hH
  have hu := (I4.pin _ (List.mem_append_right _ (List.mem_singleton.mpr rfl))).1
  refine ⟨hu, call_mw T I4 ha hu (by rw [← Paired.length r4, sizeLine_eq]; omega) fun s5 J => ?_⟩
  have P2 : PS (cxS CX P w K mg base [sf, xn] qual scope f (.ref cda) cc A outer s H1 E) (.Assign [.Attribute (.Name sf q1) fld q2] (.Name xn q3) q4) (tOst K fld (tVar 0) (tVar 1)) := ps_ost (pe_var rfl (.inl (S.par sf (by simp))) n1 n2) (pe_var rfl (.inl (S.par xn (by simp))) n3 n4) (hsw2 _)
  refine ks_wpAt_execs_cons (wpAt_of_wpAny (thn (P2.run _ s5 _ _ { nx := fun _ H' => Q .non H', rt := Q } J ⟨_, rfl, _, rfl, a, C, rfl, T, hno, .inl ⟨ha, q⟩⟩) fun fl s6 hs => ?_))
  cases fl with
  | ret u =>
    obtain ⟨v, σ', H', J, rv, q⟩ := hs
    exact ⟨v, H', J.os, J.bare, J.base, J.hok, rv, q⟩
  | next =>
    obtain ⟨σ', H', J, q⟩ := hs
    exact wpAt_of_wpAny (wpAny_pure ⟨.non, H', J.os, J.bare, J.base, J.hok, rfl, q⟩)
  | brk =>
    obtain ⟨_, _, _, q⟩ := hs
    exact False.elim q
  | cont =>
    obtain ⟨_, _, _, q⟩ := hs
    exact False.elim q
end OPN
section OPN
open PySem PySem.Spec PyProof.Rows
/-! ### the handled exception with a dict: isinstance, its fields -/
def rIsF (K : PySem.W.Frag) (D xh : Addr) (dd : Option Addr) : List V → Hp → VK → Prop := fun vs H Q => (∀ d, dd = some d → ∃ fs, H d = some (.xd fs)) ∧ rIsB K D xh vs H Q
theorem hot_inst {X : Cx} {pins : List (Addr × Obj)} {σ : L2.St} {H : Hp} {s : Shared} {xh D : Addr} {oh : Obj} (hb : HotB X xh oh) (I : Inv X pins σ H s) (hc : oh.cls = .ref D) (hd : ∀ d, oh.dict = some d → ∃ fs, H d = some (.xd fs)) : ∃ od, PySem.W.InstAt s.heap xh oh D od := by
  have g := hb.get I
  obtain ⟨ws, d1, _⟩ := hb.dat
  have nc : PySem.W.notCls oh = true := by unfold PySem.W.notCls; rw [d1] <;> rfl
  cases e : oh.dict with
  | none => exact ⟨none, g, hc, nc, by rw [e]; trivial⟩
  | some d =>
    obtain ⟨fs, hfs⟩ := hd d e
    have hx : ObjOk X.prog X.w H s.heap d (.xd fs) := I.hok d _ hfs
    obtain ⟨mA, hns, _⟩ := hx
    obtain ⟨od, ho, _⟩ := lookIn_ns hns
    exact ⟨some od, g, hc, nc, by rw [e]; exact ho⟩
theorem call_isF {X : Cx} {xh D : Addr} {oh : Obj} (hb : HotB X xh oh) (C : ExcC X.K D) (hc : oh.cls = .ref D) : CallR X (.builtin "isinstance") (rIsF X.K D xh oh.dict) := by
  intro pins s σ H vs us Q I r y
  obtain ⟨hd, c, u, b, rfl, kc, e, q⟩ := y
  obtain ⟨u1, u2, rfl, r1, r2⟩ := vals2 r
  cases (show u1 = Value.ref xh from r1)
  have e2 := kc.eq r2
  subst e2
  obtain ⟨od, J⟩ := hot_inst hb I hc hd
  have hcl : (PySem.W.clsIn X.K D).isSome = true := by
    obtain ⟨cd, h, _⟩ := PySem.W.any_some C.hd
    rw [h]
    rfl
  exact PySem.W.kia_one (PySem.W.kitx_exc hcl C.hg C.hk C.hs C.ha C.hn C.ht C.hm) I.kIn J e (fun z => nomatch z) fun tk => ⟨.bl b, H, I.tok tk, rfl, q⟩
/-- e.f, e the handled exception -/
def tXfB (xh : Addr) (dd : Option Addr) (f : Str) (te : TE) : TE := fun σ H Q => te σ H fun x H1 => x = .ref xh ∧ ∃ (d : Addr) (fs : List (Str × V)) (v : V), dd = some d ∧ H1 d = some (.xd fs) ∧ fs.lookup f = some v ∧ Q v H1
theorem pe_xfB {X : Cx} {xh C : Addr} {oh : Obj} {e : Expr} {te : TE} {pos : Pos} {n : Str} (hb : HotB X xh oh) (T : XfC X.K C) (hno : PySem.W.findIn X.K (.ref C) n = some none) (hc : oh.cls = .ref C) (he : PE X e te) (hab : attributeBase e n X.env (eval e X.env) = eval e X.env := by rfl) :
    PE X (.Attribute e n pos) (tXfB xh oh.dict n te) := by
  refine ⟨fun pins s σ H Q I h => ?_⟩
  refine attr_of hab (thn (he.run pins s σ H _ I h) fun u s1 hh => ?_)
  obtain ⟨x, H1, I1, rx, ex, dd, fs, v, ed, ea, l, q⟩ := hh
  subst ex
  obtain rfl : u = Value.ref xh := rx
  have hx : ObjOk X.prog X.w H1 s1.heap dd (.xd fs) := I1.hok dd _ ea
  obtain ⟨mA, hns, hr⟩ := hx
  obtain ⟨od, ho, hl⟩ := lookIn_ns hns
  obtain ⟨u, hu, ru⟩ := RelO.some_of (v := v) (o := mA n) (by rw [← l]; exact hr n)
  obtain ⟨ws, d1, _⟩ := hb.dat
  have J : PySem.W.InstAt s1.heap xh oh C (some od) := ⟨hb.get I1, hc, by unfold PySem.W.notCls; rw [d1] <;> rfl, by rw [ed]; exact ho⟩
  exact HandSPX.exc_get I1.kIn J T.ga T.gg T.exC (PySem.W.findObj_own T.hdC hno rfl (by rw [hl, hu])) (handed_of ru) ⟨v, H1, I1.tok _, ru, q⟩
end OPN
section OPN
open PySem PySem.Spec PyProof.Rows
/-! ### the handled exception may have a dict: isinstance asks only that the dict is there -/
theorem call_isB2 {X : Cx} {xh D : Addr} {oh : Obj} (hb : HotB X xh oh) (C : ExcC X.K D) (hc : oh.cls = .ref D) (hd : ∀ d, oh.dict = some d → (∃ o, X.s_0.heap.get? d = some o) ∧ d ∉ X.ex) : CallR X (.builtin "isinstance") (rIsB X.K D xh) := by
  intro pins s σ H vs us Q I r y
  obtain ⟨c, u, b, rfl, kc, e, q⟩ := y
  obtain ⟨u1, u2, rfl, r1, r2⟩ := vals2 r
  cases (show u1 = Value.ref xh from r1)
  have e2 := kc.eq r2
  subst e2
  have g := hb.get I
  obtain ⟨ws, d1, _⟩ := hb.dat
  have nc : PySem.W.notCls oh = true := by unfold PySem.W.notCls; rw [d1] <;> rfl
  have J : ∃ od, PySem.W.InstAt s.heap xh oh D od := by
    cases e : oh.dict with
    | none => exact ⟨none, g, hc, nc, by rw [e]; trivial⟩
    | some d =>
      obtain ⟨⟨o, ho⟩, nx⟩ := hd d e
      obtain ⟨o', ho'⟩ := I.base.there d o ho nx
      exact ⟨some o', g, hc, nc, by rw [e]; exact ho'⟩
  obtain ⟨od, J⟩ := J
  have hcl : (PySem.W.clsIn X.K D).isSome = true := by
    obtain ⟨cd, h, _⟩ := PySem.W.any_some C.hd
    rw [h]
    rfl
  exact PySem.W.kia_one (PySem.W.kitx_exc hcl C.hg C.hk C.hs C.ha C.hn C.ht C.hm) I.kIn J e (fun z => nomatch z) fun tk => ⟨.bl b, H, I.tok tk, rfl, q⟩
theorem xd_there {P : Program} {w : World} {H : Hp} {h : Heap} {d : Addr} {fs : List (Str × V)} (k : HOk P w H h) (e : H d = some (.xd fs)) : ∃ o, h.get? d = some o := by
  have hx : ObjOk P w H h d (.xd fs) := k d _ e
  obtain ⟨mA, hns, _⟩ := hx
  obtain ⟨od, ho, _⟩ := lookIn_ns hns
  exact ⟨od, ho⟩
theorem Fun.okB2 {P : Program} {w : World} {K : PySem.W.Frag} {mg : Str → Option Value} {base : Heap} {x qual : Str} {st : Stmt} {f : Addr} {fd : FuncData} {N ps : List Str} {k : Nat} {sp : Addr → Value → Option Addr → Sp} (F : L2.Fun K x qual st f fd) (S : FnScope N ps (defScope st))
    (body : ∀ (cdv : Value) (A : Around) (outer : List Env) (s : Shared) (H : Hp) (vs : List V) (Q : VK) (xh : Addr) (oh : Obj), L2H.RoomH k (A.deeper (PyProof.Rows.envOfC qual (defScope st) s.heap.objs.size f cdv)) → HotB (L2H.cxH CX0 P w K mg base N qual (defScope st) f cdv A outer s H E0 (xh, oh)).nox xh oh → HOk P w H s.heap → sp xh oh.cls oh.dict vs H Q E0 →
      ∃ t, PSs (L2H.cxH CX0 P w K mg base N qual (defScope st) f cdv A outer s H E0 (xh, oh)).nox (defBody st) t ∧ t { nx := fun _ H' => Q .non H', rt := Q } (L2.start N vs) H) : FnB P w K mg base (k + 1) f fd ps sp := by
  obtain ⟨oc, od, kV, doc, pm, an, cdv, ct, osl, rfl, lk, hcd⟩ := F.ex
  intro A outer s H args us vs Q xh oh hr hp e0 hb r hl hsp
  have KX : K.In s.heap := e0.mod.kin.keeps fun b o e => (e0.bs b o e).1
  have hkind : ∀ y ∈ ps.zip us, (defScope st).names.lookup y.1 = some .local ∨ ((defScope st).names.lookup y.1 = some .cell ∧ ((cellsFrom (s.heap.objs.size + 1) (defScope st).names []).lookup y.1).isSome = true) := by
    rintro ⟨n, v⟩ hy
    exact (S.par n (List.of_mem_zip hy).1).imp id fun q => ⟨q, PySem.W.cellsFrom_some _ _ _ (.inl q)⟩
  refine codeAny_call_function hr.depth (KX _ _ lk) rfl S.co S.gen rfl (PySem.W.codeRec_of KX hcd) (hb _ _ _ _ (wpAny_newFunctionEnv_cells S.kind hkind fun env he s1 y => ?_))
  subst he
  refine ⟨(e0.mod.nolimit.keeps fun b o e => (e0.bs b o e).1).keeps y.toInCall.keep, codeAny_func ?_⟩
  have hB := hp.b (CX := CX0) (P := P) (w := w) (K := K) (mg := mg) (base := base) (N := N) (qual := qual) (scope := defScope st) (f := f) (cd := cdv) (E := E0)
  obtain ⟨t, ht, hq⟩ := body cdv A outer s H vs Q xh oh (hr.deeper _) ⟨hB.hnd, hB.obj, hB.dat, hB.unt, hB.nfs, hB.nex⟩ e0.hok hsp
  have I : Inv (L2H.cxH CX0 P w K mg base N qual (defScope st) f cdv A outer s H E0 (xh, oh)) [] (L2.start N vs) H s1 := L2H.inv_startH S hp.pin e0 hl r y
  refine wpAny_mono (ht.run [] s1 (L2.start N vs) H _ (I.wish _) hq) (fun fl s' z => ?_) fun _ _ z => z.elim
  have z' : SP (L2H.cxH CX0 P w K mg base N qual (defScope st) f cdv A outer s H E0 (xh, oh)) [] { nx := fun _ H' => Q .non H', rt := Q } fl s' := z.unwish
  cases fl with
  | ret u =>
    obtain ⟨v, σ', H', J, rv, q⟩ := z'
    exact ⟨v, H', J.os, J.bare, J.base, J.hok, rv, q⟩
  | next =>
    obtain ⟨σ', H', J, q⟩ := z'
    exact ⟨V.non, H', J.os, J.bare, J.base, J.hok, rfl, q⟩
  | brk => exact z'.elim fun _ y => y.elim fun _ y => y.2.elim
  | cont => exact z'.elim fun _ y => y.elim fun _ y => y.2.elim

end OPN
section OPN
open PySem.Spec PyProof.Rows
/-! ### try: return ('value', ask()) / except TermError as e: the error's word and field -/
/-- a class that TermError names -/
structure Wd2 (K : PySem.W.Frag) (CT D : Addr) (dd : Option Addr) (H : Hp) : Prop where
  exc : ExcC K D
  nod : ∀ d, dd = some d → ∃ fs, H d = some (.xd fs)
  mat : PySem.W.exmOne K (.ref D) (.ref CT) = some true
def spName2 (K : PySem.W.Frag) (CT : Addr) (word : Addr → Option Str) : Addr → Value → Option Addr → Sp := fun xh cls dd vs H Q _ => ∃ (D : Addr) (nm : Str), cls = .ref D ∧ Wd2 K CT D dd H ∧ word D = some nm ∧ vs = [.ref xh] ∧ ∀ H', Same H H' → Q (.str nm) H'
def tSuite2 (K : PySem.W.Frag) (CT : Addr) (word : Addr → Option Str) (fld : Addr → Option Addr → Hp → V → Prop) (a : Addr) (cls : Value) (d : Option Addr) : TS :=
  tSeq (tAsg (tCallG (spName2 K CT word) a cls d 1 (tCons (tVar 1) tNil)) (gName 2)) (tRet (tTup (tCons (tVar 2) (tCons (tCallG (spField word fld) a cls d 2 (tCons (tVar 1) (tCons (tVar 2) tNil))) tNil))))
def TTry2 (K : PySem.W.Frag) (CT : Addr) (word : Addr → Option Str) (fld : Addr → Option Addr → Hp → V → Prop) : (XK → Hp → VK → Prop) → Hp → VK → Prop := fun tl H Q =>
  ∀ f : Addr, tl (fun cls d H2 => wAs K (.ref CT) 1 (tSuite2 K CT word fld) (fun _ _ _ _ => False) { nx := fun _ H' => Q .non H', rt := Q } cls d [some (.ref f), none, none] H2) H
    (fun v H' => 2 ≤ sizeLine ∧ ∀ p, H' p = none → Q (.ref p) (upd H' p (.tup [.str ("value" : Str), v])))
theorem wTry2 {K : PySem.W.Frag} {CT : Addr} {word : Addr → Option Str} {fld : Addr → Option Addr → Hp → V → Prop} {Q : VK} {n : L2.St → Hp → Prop} {cls : Value} {dd : Option Addr} {f D : Addr} {nm : Str} {v : V} {H' : Hp}
    (hst : ∀ D dd H H' v, Same H H' → fld D dd H v → fld D dd H' v) (e : cls = .ref D) (hw : Wd2 K CT D dd H') (ew : word D = some nm) (hf : fld D dd H' v) (h : ∀ (p : Addr) (H2 : Hp), Same H' H2 → H2 p = none → Q (.ref p) (upd H2 p (.tup [.str nm, v]))) :
    wAs K (.ref CT) 1 (tSuite2 K CT word fld) (fun _ _ _ _ => False) { nx := n, rt := Q } cls dd [some (.ref f), none, none] H' := by
  subst e
  refine ⟨true, hw.mat, fun _ a _ => ?_, fun z => nomatch z⟩
  refine ⟨_, rfl, rfl, D, nm, rfl, hw, ew, rfl, fun H1 k1 => ?_⟩
  refine ⟨_, rfl, _, rfl, _, rfl, rfl, D, nm, v, rfl, ew, hst _ _ _ _ _ k1 hf, rfl, fun H2 k2 => ⟨by show 2 ≤ sizeLine; decide, fun p hp => h p H2 (k1.trans k2) hp⟩⟩
theorem try_gives2 {X : Cx} {x q : Str} {sg : Scope} {g CT fN fF : Addr} {cdg : Value} {fdN fdF : FuncData} {word : Addr → Option Str} {fld : Addr → Option Addr → Hp → V → Prop} {j1 n1 n2 : Nat} {q1 q2 q3 q4 q5 q6 q7 q8 q9 p1 p2 p3 p4 p5 p6 p7 p8 p9 q10 q11 : Pos}
    (s0 : sg.names.lookup ("_law_ask" : Str) = some .local) (s1 : sg.names.lookup ("_law_e" : Str) = some .local) (s2 : sg.names.lookup ("_law_word" : Str) = some .local) (g1 : sg.names.lookup ("TermError" : Str) = some .globalImplicit) (g2 : sg.names.lookup ("_law_error_name" : Str) = some .globalImplicit) (g3 : sg.names.lookup ("_law_error_field" : Str) = some .globalImplicit)
    (mT : X.mg ("TermError" : Str) = some (.ref CT)) (mN : X.mg ("_law_error_name" : Str) = some (.ref fN)) (mF : X.mg ("_law_error_field" : Str) = some (.ref fF)) (kN : PySem.W.keepIn X.K (.ref fN) = true) (kF : PySem.W.keepIn X.K (.ref fF) = true) (bN : Binds X.K fdN [("_law_e" : Str)] []) (bF : Binds X.K fdF [("_law_e" : Str), "_law_word"] [])
    (GN : FnB X.prog X.w X.K X.mg X.base 3 fN fdN [("_law_e" : Str)] (spName2 X.K CT word)) (GF : FnB X.prog X.w X.K X.mg X.base 3 fF fdF [("_law_e" : Str), "_law_word"] (spField word fld)) :
    GivesN X [("_law_ask" : Str), "_law_e", "_law_word"] x sg g cdg [.Try [.Return (some (.Tuple [.Constant (.str ("value" : Str)) j1 p1, .Call (.Name ("_law_ask" : Str) p2) [] [] p3] n1 p4)) p5] [.ExceptHandler (some (.Name ("TermError" : Str) p6)) (some ("_law_e" : Str)) [.Assign [.Name ("_law_word" : Str) q1] (.Call (.Name ("_law_error_name" : Str) q2) [.Name ("_law_e" : Str) q3] [] q4) q5, .Return (some (.Tuple [.Name ("_law_word" : Str) q6, .Call (.Name ("_law_error_field" : Str) q7) [.Name ("_law_e" : Str) q8, .Name ("_law_word" : Str) q9] [] p7] n2 p8)) p9] q10] [] [] q11] ("_law_ask" : Str) q (TTry2 X.K CT word fld) := by
  intro k f c s H Q tl hr k40 act hc y
  have hr3 := hr.mono (show 3 ≤ k by omega)
  have nd : ([("_law_ask" : Str), "_law_e", "_law_word"] : List Str).Nodup := by decide +kernel
  refine ⟨_, pss_one (L2C.ps_try_as (i := 1) (c := .ref CT) (tb := fun W => tRet (tTup (tCons (tC (.str ("value" : Str))) (tCons (fun σZ HZ Q => σZ[0]? = some (some (.ref f)) ∧ HZ c = some (LamX.CodeO c q) ∧ tl (fun cls d H2 => W cls d σZ H2) HZ Q) tNil))))
    (ts := tSuite2 X.K CT word fld) rfl rfl nd rfl s1 ⟨g1, by decide +kernel, .inl mT⟩
    (fun W pn xe tk _ => pss_one (ps_ret (pe_tup (pa_cons pe_str (pa_cons (act W pn xe (fun σ2 cls d H2 => W cls d σ2 H2) _ _ tk (fun _ _ _ _ h => h)) pa_nil)))))
    (fun a oe cls d pn hz1 hz2 hf => pss_cons (ps_set (i := 2) nd rfl (.inl s2) (by exact pe_callG (X := Cx.suite (cxOf CX0 X.prog X.w X.K X.mg X.base [("_law_ask" : Str), "_law_e", "_law_word"] x sg g cdg X.A X.stack s H E0).nox a ((a, oe) :: pn)) GN ⟨hr3.dp, hr3.un⟩ (hotG_suite2 hf) hz1 hz2 g2 mN kN bN (pa_cons (pe_var (i := 1) rfl (.inl s1)) pa_nil)))
      (pss_one (ps_ret (pe_tup (pa_cons (pe_var (i := 2) rfl (.inl s2)) (pa_cons (by exact pe_callG (X := Cx.suite (cxOf CX0 X.prog X.w X.K X.mg X.base [("_law_ask" : Str), "_law_e", "_law_word"] x sg g cdg X.A X.stack s H E0).nox a ((a, oe) :: pn)) GF ⟨hr3.dp, hr3.un⟩ (hotG_suite2 hf) hz1 hz2 g3 mF kF bF (pa_cons (pe_var (i := 1) rfl (.inl s1)) (pa_cons (pe_var (i := 2) rfl (.inl s2)) pa_nil))) pa_nil))))))), ?_⟩
  exact ⟨rfl, hc, y f⟩
end OPN
section OPT
open PySem.Spec PyProof.Rows
theorem try_givesH2 {X : Cx} {x q : Str} {sg : Scope} {g CT fN fF : Addr} {cdg : Value} {fdN fdF : FuncData} {word : Addr → Option Str} {fld : Addr → Option Addr → Hp → V → Prop} {j1 n1 n2 : Nat} {q1 q2 q3 q4 q5 q6 q7 q8 q9 p1 p2 p3 p4 p5 p6 p7 p8 p9 q10 q11 : Pos}
    (s0 : sg.names.lookup ("_law_ask" : Str) = some .local) (s1 : sg.names.lookup ("_law_e" : Str) = some .local) (s2 : sg.names.lookup ("_law_word_here" : Str) = some .local) (g1 : sg.names.lookup ("TermError" : Str) = some .globalImplicit) (g2 : sg.names.lookup ("_law_error_name" : Str) = some .globalImplicit) (g3 : sg.names.lookup ("_law_error_field" : Str) = some .globalImplicit)
    (mT : X.mg ("TermError" : Str) = some (.ref CT)) (mN : X.mg ("_law_error_name" : Str) = some (.ref fN)) (mF : X.mg ("_law_error_field" : Str) = some (.ref fF)) (kN : PySem.W.keepIn X.K (.ref fN) = true) (kF : PySem.W.keepIn X.K (.ref fF) = true) (bN : Binds X.K fdN [("_law_e" : Str)] []) (bF : Binds X.K fdF [("_law_e" : Str), "_law_word_here"] [])
    (GN : FnB X.prog X.w X.K X.mg X.base 3 fN fdN [("_law_e" : Str)] (spName2 X.K CT word)) (GF : FnB X.prog X.w X.K X.mg X.base 3 fF fdF [("_law_e" : Str), "_law_word_here"] (spField word fld)) :
    GivesN X [("_law_ask" : Str), "_law_e", "_law_word_here"] x sg g cdg [.Try [.Return (some (.Tuple [.Constant (.str ("value" : Str)) j1 p1, .Call (.Name ("_law_ask" : Str) p2) [] [] p3] n1 p4)) p5] [.ExceptHandler (some (.Name ("TermError" : Str) p6)) (some ("_law_e" : Str)) [.Assign [.Name ("_law_word_here" : Str) q1] (.Call (.Name ("_law_error_name" : Str) q2) [.Name ("_law_e" : Str) q3] [] q4) q5, .Return (some (.Tuple [.Name ("_law_word_here" : Str) q6, .Call (.Name ("_law_error_field" : Str) q7) [.Name ("_law_e" : Str) q8, .Name ("_law_word_here" : Str) q9] [] p7] n2 p8)) p9] q10] [] [] q11] ("_law_ask" : Str) q (TTry2 X.K CT word fld) := by
  intro k f c s H Q tl hr k40 act hc y
  have hr3 := hr.mono (show 3 ≤ k by omega)
  have nd : ([("_law_ask" : Str), "_law_e", "_law_word_here"] : List Str).Nodup := by decide +kernel
  refine ⟨_, pss_one (L2C.ps_try_as (i := 1) (c := .ref CT) (tb := fun W => tRet (tTup (tCons (tC (.str ("value" : Str))) (tCons (fun σZ HZ Q => σZ[0]? = some (some (.ref f)) ∧ HZ c = some (LamX.CodeO c q) ∧ tl (fun cls d H2 => W cls d σZ H2) HZ Q) tNil))))
    (ts := tSuite2 X.K CT word fld) rfl rfl nd rfl s1 ⟨g1, by decide +kernel, .inl mT⟩
    (fun W pn xe tk _ => pss_one (ps_ret (pe_tup (pa_cons pe_str (pa_cons (act W pn xe (fun σ2 cls d H2 => W cls d σ2 H2) _ _ tk (fun _ _ _ _ h => h)) pa_nil)))))
    (fun a oe cls d pn hz1 hz2 hf => pss_cons (ps_set (i := 2) nd rfl (.inl s2) (by exact pe_callG (X := Cx.suite (cxOf CX0 X.prog X.w X.K X.mg X.base [("_law_ask" : Str), "_law_e", "_law_word_here"] x sg g cdg X.A X.stack s H E0).nox a ((a, oe) :: pn)) GN ⟨hr3.dp, hr3.un⟩ (hotG_suite2 hf) hz1 hz2 g2 mN kN bN (pa_cons (pe_var (i := 1) rfl (.inl s1)) pa_nil)))
      (pss_one (ps_ret (pe_tup (pa_cons (pe_var (i := 2) rfl (.inl s2)) (pa_cons (by exact pe_callG (X := Cx.suite (cxOf CX0 X.prog X.w X.K X.mg X.base [("_law_ask" : Str), "_law_e", "_law_word_here"] x sg g cdg X.A X.stack s H E0).nox a ((a, oe) :: pn)) GF ⟨hr3.dp, hr3.un⟩ (hotG_suite2 hf) hz1 hz2 g3 mF kF bF (pa_cons (pe_var (i := 1) rfl (.inl s1)) (pa_cons (pe_var (i := 2) rfl (.inl s2)) pa_nil))) pa_nil))))))), ?_⟩
  exact ⟨rfl, hc, y f⟩
end OPT
section OPN
open PySem PySem.Spec PyProof.Rows PySem.W
/-! ### the def __init__ of such a class, and its raise -/
structure FunS (P : Program) (K : PySem.W.Frag) (mg : Str → Option Value) (x qual : Str) (st : Stmt) (ps : List Str) (C f : Addr) (fd : FuncData) : Prop where
  ex : ∃ (oc : Value) (od : Option Addr) (dV kV doc pm : Value) (an : Option Addr) (cda : Addr) (ct : Value) (osl : Array (Option Value)) (cc : Addr) (cl : Value) (cld : Option Addr) (csl : Array (Option Value)) (ccl : Value) (cdd : Option Addr) (cvs : Array Value) (ccs : Array (Option Value)) (file : Str) (tf : Tok),
    fd = ksFn "__init__" qual (defArgs st) (defBody st) (defScope st) dV kV doc pm an (.ref cda) ct cc ∧ K.lookup f = some ⟨oc, od, .func fd, osl⟩ ∧ codeIn K (.ref cda) qual = true ∧ K.lookup cda = some ⟨ccl, cdd, .fields cvs, ccs⟩ ∧ cvs[2]? = some (.str file tf) ∧ ((P.main.file : Str) == file) = true ∧ K.lookup cc = some ⟨cl, cld, .cell (some (.ref C)), csl⟩
  top : (P.main.scope.names.lookup ("super" : Str)).isSome = false
  T : OexC K C
  mro : mroIn K C (.ref C) = some true
  sup : mg ("super" : Str) = none
  any : nsIn K cStatics "thirdparty.any" = some none
  ini : ks_superIn K C C "__init__" = some (some (.builtin "ValueError.__init__"))
  val : subIn K (.ref C) (.type "ValueError") = some true
  iC : findIn K (.ref C) "__init__" = some (some (.ref f))
  tI : typeIn K (.ref f) = some (.type "function")
  b : Binds K fd ps []
  m : mg x = some (.ref C)
def okInt (v : V) : Prop := ∃ n : Int, v = .int n ∧ 0 ≤ n ∧ n < 10 ^ 12
end OPN
section OPN
open PySem PySem.Spec PyProof.Rows
/-- C(e, ..), the context told: the made exception has no context yet -/
theorem pmkN_oex {X : Cx} {CX : CXT} {x : Str} {e : Expr} {es : List Expr} {ta : L2.TA} {p pos : Pos} {C fI : Addr} {k : Nat} {fd : FuncData} {ps : List Str} {sp : Sp} (T : OexC X.K C) (iC : PySem.W.findIn X.K (.ref C) "__init__" = some (some (.ref fI))) (tI : PySem.W.typeIn X.K (.ref fI) = some (.type "function"))
    (F1 : FnOk X.prog X.w X.K X.mg X.base CX k fI fd ps sp) (hr : Room (k + 1) X.A) (hb : Binds X.K fd ps []) (hx : Passes CX X (fun _ _ _ => False)) (hg : Gl X x) (hm : X.mg x = some (.ref C)) (ha : PA X (e :: es) ta)
    (hdb : (x == ("__debug__" : Str)) = false := by decide) (he : starEach (e :: es) X.env = (false, eval e X.env) :: starEach es X.env := by rfl) (hpl : (backTo pos (starEach es X.env)).any (·.1) = false := by rfl) :
    L2N.PMk X (.Call (.Name x p) (e :: es) [] pos) (tMkO C sp [] ta) := by
  intro pins s σ H Q I h
  obtain ⟨nm, q, N, bs, bm, sn, sub, ab, col, dd, k0, k1, k2, k3, k5, hC, hbm⟩ := T.cls
  refine wpAny_Call_Name_kw (ld_glob I hg hm ?_ hdb)
  refine PySem.W.callWith_K (h₀ := X.base) I.ok.mod.kin T.kC (thn (ha.run pos pins s σ H _ I h) fun us s1 ⟨vs, H1, I1, r1, hz, q1⟩ => ⟨I1.kIn, ?_⟩) he hpl
  show wpAny _ _ (call (.ref C) us) _ _ _
  obtain ⟨hp, g, dr, tk, os⟩ := s1
  have hsz : hp.objs.size ≤ hp.objs.size + 1 := Nat.le_succ _
  have hq := q1 (hp.objs.size + 1) (I1.hok.fresh hsz)
  rw [List.append_nil] at hq
  have kk : ∀ b o, hp.get? b = some o → ((hp.push (PySem.W.kdv_tup us)).push (PySem.HandSPX.excO C hp.objs.size)).get? b = some o := fun b o z => Heap.get?_push_of_some _ (Heap.get?_push_of_some _ z)
  have hget : ((hp.push (PySem.W.kdv_tup us)).push (PySem.HandSPX.excO C hp.objs.size)).get? (hp.objs.size + 1) = some (PySem.HandSPX.excO C hp.objs.size) := by heap_get
  have I2 : Inv X pins σ (upd H1 (hp.objs.size + 1) (exo (hp.objs.size + 1) C none)) ⟨(hp.push (PySem.W.kdv_tup us)).push (PySem.HandSPX.excO C hp.objs.size), g, dr, tk, os⟩ :=
    I1.laid (t' := tk) (a := hp.objs.size + 1) (o := exo (hp.objs.size + 1) C none) (h' := (hp.push (PySem.W.kdv_tup us)).push (PySem.HandSPX.excO C hp.objs.size)) kk hsz (exo_ok hget)
  have r2 : Vals (V.ref (hp.objs.size + 1) :: vs) (Value.ref (hp.objs.size + 1) :: us) := .cons rfl r1
  have hl : (Value.ref (hp.objs.size + 1) :: us ++ []).length = ps.length := by
    have z := r2.length
    rw [F1.len _ _ _ _ hq] at z
    rw [List.append_nil]
    exact z.symm
  have hus : us.length ≤ sizeLine := by
    rw [← Paired.length r1, sizeLine_eq]
    omega
  have b2 := hb _ (Value.ref (hp.objs.size + 1) :: us) I2.kIn hl
  rw [List.append_nil] at b2
  refine wpAny_call (PySem.HandSPX.call_own PySem.F.excBase_ValueError (fun Y => PySem.HandSPX.refsVE_contains Y bm hbm) (I1.kIn _ _ hC) (PySem.W.looks_findIn I1.kIn iC) (fun self => PySem.W.bind_fn I1.kIn self tI) hus
    (codeAny_mono (F1.run _ X.stack _ _ ⟨Value.ref (hp.objs.size + 1) :: us, []⟩ (Value.ref (hp.objs.size + 1) :: us) _ _ (fun _ _ _ => False) (hr.make C us []) (I2.env0.make C us []) b2 r2 hq) fun r s' hq' => ?_))
  cases r with
  | error er => exact hx pins σ _ _ er s' I2 hq'
  | ok fl =>
    cases fl with
    | ret u =>
      obtain ⟨v, H2, os2, bare2, un2, hok2, rv, ev, d, fs, ea, ed, hd1, q2⟩ := hq'
      subst ev
      obtain ⟨h2, g2, d2, t2, os'⟩ := s'
      obtain ⟨t0, G, J, kG, ge, hoe, na⟩ := mk_end0 (d2 := d2) (t2 := t2) I1 hsz kk un2 hok2 os2 bare2 ea ed hd1
      refine ⟨rv, hp.objs.size + 1, _, _, ⟨G, g2, d2, t2, os'⟩, _, .ref C, some d, rfl, J, kG, ge, hoe, ⟨rfl, rfl, fun vs hv => ?_⟩, rfl, rfl, na, rfl, bare2, raises_own T.exC T.tyC, q2⟩
      cases hv
      rfl
    | next => exact False.elim hq'
    | brk => exact False.elim hq'
    | cont => exact False.elim hq'
end OPN
/-! ### a dict of the module: x in d, x not in d -/
section KDI
open PySem PySem.Spec PyProof.Rows
def KDin (K : PySem.W.Frag) (w : World) (a : Addr) (x : Str) (r : Option Value) : Prop :=
  ∃ es n, K.lookup a = some ⟨.type "dict", none, .dict es n, #[]⟩ ∧ PySem.W.KeysLit w.params es.toList ∧ PySem.W.nsIn K a x = some r ∧ (a == sysModules) = false
def rNInD (K : PySem.W.Frag) (w : World) : R2 := fun x y H Q => ∃ z p r, x = .str z ∧ y = .ref p ∧ KDin K w p z r ∧ Q (.bl (!r.isSome)) H
theorem op_notInKD {X : Cx} : OpR X (compareOp .NotIn) (rNInD X.K X.w) := by
  intro pins s σ H x y v u Q I rx ry h
  obtain ⟨z, p, r, rfl, rfl, ⟨es, n, hl, hk, e, hd⟩, q⟩ := h
  obtain ⟨t, rfl⟩ := (show ∃ t, v = Value.str z t from rx)
  obtain rfl : u = Value.ref p := ry
  have hm := PySem.W.mapOf_K (prog := X.prog) (w := X.w) I.kIn hl hk
  refine wpAny_notIn_of (strKind_is X.prog X.w z t) hd hm ?_
  rw [PySem.W.find_K hl e]
  exact fin_bl (I.tok _) q rfl
def rInD (K : PySem.W.Frag) (w : World) : R2 := fun x y H Q => ∃ z p r, x = .str z ∧ y = .ref p ∧ KDin K w p z r ∧ Q (.bl r.isSome) H
theorem op_inKD {X : Cx} : OpR X (compareOp .In) (rInD X.K X.w) := by
  intro pins s σ H x y v u Q I rx ry h
  obtain ⟨z, p, r, rfl, rfl, ⟨es, n, hl, hk, e, hd⟩, q⟩ := h
  obtain ⟨t, rfl⟩ := (show ∃ t, v = Value.str z t from rx)
  obtain rfl : u = Value.ref p := ry
  have hm := PySem.W.mapOf_K (prog := X.prog) (w := X.w) I.kIn hl hk
  refine wpAny_in_of (strKind_is X.prog X.w z t) hd hm ?_
  rw [PySem.W.find_K hl e]
  exact fin_bl (I.tok _) q rfl
end KDI
/-! ### xs[a:c] = ys -/
section SLC
open PySem PySem.Spec PyProof.Rows
def gSlc (to ta tc : TE) : TG := fun v σ H Q => to σ H fun o H1 => tPart ta σ H1 fun a H2 => tPart tc σ H2 fun c H3 => ∃ (l b : Addr) (xs ys : List V) (i j : Int), o = .ref l ∧ v = .ref b ∧ a = some i ∧ c = some j ∧ H3 l = some (.lst xs) ∧ H3 b = some (.lst ys) ∧ l ≠ b ∧ 0 ≤ i ∧ i ≤ j ∧ j ≤ xs.length ∧ xs.length + ys.length ≤ sizeLine ∧ Q σ (upd H3 l (.lst (xs.take i.toNat ++ ys ++ xs.drop j.toNat)))
theorem pg_slc {X : Cx} {o i j : Expr} {to ta tc : TE} {p2 pos : Pos} (ho : PE X o to) (hi : PE X i ta) (hj : PE X j tc)
    (ha : ∀ v, assign (.Subscript o (.Slice (some i) (some j) none p2) pos) X.env v = (do
      let ov ← holding [v] (eval o X.env)
      let iv ← holding [v, ov] (eval (.Slice (some i) (some j) none p2) X.env)
      standAt pos
      holding [v, ov, iv] (setItem ov iv v)
      release [iv, v, ov] []) := by intro _; rfl) : PG X (.Subscript o (.Slice (some i) (some j) none p2) pos) (gSlc to ta tc) := by
  refine ⟨fun pins s σ H v u Q I r h => ?_⟩
  rw [ha]
  refine wpAny_bind (wpAny_holding (thn (ho.run pins s σ H _ I h) fun ov s1 ⟨x, H1, I1, r1, q1⟩ => ?_))
  refine wpAny_bind (wpAny_holding ?_)
  refine wpAny_Slice (thn ((po_some hi).run pins s1 σ H1 _ I1 q1) fun vl s2 ⟨lo, H2, I2, pl, q2⟩ => thn ((po_some hj).run pins s2 σ H2 _ I2 q2) fun vu s3 ⟨up, H3, I3, pu, q3⟩ => ?_)
  obtain ⟨l, b, xs, ys, i, j, rfl, rfl, rfl, rfl, hl, hb, hne, h0, h1, h2, h3, q⟩ := q3
  rw [evalPart_none]
  refine wpAny_pure ?_
  have I4 : Inv X pins σ H3 { s3 with heap := s3.heap.push { cls := .type "slice", data := .fields #[vl, vu, .none] } } := I3.kept (t' := s3.toks) fun b ob q => Heap.get?_push_of_some _ q
  cases (show ov = Value.ref l from r1)
  cases (show u = Value.ref b from r)
  cases pl with
  | int _ tl =>
    cases pu with
    | int _ tu =>
      refine wpAny_bind (wpAny_standAt (wpAny_bind (wpAny_holding (set_slice (s := { s3 with heap := s3.heap.push { cls := .type "slice", data := .fields #[.int i tl, .int j tu, .none] } }) (a := i) (c := j) I4 hl hb hne (Heap.IsSliceOf.new ..) ⟨_, rfl⟩ ⟨_, rfl⟩ h0 h1 h2 h3 fun s' I' => ?_))))
      exact wpAny_release ⟨σ, _, I', q⟩
end SLC
/-! ### enumerate(a tuple) -/
theorem enumT_new (q : Addr) (its : Array Value) (m : Nat) (dc : Option Addr) (so : Array (Option Value)) :
    PySem.Meets (Builtin.«enumerate.__new__» ⟨[.type "enumerate", .ref q], []⟩) (fun _ Rr st => st.heap.get? q = some { cls := .type "tuple", dict := dc, data := .seq its m, slots := so } ∧
      Rr (.ok (.ret (.ref (st.heap.push { cls := .type "tuple_iterator", data := .fields #[.ref q, .int 0 0] }).objs.size)))
        { st with heap := (st.heap.push { cls := .type "tuple_iterator", data := .fields #[.ref q, .int 0 0] }).push { cls := .type "enumerate", data := .fields #[.none, .bool false, .ref st.heap.objs.size, rawInt 0, .none, .none] } }) :=
  .of_wp fun prog w A Rr st y => by
    obtain ⟨hp, gg, dd, tk, oo⟩ := st
    obtain ⟨hl, y⟩ := y
    have hsub := PySem.sub_enumerate
    have hT : PySem.Heap.IsTuple (Shared.heap ⟨hp, gg, dd, tk, oo⟩) q its := ⟨_, hl, rfl, m, rfl⟩
    wp_walk using PySem.AutoSeq1.wpAny_loadPart' hl
    refine wpAny_stack_any fun ss => wpAny_pure ?_
    split
    · rename_i cc _ _ _ _ _
      cases (cc == Value.type "enumerate")
      · wp_walk using PySem.AutoSeq1.wpAny_loadPart' hl, PySem.wpAny_pyIter_tuple hT
        exact ⟨_, rfl, y⟩
      · wp_walk using PySem.AutoSeq1.wpAny_loadPart' hl, PySem.wpAny_pyIter_tuple hT
        exact ⟨_, rfl, y⟩
    · wp_walk using PySem.AutoSeq1.wpAny_loadPart' hl, PySem.wpAny_pyIter_tuple hT
      exact ⟨_, rfl, y⟩
theorem enumT_call {prog : Program} {w : World} {A : Around} {Ex : Value → Shared → Prop} {st : Shared} {q : Addr} {its : Array Value} {Qq : Value → Shared → Prop} (hT : st.heap.IsTuple q its)
    (y : ∀ g', PySem.IsEnum g' (st.heap.objs.size + 1) st.heap.objs.size 0 .none → g'.IsTupleIter st.heap.objs.size q 0 → (∀ b o, st.heap.get? b = some o → g'.get? b = some o) → Qq (.ref (st.heap.objs.size + 1)) { st with heap := g' }) :
    wpAny (model prog w) A (call (.type "enumerate") [.ref q]) Qq Ex st := by
  obtain ⟨⟨cc, dc, dt, so⟩, hl, h1, m, h2⟩ := hT
  have h1 : cc = .type "tuple" := h1
  have h2 : dt = .seq its m := h2
  subst h1 h2
  refine PySem.callType_new PySem.F.called_enumerate (by decide) (PySem.F.typeCall_enumerate_1 _) (PySem.F.newCall_enumerate_1 _) (fun ob => PySem.F.args_object_init_2 ob _) PySem.F.entry_enumerate_new (enumT_new q its m dc so) ⟨hl, ?_⟩
  have e1 : (st.heap.push { cls := .type "tuple_iterator", data := .fields #[.ref q, .int 0 0] }).objs.size = st.heap.objs.size + 1 := Heap.size_push ..
  show _ ∧ _
  rw [e1]
  have e2 : PySem.IsEnum ((st.heap.push { cls := .type "tuple_iterator", data := .fields #[.ref q, .int 0 0] }).push { cls := .type "enumerate", data := .fields #[.none, .bool false, .ref st.heap.objs.size, rawInt 0, .none, .none] }) (st.heap.objs.size + 1) st.heap.objs.size 0 .none := by
    have e3 := Heap.get?_push_size (st.heap.push { cls := .type "tuple_iterator", data := .fields #[.ref q, .int 0 0] }) (o := { cls := .type "enumerate", data := .fields #[.none, .bool false, .ref st.heap.objs.size, rawInt 0, .none, .none] }) rfl
    rw [e1] at e3
    exact e3
  exact ⟨⟨_, e2, rfl⟩, y _ e2 ⟨_, Heap.get?_push_of_some _ (Heap.get?_push_size _ rfl), rfl, rfl⟩ fun b o z => Heap.get?_push_of_some _ (Heap.get?_push_of_some _ z)⟩
/-- the tuple at q, each item in a new pair -/
def ItET (Kf : PySem.W.Frag) (q : Addr) : It :=
  ⟨fun j G => ∃ (xs : List V) (v : V), SqT Kf G q xs ∧ xs[j]? = some v, fun j G v G' => ∃ p u, v = .ref p ∧ G p = none ∧ G' = upd G p (.tup [.int (j : Nat), u]) ∧ ∀ xs, SqT Kf G q xs → xs[j]? = some u, fun j G => ∃ xs : List V, SqT Kf G q xs ∧ xs.length = j⟩
theorem turn_ET {Pr : Program} {wo : World} {Kf : PySem.W.Frag} {ts : List Expr} {nn : Nat} {tp : Pos} (q en it : Addr) :
    Turn Pr wo Kf (.Tuple ts nn tp) (ItET Kf q) [en, it] en (fun j g => (∃ old, PySem.IsEnum g en it ((j : Nat) : Int) old) ∧ g.IsTupleIter it q j ∧ en ≠ it) where
  mem := List.mem_cons_self
  obj := fun j g st b hb => by
    obtain ⟨⟨old, h1⟩, ⟨ob, h2, h3, h4⟩, _⟩ := st
    rcases List.mem_cons.mp hb with rfl | hb
    · exact ⟨_, h1, fun v y => nomatch y⟩
    · cases List.mem_singleton.mp hb
      refine ⟨ob, h2, fun v y => ?_⟩
      rw [h4] at y
      cases y
  keep := fun j g g' st kk => by
    obtain ⟨⟨old, h1⟩, ⟨ob, h2, h3⟩, h5⟩ := st
    exact ⟨⟨old, kk en List.mem_cons_self _ h1⟩, ⟨ob, kk it (List.mem_cons_of_mem _ List.mem_cons_self) _ h2, h3⟩, h5⟩
  item := by
    intro X e1 e2 e3 calm j pins s σ G Ex inv fp st lt
    cases e1
    cases e2
    cases e3
    obtain ⟨⟨old, h1⟩, h2, ne⟩ := st
    obtain ⟨xs, v, hq, hv⟩ := lt
    obtain ⟨its, rv, hT, hz⟩ := inv.tuple hq
    obtain ⟨u, hu, ru⟩ := rv.get hv
    have l1 : en < s.heap.objs.size := Heap.lt_size h1
    have l2 : it < s.heap.objs.size := by
      obtain ⟨_, y, _⟩ := h2
      exact Heap.lt_size y
    have nqi : q ≠ it := fun z => by
      obtain ⟨o1, y1, y2, _⟩ := hT
      obtain ⟨o2, y3, y4, _⟩ := h2
      rw [z, y3] at y1
      cases y1
      rw [y4] at y2
      exact absurd y2 (by decide +kernel)
    have nqe : en ≠ q := fun z => by
      obtain ⟨o1, y1, y2, _⟩ := hT
      rw [← z, h1] at y1
      cases y1
      exact absurd (show Value.type "enumerate" = Value.type "tuple" from y2) (by decide +kernel)
    have lt : j < its.toArray.size := by
      have y := (List.getElem?_eq_some_iff.mp hu).1
      simpa using y
    refine PySem.wpAny_pyNext_enum_itemD (PySem.Draws.tuple (show X.A.in1.handled = none from inv.ok.hd calm) it q nqi its.toArray) h1 ⟨h2, hT⟩ lt ne (fun y => ?_) fun u' g' t2 hu' out h2' hT' sz kp => ?_
    · rcases List.mem_cons.mp y with z | z
      · exact ne z
      · exact nqe (List.mem_singleton.mp z)
    have eu : u' = u := by
      have y : its.toArray[j]? = some u' := hu'
      rw [List.getElem?_toArray, hu] at y
      exact (Option.some.inj y).symm
    subst eu
    refine ⟨_, rfl, PySem.wpAny_letOwnedTupleGo_enum (s := { s with heap := g', toks := t2 + 1 }) out fun g'' h1' sb => ?_⟩
    have hT2 : g''.get? s.heap.objs.size = some { cls := .type "tuple", data := .seq #[.int j t2, u'] } := (sb.2 _ (Nat.ne_of_gt l1)).trans hT'
    have made : ObjOk X.prog X.w (upd G s.heap.objs.size (.tup [.int (j : Nat), v])) g'' s.heap.objs.size (.tup [.int (j : Nat), v]) :=
      ⟨two_le, [.int j t2, u'], .cons ⟨_, rfl⟩ (.cons ru .nil), ⟨_, hT2, rfl, _, rfl⟩⟩
    have inv' : Inv X pins σ (upd G s.heap.objs.size (.tup [.int (j : Nat), v])) { s with heap := g'', toks := t2 + 1 } := by
      refine Inv.turnedNew (ch := [en, it]) inv (fun b ob nb y => ?_) fp (Nat.le_refl _) made
      have n1 : b ≠ en := fun y => nb (by rw [y]; exact List.mem_cons_self)
      have n2 : b ≠ it := fun y => nb (by rw [y]; exact List.mem_cons_of_mem _ List.mem_cons_self)
      exact (sb.2 b n1).trans (kp b ob n1 n2 y)
    refine ⟨.ref s.heap.objs.size, _, inv', rfl, ⟨_, v, rfl, inv.hok.fresh (Nat.le_refl _), rfl, fun ys hy => by rw [inv.tuple_inj hy hq]; exact hv⟩, ⟨⟨u', ?_⟩, ?_, ne⟩, fun b hb => ?_⟩
    · rw [show (((j + 1 : Nat) : Nat) : Int) = (j : Int) + 1 by omega]
      exact h1'
    · obtain ⟨ob, y1, y2⟩ := h2'.1
      exact ⟨ob, (sb.2 it (Ne.symm ne)).trans y1, y2⟩
    · have lb : b < s.heap.objs.size := by
        rcases List.mem_cons.mp hb with rfl | hb
        · exact l1
        · cases List.mem_singleton.mp hb
          exact l2
      rw [upd_ne (Nat.ne_of_lt lb)]
      exact (fp b hb).1
  done := by
    intro X e1 e2 e3 calm j pins s σ G Ex inv fp st ge
    cases e1
    cases e2
    cases e3
    obtain ⟨⟨old, h1⟩, h2, ne⟩ := st
    obtain ⟨xs, hq, hl⟩ := ge
    obtain ⟨its, rv, hT, hz⟩ := inv.tuple hq
    have nqi : q ≠ it := fun z => by
      obtain ⟨o1, y1, y2, _⟩ := hT
      obtain ⟨o2, y3, y4, _⟩ := h2
      rw [z, y3] at y1
      cases y1
      rw [y4] at y2
      exact absurd y2 (by decide +kernel)
    have ej : j = its.toArray.size := by
      have := rv.length
      rw [List.size_toArray]
      omega
    subst ej
    obtain ⟨f0, f1, f2, f3, f4, f5⟩ := fp it (List.mem_cons_of_mem _ List.mem_cons_self)
    exact PySem.wpAny_pyNext_enum_endD (PySem.Draws.tuple (show X.A.in1.handled = none from inv.ok.hd calm) it q nqi its.toArray) h1 ⟨h2, hT⟩ fun g' eb => ⟨rfl, inv.turned (t' := s.toks) (fun b o nb y => eb b o nb y) f0 f1 f3 f4 f5⟩
  self := fun Ar j s Q Ex st y => by
    obtain ⟨⟨_, h1⟩, _⟩ := st
    exact PySem.wpAny_pyIter_enum h1 y
def iET (Kf : PySem.W.Frag) (ta : L2.TA) : TI := fun σ G R => ta σ G fun vs G1 => ∃ q xs, vs = [.ref q] ∧ SqT Kf G1 q xs ∧ R (ItET Kf q) G1
theorem pi_ET {X : Cx} {ex : Expr} {ta : L2.TA} {p pos tp : Pos} {ts : List Expr} {nn : Nat} (gl : Gl X "enumerate") (mm : X.mg "enumerate" = none) (ha : PA X [ex] ta) (hs : starEach [ex] X.env = [(false, eval ex X.env)] := by rfl) :
    PI X (.Tuple ts nn tp) (.Call (.Name "enumerate" p) [ex] [] pos) (iET X.K ta) := by
  refine ⟨fun pins s σ G R inv y => ?_⟩
  refine PyProof.Rows.Call_ (ld_blt inv gl mm PyProof.Rows.boot_enumerate (PyProof.Rows.callWith_type1 (thn (ha.run pos pins s σ G _ inv y) fun us s1 ⟨vs, G1, inv1, r1, q1⟩ => ?_) hs rfl))
  obtain ⟨q, xs, rfl, hq, k⟩ := q1
  cases r1 with
  | cons r rr =>
    cases rr
    cases r
    obtain ⟨its, rv, hT, hz⟩ := inv1.tuple hq
    refine enumT_call hT fun g' h1 h2 kp => PySem.wpAny_pyIter_enum h1 ?_
    refine ⟨s1.heap.objs.size + 1, [s1.heap.objs.size + 1, s1.heap.objs.size], _, _, G1, rfl, inv1.kept (t' := s1.toks) kp, turn_ET q (s1.heap.objs.size + 1) s1.heap.objs.size, ⟨⟨.none, h1⟩, h2, Nat.succ_ne_self _⟩, fun b hb => ?_, k⟩
    have ge : s1.heap.objs.size ≤ b := by
      rcases List.mem_cons.mp hb with rfl | hb
      · exact Nat.le_succ _
      · cases List.mem_singleton.mp hb
        exact Nat.le_refl _
    exact inv1.fpOk ge (inv1.hok.fresh ge)
theorem for_ET {Kf : PySem.W.Frag} {q : Addr} {xs : List V} {g : TG} {tb : TS} {D : Ends} {σ : L2.St} {G : Hp} (Pv : Nat → L2.St → Hp → Prop) (h0 : Pv 0 σ G) (hl : ∀ j σ G, Pv j σ G → SqT Kf G q xs)
    (hs : ∀ j v σ G, xs[j]? = some v → Pv j σ G → ∀ p, G p = none → g (.ref p) σ (upd G p (.tup [.int (j : Nat), v])) fun σ2 G2 => tb { D with nx := Pv (j + 1), ct := Pv (j + 1), bk := D.nx } σ2 G2) (hd : ∀ σ G, Pv xs.length σ G → D.nx σ G) :
    ∃ Wd : Nat → Nat → L2.St → Hp → Prop, (∃ m, Wd 0 m σ G) ∧ ∀ j m σ G, Wd j m σ G →
      ((ItET Kf q).stop j G ∧ D.nx σ G) ∨ ((ItET Kf q).go j G ∧ ∃ Nn : L2.St → Hp → Prop, (∀ σ' G', Nn σ' G' → ∃ m', m' < m ∧ Wd (j + 1) m' σ' G') ∧ ∀ v G', (ItET Kf q).yld j G v G' → g v σ G' fun σ2 G2 => tb { D with nx := Nn, ct := Nn, bk := D.nx } σ2 G2) := by
  refine ⟨fun j m σ G => m = xs.length - j ∧ j ≤ xs.length ∧ Pv j σ G, ⟨_, rfl, Nat.zero_le _, h0⟩, ?_⟩
  rintro j m σ G ⟨rfl, le, pv⟩
  have hq := hl j σ G pv
  rcases Nat.lt_or_ge j xs.length with lt | ge
  · refine .inr ⟨⟨xs, xs[j], hq, List.getElem?_eq_getElem lt⟩, Pv (j + 1), fun σ' G' y => ⟨xs.length - (j + 1), by omega, rfl, lt, y⟩, fun v G' y => ?_⟩
    obtain ⟨p, u, rfl, np, rfl, hu⟩ := y
    exact hs j u σ G (hu xs hq) pv p np
  · have ej : j = xs.length := Nat.le_antisymm le ge
    subst ej
    exact .inl ⟨⟨xs, hq, rfl⟩, hd σ G pv⟩
/-! ### for over enumerate(a list) -/
section ENL
open PySem PySem.Spec PyProof.Rows
theorem for_EL {Kf : PySem.W.Frag} {q : Addr} {xs : List V} {g : TG} {tb : TS} {D : Ends} {σ : L2.St} {G : Hp} (Pv : Nat → L2.St → Hp → Prop) (h0 : Pv 0 σ G) (hl : ∀ j σ G, Pv j σ G → SqL Kf G q xs)
    (hs : ∀ j v σ G, xs[j]? = some v → Pv j σ G → ∀ p, G p = none → g (.ref p) σ (upd G p (.tup [.int (j : Nat), v])) fun σ2 G2 => tb { D with nx := Pv (j + 1), ct := Pv (j + 1), bk := D.nx } σ2 G2) (hd : ∀ σ G, Pv xs.length σ G → D.nx σ G) :
    ∃ Wd : Nat → Nat → L2.St → Hp → Prop, (∃ m, Wd 0 m σ G) ∧ ∀ j m σ G, Wd j m σ G →
      ((Ite Kf q).stop j G ∧ D.nx σ G) ∨ ((Ite Kf q).go j G ∧ ∃ Nn : L2.St → Hp → Prop, (∀ σ' G', Nn σ' G' → ∃ m', m' < m ∧ Wd (j + 1) m' σ' G') ∧ ∀ v G', (Ite Kf q).yld j G v G' → g v σ G' fun σ2 G2 => tb { D with nx := Nn, ct := Nn, bk := D.nx } σ2 G2) := by
  refine ⟨fun j m σ G => m = xs.length - j ∧ j ≤ xs.length ∧ Pv j σ G, ⟨_, rfl, Nat.zero_le _, h0⟩, ?_⟩
  rintro j m σ G ⟨rfl, le, pv⟩
  have hq := hl j σ G pv
  rcases Nat.lt_or_ge j xs.length with lt | ge
  · refine .inr ⟨⟨xs, xs[j], hq, List.getElem?_eq_getElem lt⟩, Pv (j + 1), fun σ' G' y => ⟨xs.length - (j + 1), by omega, rfl, lt, y⟩, fun v G' y => ?_⟩
    obtain ⟨p, u, rfl, np, rfl, hu⟩ := y
    exact hs j u σ G (hu xs hq) pv p np
  · have ej : j = xs.length := Nat.le_antisymm le ge
    subst ej
    exact .inl ⟨⟨xs, hq, Nat.le_refl _⟩, hd σ G pv⟩
end ENL
section OPDS
open PySem PySem.Spec PyProof.Rows
/-! ### {**d, k: v} -/
section
variable {prog : Program} {w : World} {K : Type} [DecidableEq K] {knd : KeyKind prog w K} {A : Around} {E : Value → Shared → Prop} {s : Shared}
theorem wpAny_dictPut {d : Addr} {kvs : List (K × Value)} {k : K} {key v : Value} {Q : Unit → Shared → Prop} (hkey : knd.is k key = true) (hm : s.heap.DictOf knd d kvs)
    (hQ : ∀ h', h'.DictOf knd d (stored kvs k v) → Heap.SameBut d s.heap h' → Q () { s with heap := h' }) (hsz : kvs.length ≤ sizeLine) :
    wpAny (model prog w) A (dictPut d (knd.hash k) key v) Q E s := by
  obtain ⟨o, es, ep, ho, hc, hd, hk, hp, hn⟩ := hm
  have hes : es.size ≤ sizeLine := by
    have e1 := hp.length
    have e2 : es.toList.length = es.size := by simp
    omega
  unfold dictPut
  refine wpAny_bind (wpAny_dictFind_of hkey ho hd hk ?_)
  have hidx : (es.findIdx? fun e => knd.is k e.key) = kvs.findIdx? fun kv => decide (kv.1 = k) := by
    rw [← hp.findIdx k]; obtain ⟨l⟩ := es; simp
  cases hi : es.findIdx? fun e => knd.is k e.key with
  | some i =>
    refine wpAny_updateDict ho hd (hQ _ ⟨_, _, ep, Heap.get?_update_self _ ho (Obj.isFreed_of_dict (Obj.data_mapDict hd _)),
      hc.mapDict _, Obj.data_mapDict hd _, hk.modify _ _, ?_, ?_⟩ (Heap.SameBut.update ..))
    · rw [stored, if_pos (any_of_findIdx_some (hidx ▸ hi))]
      have hl : (es.toList.findIdx? fun e => knd.is k e.key) = some i := by rw [← hi]; obtain ⟨l⟩ := es; simp
      have := hp.modify hn hl v
      obtain ⟨l⟩ := es
      simpa using this
    · rw [stored, if_pos (any_of_findIdx_some (hidx ▸ hi)), keys_map_store]; exact hn
  | none =>
    have hnot : k ∉ kvs.map (·.1) := not_mem_of_findIdx_none (hidx ▸ hi)
    have hany : ¬ (kvs.any fun kv => decide (kv.1 = k)) = true := by
      rw [List.any_eq_true]; rintro ⟨kv, hkv, he⟩
      exact hnot (List.mem_map.mpr ⟨kv, hkv, of_decide_eq_true he⟩)
    refine wpAny_updateDictKeys (hz := hes) ho hd (hQ _ ⟨_, _, ep + 1, Heap.get?_update_self _ ho (Obj.isFreed_of_dict (Obj.data_mapDictKeys hd _)),
      hc.mapDictKeys _, Obj.data_mapDictKeys hd _, hk.push hkey _, ?_, ?_⟩ (Heap.SameBut.update ..))
    · rw [stored, if_neg hany]
      have := hp.append hkey (knd.hash k) v
      obtain ⟨l⟩ := es
      simpa using this
    · rw [stored, if_neg hany, List.map_append, List.nodup_append]
      refine ⟨hn, by simp, ?_⟩
      intro a ha b hb
      simp only [List.map_cons, List.map_nil, List.mem_singleton] at hb
      subst hb
      exact fun e => hnot (e ▸ ha)
theorem wpAny_mergeMapping {d o : Addr} {kvs more : List (K × Value)} {Q : Unit → Shared → Prop} (hdo : d ≠ o) (hoS : (o == sysModules) = false)
    (hd : s.heap.DictOf knd d kvs) (ho : s.heap.DictOf knd o more) (nr : ∀ k (key : Value), knd.is k key = true → ∀ a, key ≠ .ref a)
    (hQ : ∀ h', h'.DictOf knd d (merged kvs more) → Heap.SameBut d s.heap h' → Q () { s with heap := h' })
    (hsz : kvs.length + more.length ≤ sizeLine) :
    wpAny (model prog w) A (mergeMapping d (.ref o) false) Q E s := by
  obtain ⟨od, esd, epd, hod, hcd, hdd, hkd, hpd, hnd⟩ := id hd
  obtain ⟨oo, eso, epo, hoo, hco, hdo', hko, hpo, hno⟩ := id ho
  unfold mergeMapping
  refine wpAny_bind (wpAny_isInstance ho.typeIs isSubtype_dict_dict ?_)
  simp only [if_true]
  have hlen : more.length = eso.size := by rw [← hpo.length]; simp
  have loop : wpAny (model prog w) A (do
      let l ← dictEntries o
      let epoch ← dictEpoch o
      forIn (List.range l.size) PUnit.unit fun i (_ : PUnit) => (do
          let l' ← dictEntries o
          match l'[i]? with
            | some e => do
              holding [e.key, e.val] (dictPut d e.hash e.key e.val)
              let ep' ← dictEpoch o
              if (ep' != epoch) = true then do
                  (unsupported "dict.changed-during-merge" : Sem PUnit)
                  pure (ForInStep.yield PUnit.unit)
                else pure (ForInStep.yield PUnit.unit)
            | _ => do
              (unsupported "dict.changed-during-merge" : Sem PUnit)
              pure (ForInStep.yield PUnit.unit) : Sem (ForInStep PUnit))
      pure ()) Q E s := by
    refine wpAny_bind (wpAny_dictEntries hoo hdo' ?_)
    refine wpAny_bind (wpAny_dictEpoch hoo hdo' ?_)
    refine wpAny_bind ?_
    rw [List.range_eq_range']
    refine wpAny_forIn_list _
      (fun rest _ s' => ∃ h' i, s' = { s with heap := h' } ∧ rest = List.range' i (eso.size - i) ∧ i ≤ eso.size ∧ h'.DictOf knd d (merged kvs (more.take i)) ∧ h'.get? o = some oo ∧ Heap.SameBut d s.heap h')
      _ ?_ ?_ _ _ ⟨s.heap, 0, rfl, by simp, Nat.zero_le _, by simpa [merged] using hd, hoo, Heap.SameBut.refl _ _⟩
    · rintro x rest b s' ⟨h', i, rfl, hr, hi, hd', hoo', hs'⟩
      have hlt : i < eso.size := by
        rcases Nat.lt_or_ge i eso.size with h | h
        · exact h
        · rw [Nat.sub_eq_zero_of_le h] at hr; simp at hr
      obtain ⟨rfl, hrest⟩ : x = i ∧ rest = List.range' (i + 1) (eso.size - (i + 1)) := by
        have e : eso.size - i = (eso.size - (i + 1)) + 1 := by omega
        rw [e, List.range'_succ] at hr
        injection hr with h1 h2
        exact ⟨h1, h2⟩
      refine wpAny_bind (wpAny_dictEntries hoo' hdo' ?_)
      rw [Array.getElem?_eq_getElem hlt]
      obtain ⟨kv, hkv⟩ : ∃ kv, more[x]? = some kv := ⟨more[x]'(by rw [hlen]; exact hlt), List.getElem?_eq_getElem _⟩
      obtain ⟨k, v⟩ := kv
      obtain ⟨hkey, hval⟩ := hpo.get? (e := eso[x]) (by simp [hlt]) hkv
      obtain ⟨k', hkey', hhash⟩ := hko eso[x] (Array.getElem_mem hlt)
      obtain rfl : k' = k := knd.inj _ _ _ hkey' hkey
      show wpAny _ _ (holding [eso[x].key, eso[x].val] (dictPut d eso[x].hash eso[x].key eso[x].val) >>= _) _ _ _
      rw [hhash, hval]
      have hmx : (merged kvs (more.take x)).length ≤ sizeLine := by
        have e1 := merged_length_le kvs (more.take x)
        have e2 : (more.take x).length ≤ more.length := by rw [List.length_take]; omega
        omega
      refine wpAny_bind (wpAny_holding (wpAny_dictPut hkey hd' (fun h'' hd'' hs'' => ?_) hmx))
      have hoo'' : h''.get? o = some oo := (hs''.2 o (Ne.symm hdo)).trans hoo'
      refine wpAny_bind (wpAny_dictEpoch hoo'' hdo' ?_)
      rw [if_neg (by simp)]
      exact wpAny_pure ⟨h'', x + 1, rfl, hrest, hlt, by rw [merged_take_succ kvs more x (k', v) hkv]; exact hd'', hoo'', hs'.trans hs''⟩
    · rintro b s' ⟨h', i, rfl, hr, hi, hd', hoo', hs'⟩
      have hin : i = eso.size := by
        rcases Nat.lt_or_ge i eso.size with h | h
        · have e : eso.size - i = (eso.size - (i + 1)) + 1 := by omega
          rw [e, List.range'_succ] at hr; exact nomatch hr
        · exact Nat.le_antisymm hi h
      refine wpAny_pure (hQ h' ?_ hs')
      rw [hin, ← hlen, List.take_length] at hd'; exact hd'
  refine wpAny_bind (wpAny_specialOf ho.typeIs F.slot_dict_iter.lookup (wpAny_bind (wpAny_pure ?_)))
  simp only [beq_self_eq_true, Bool.false_eq_true, if_false, hoS]
  refine wpAny_bind (wpAny_dictEntries hod hdd ?_)
  split
  · refine wpAny_bind (wpAny_dictEntries hoo hdo' ?_)
    refine wpAny_bind ?_
    rw [← Array.forIn_toList]
    refine wpAny_forIn_list _ (fun rest _ s' => s' = s ∧ ∀ e ∈ rest, ∀ a, e.key ≠ .ref a) _ ?_ ?_ _ _ ⟨rfl, fun e he a => ?_⟩
    · rintro x rest b s' ⟨rfl, hr⟩
      have hx := hr x List.mem_cons_self
      have hrest : ∀ e ∈ rest, ∀ a, e.key ≠ .ref a := fun e he => hr e (List.mem_cons_of_mem _ he)
      cases hk : x.key with
      | ref a => exact absurd hk (hx a)
      | _ => exact wpAny_pure ⟨rfl, hrest⟩
    · rintro b s' ⟨rfl, _⟩
      exact loop
    · obtain ⟨k', hkey', _⟩ := hko e (Array.mem_toList_iff.mp he)
      exact nr _ _ hkey' a
  · exact loop
end
def tDispStar (t0 tk tv : TE) : TE := fun σ H Q => ∀ d, H d = none → t0 σ (upd H d (.dK [])) fun x H1 => H1 d = some (.dK []) ∧ ∃ (a : Addr) (kvs : List (L2.Key × V)), x = .ref a ∧ a ≠ d ∧ Rd H1 a (.dK kvs) ∧ kvs.length < sizeLine ∧
  ∀ p, (upd H1 d (.dK kvs)) p = none → tk σ (upd (upd H1 d (.dK kvs)) p (.dK [])) fun y H2 => tv σ H2 fun z H3 => H3 p = some (.dK []) ∧ H3 d = some (.dK kvs) ∧ ∃ key : L2.Key, y = kV key ∧ Q (.ref d) (upd (upd H3 p (.dK [(key, z)])) d (.dK (putK kvs key z)))
theorem pe_dispStar {X : Cx} {pos : Pos} {e0 k v : Expr} {t0 tk tv : TE} (hu : X.A.units + 1 < cLine) (h0 : PE X e0 t0) (hk : PE X k tk) (hv : PE X v tv) : PE X (.Dict [none, some k] [e0, v] pos) (tDispStar t0 tk tv) := by
  refine ⟨fun pins s σ H Q I q => ?_⟩
  have hn := I.hok.fresh (Nat.le_refl s.heap.objs.size)
  have I1 := I.laid (a := s.heap.objs.size) (o := .dK []) (h' := s.heap.push { cls := .type "dict", data := .dict #[] }) (t' := s.toks) (fun _ _ q => Heap.get?_push_of_some _ q) (Nat.le_refl _) (dk_empty s.heap I.big)
  rw [arm_eval_Dict]
  refine wpAny_bind (wpAny_standAt ?_)
  unfold dictDisplay
  show wpAny _ _ (do
    let r ← forIn [((none : Option (Sem Value)), (do let x ← eval e0 X.env; standAt pos; pure x : Sem Value)), (some (eval k X.env), (do let x ← eval v X.env; standAt pos; pure x : Sem Value))] _ _
    _) _ _ _
  rw [List.forIn_cons]
  refine wpAny_bind (wpAny_bind ?_)
  dsimp only
  rw [if_pos (show ([] : List (Sem Value × Sem Value)).isEmpty = true from rfl)]
  refine wpAny_bind (wpAny_pure ?_)
  refine wpAny_bind (wpAny_alloc ?_)
  refine wpAny_bind (wpAny_holding ?_)
  refine wpAny_bind (thn (h0.run pins _ σ _ _ I1 (q _ hn)) fun u s1 ⟨x, H1, I2, rx, ed, a, kvs, ex, nad, ha, hsz, q1⟩ => wpAny_bind (wpAny_standAt (wpAny_pure ?_)))
  subst ex
  obtain rfl : u = Value.ref a := rx
  generalize hd : s.heap.objs.size = d at *
  obtain ⟨zd, hds, vs0, r0, dd0⟩ := dk_of I2.hok ed
  cases r0
  obtain ⟨za, has, vs, ra, da⟩ := dk_rd I2.hok ha
  have nr : ∀ (k : L2.Key) (key : Value), (mixKind X.prog X.w).is k key = true → ∀ a, key ≠ .ref a := fun k key h a z => by
    rw [z] at h
    cases k <;> cases h
  have hnd : (vs.map (·.1)).Nodup := let ⟨_, _, _, _, _, _, _, _, hn⟩ := da; hn
  refine wpAny_bind (wpAny_onRaise (wpAny_tryCatch (wpAny_onRaise (wpAny_holding (wpAny_mergeMapping (knd := mixKind X.prog X.w) (kvs := []) (more := vs) nad.symm has dd0 da nr (fun h' dd' hs => ?_) (by rw [← ra.length]; exact Nat.le_of_lt (by rw [List.length_nil, Nat.zero_add]; exact hsz)))))))
  rw [merged_nil_of_nodup vs hnd] at dd'
  have hcat : kvs.length ≤ sizeLine := Nat.le_of_lt hsz
  have I3 : L2.Inv X pins σ (upd H1 d (.dK kvs)) { s1 with heap := h' } := d_write (t' := s1.toks) I2 (by rw [ed]; exact True.intro) hs (let ⟨q, _, _, hq, _⟩ := dd'; ⟨q, hq⟩) (dk_new hcat hds ra dd')
  refine wpAny_pure ?_
  dsimp only
  rw [List.forIn_cons]
  refine wpAny_bind ?_
  dsimp only [List.nil_append, List.length_cons, List.length_nil]
  rw [if_neg (show ¬ ((0 + 1 == 17) = true) from by decide)]
  refine wpAny_pure ?_
  dsimp only
  rw [List.forIn_nil]
  refine wpAny_pure ?_
  dsimp only [List.isEmpty_cons]
  rw [if_neg (show ¬ (false = true) from by decide)]
  refine wpAny_bind (wpAny_bind (wpAny_holding (wpAny_subDict (knd := mixKind X.prog X.w) (show 1 ≤ 15 from by decide) ?_)))
  have hn3 := I3.hok.fresh (Nat.le_refl h'.objs.size)
  have I4 := I3.laid (a := h'.objs.size) (o := .dK []) (h' := h'.push { cls := .type "dict", data := .dict #[] }) (t' := s1.toks) (fun _ _ q => Heap.get?_push_of_some _ q) (Nat.le_refl _) (dk_empty h' I3.big)
  have q2 := q1 _ hn3
  dsimp only at *
  generalize hp : h'.objs.size = p at *
  refine evalPairs_cons (thn (hk.run pins _ σ _ _ I4 q2) fun y0 s4 ⟨y, H4, I5, ry, q3⟩ => wpAny_bind (thn (hv.run pins _ σ _ _ I5 q3) fun z0 s5 ⟨z, H5, I6, rz, ep, ed5, key, ey, q4⟩ => wpAny_bind (wpAny_standAt (wpAny_pure (evalPairs_nil ?_)))))
  subst ey
  obtain ⟨_, hps, vp, rp, dp⟩ := dk_of I6.hok ep
  cases rp
  refine ⟨[(key, z0)], ⟨kV_is ry, rfl, trivial⟩, dp, fun h6 dd6 hs6 => ?_⟩
  have dd6 : h6.DictOf (mixKind X.prog X.w) p [(key, z0)] := dd6
  have I7 : L2.Inv X pins σ (upd H5 p (.dK [(key, z)])) { s5 with heap := h6, toks := s5.toks + 1 } := d_write (t' := s5.toks + 1) I6 (by rw [ep]; exact True.intro) hs6 (let ⟨q, _, _, hq, _⟩ := dd6; ⟨q, hq⟩) (dk_new (by show 1 ≤ sizeLine; decide) hps (.cons ⟨rfl, rz⟩ .nil) dd6)
  have npd : p ≠ d := fun z => by rw [z, upd_same] at hn3; cases hn3
  have ed7 : (upd H5 p (.dK [(key, z)])) d = some (.dK kvs) := by rw [upd_ne npd.symm]; exact ed5
  obtain ⟨_, _, vs7, r7, dd7⟩ := dk_of I7.hok ed7
  refine wpAny_bind (wpAny_onRaise (wpAny_holding (wpAny_mergeMapping (knd := mixKind X.prog X.w) (kvs := vs7) (more := [(key, z0)]) npd.symm hps dd7 dd6 nr (fun h8 dd8 hs8 => ?_) (by rw [← r7.length]; exact hsz))))
  refine wpAny_pure (wpAny_pure ?_)
  have dd8 : h8.DictOf (mixKind X.prog X.w) d (stored vs7 key z0) := dd8
  have hl8 : (putK kvs key z).length ≤ sizeLine := by
    have := length_putK kvs key z
    omega
  refine ⟨.ref d, _, d_write (t' := s5.toks + 1) I7 (by rw [ed7]; exact True.intro) hs8 (let ⟨q, _, _, hq, _⟩ := dd8; ⟨q, hq⟩) (dk_new hl8 hds (r7.put key rz) dd8), rfl, q4⟩
end OPDS
section OPLP
open PySem PySem.Spec PyProof.Rows
/-! ### a lambda of two parameters handed to a def that calls it -/
/-- the object at a is o -/
def PinO (a : Addr) (o : Obj) : HO := .ext fun h => h.get? a = some o
/-- all but what is told by a word stays -/
def ExtE (H H' : Hp) : Prop := ∀ b o, H b = some o → (∀ φ, o ≠ .ext φ) → H' b = some o
theorem ExtE.same {H H' : Hp} (s : Same H H') : ExtE H H' := fun b o e _ => s b o e
theorem ExtE.trans {H H1 H2 : Hp} (a : ExtE H H1) (b : ExtE H1 H2) : ExtE H H2 := fun c o e n => b c o (a c o e n) n
theorem ExtE.tp {H H' : Hp} (e : ExtE H H') : Tp H H' := fun b xs h => by
  rcases h with h | ⟨o, h⟩
  · exact .inl (e _ _ h fun φ z => by cases z)
  · exact .inr ⟨o, e _ _ h fun φ z => by cases z⟩
def dropH (as : List Addr) (H : Hp) : Hp := fun b => if b ∈ as then none else H b
def pinH (as : List Addr) (h : Heap) (H : Hp) : Hp := fun b => if b ∈ as then (h.get? b).map (PinO b) else H b
def mixH (as : List Addr) (Hi Ho : Hp) : Hp := fun b => if b ∈ as then Hi b else Ho b
theorem dropH_in {as : List Addr} {H : Hp} {b : Addr} (h : b ∈ as) : dropH as H b = none := if_pos h
theorem dropH_out {as : List Addr} {H : Hp} {b : Addr} (h : b ∉ as) : dropH as H b = H b := if_neg h
theorem dropH_none {as : List Addr} {H : Hp} {b : Addr} (h : H b = none) : dropH as H b = none := by
  unfold dropH
  split
  · rfl
  · exact h
theorem pinH_in {as : List Addr} {h : Heap} {H : Hp} {b : Addr} {o : Obj} (hb : b ∈ as) (e : h.get? b = some o) : pinH as h H b = some (PinO b o) := by
  unfold pinH
  rw [if_pos hb, e]
  rfl
theorem pinH_out {as : List Addr} {h : Heap} {H : Hp} {b : Addr} (hb : b ∉ as) : pinH as h H b = H b := if_neg hb
theorem hok_drop {P : Program} {w : World} {H : Hp} {h : Heap} {as : List Addr} (x : HOk P w H h) (hx : ∀ b ∈ as, ∀ u, H b = some u → ∃ φ, u = .ext φ) : HOk P w (dropH as H) h := fun a o e => by
  have nn : ∀ b u, H b = some u → (∀ φ, u ≠ .ext φ) → b ∉ as := fun b u q n z => by
    obtain ⟨φ, e⟩ := hx b z u q
    exact n φ e
  by_cases ha : a ∈ as
  · rw [dropH_in ha] at e
    cases e
  · rw [dropH_out ha] at e
    refine (x a o e).stay (fun b u _ q => q) (fun b q => ?_) (fun b xs q => ?_)
    · rw [dropH_out (nn b _ q fun φ z => by cases z)]
      exact q
    · rw [dropH_out (nn b _ q fun φ z => by cases z)]
      exact q
theorem hok_pin {P : Program} {w : World} {H : Hp} {h : Heap} {as : List Addr} (x : HOk P w H h) (hn : ∀ b ∈ as, H b = none) (ho : ∀ b ∈ as, ∃ o, h.get? b = some o) : HOk P w (pinH as h H) h := fun a o e => by
  have nn : ∀ b u, H b = some u → b ∉ as := fun b u q z => by
    rw [hn b z] at q
    cases q
  by_cases ha : a ∈ as
  · obtain ⟨oo, eo⟩ := ho a ha
    rw [pinH_in ha eo] at e
    cases e
    exact ⟨eo, ⟨oo, eo⟩, fun h1 h2 z st => st _ z⟩
  · rw [pinH_out ha] at e
    refine (x a o e).stay (fun b u _ q => q) (fun b q => ?_) (fun b xs q => ?_)
    · rw [pinH_out (nn b _ q)]
      exact q
    · rw [pinH_out (nn b _ q)]
      exact q
/-- a lambda's words -/
structure LF where
  qual : Str
  params : Arguments
  body : Expr
  scope : Scope
  cl : List (Str × Addr)
  c : Addr
def LamO (f : Addr) (L : LF) : HO := .ext fun h => ∃ pm ctv : Value, h.get? f = some (PySem.W.kla_obj "<lambda>" L.qual L.params L.body L.scope L.cl pm L.c ctv)
theorem lamO_ne {f : Addr} {L : LF} (ps : Array Value) : LamO f L ≠ .tbl ps := fun z => by
  unfold LamO at z
  cases z
abbrev LF.nf (L : LF) : NdefX.NF := ⟨"<lambda>", L.qual, L.params, [], L.scope, L.cl, L.c⟩
/-- at f stands a function that gives op a b for any a, b below N, and writes nothing -/
def LamP (P : Program) (w : World) (K : PySem.W.Frag) (mg : Str → Option Value) (base : Heap) (k : Nat) (f : Addr) (N : Nat) (op : Nat → Nat → Nat) (H : Hp) : Prop :=
  ∃ (pn : List (Addr × HO)) (J : Hp → Prop), (∀ H H', ExtE H H' → J H → J H') ∧ J H ∧ (∀ p ∈ pn, H p.1 = some p.2) ∧ (∀ (s : Shared) (H' : Hp), HOk P w H' s.heap → (∀ p ∈ pn, H' p.1 = some p.2) → PySem.W.FnAt f s.heap) ∧
  ∀ (A : Around) (outer : List Env) (s : Shared) (H' : Hp) (us : List Value) (Q : VK) (a b : Nat), Room k A → Env0 P w K mg base A outer s H' → (∀ p ∈ pn, H' p.1 = some p.2) → J H' → a < N → b < N → Vals [.int (a : Int), .int (b : Int)] us → (∀ H'', Same H' H'' → Q (.int (op a b : Nat)) H'') →
    codeAny (model P w) A (.call (.ref f) ⟨us, []⟩) (CR CX0 outer P w H' s Q E0) s
theorem LamP.same {P : Program} {w : World} {K : PySem.W.Frag} {mg : Str → Option Value} {base : Heap} {k : Nat} {f : Addr} {N : Nat} {op : Nat → Nat → Nat} {H H' : Hp} (h : LamP P w K mg base k f N op H) (s : Same H H') : LamP P w K mg base k f N op H' := by
  obtain ⟨pn, J, h1, h2, h3, h4, h5⟩ := h
  exact ⟨pn, J, h1, h1 _ _ (ExtE.same s) h2, fun p hp => s _ _ (h3 p hp), h4, h5⟩
/-- x(a, b), x a name that holds such a function -/
def tLamC (P : Program) (w : World) (K : PySem.W.Frag) (mg : Str → Option Value) (base : Heap) (k i : Nat) (t : L2.TA) : TE := fun σ H Q => ∃ (f : Addr) (N : Nat) (op : Nat → Nat → Nat), σ[i]? = some (some (.ref f)) ∧ LamP P w K mg base k f N op H ∧
  t σ H fun vs H1 => ∃ a b : Nat, vs = [.int (a : Int), .int (b : Int)] ∧ a < N ∧ b < N ∧ LamP P w K mg base k f N op H1 ∧ ∀ H2, Same H1 H2 → Q (.int (op a b : Nat)) H2
theorem pe_lamC {X : Cx} {k j i : Nat} {x : Str} {e : Expr} {es : List Expr} {t : L2.TA} {p pos : Pos} (hr : Room j X.A) (hk : k ≤ j) (hN : X.N[i]? = some x) (hv : Vis X.env.scope x) (ha : PA X (e :: es) t)
    (hd : (x == ("__debug__" : Str)) = false := by decide) (hcd : (x == ("__classdict__" : Str)) = false := by decide)
    (he : starEach (e :: es) X.env = (false, eval e X.env) :: starEach es X.env := by rfl) (hpl : (backTo pos (starEach es X.env)).any (·.1) = false := by rfl) :
    PE X (.Call (.Name x p) (e :: es) [] pos) (tLamC X.prog X.w X.K X.mg X.base k i t) := by
  refine ⟨fun pins s σ H Q I h => ?_⟩
  obtain ⟨f, N, op, hs, hf, ht⟩ := h
  refine wpAny_Call_Name_kw (thn ((pe_var (pos := p) hN hv hd hcd).run pins s σ H (fun v H1 => v = .ref f ∧ H1 = H) I ⟨.ref f, hs, rfl, rfl⟩) fun u s1 ⟨v, H1, I1, r1, q1⟩ => ?_)
  obtain ⟨ev, eH⟩ := q1
  subst ev
  rw [eH] at I1
  obtain rfl : u = Value.ref f := r1
  have at1 : PySem.W.FnAt f s1.heap := by
    obtain ⟨pn, J, _, _, h3, h4, _⟩ := hf
    exact h4 s1 H I1.hok h3
  refine PySem.W.callWith_F (first := []) at1 (thn (ha.run pos pins s1 σ H _ I1 ht) fun us s2 ⟨vs, H2, I2, r, a, b, ev, la, lb, hL, q⟩ => ?_) he hpl
  subst ev
  obtain ⟨pn, J, h1, h2, h3, h4, h5⟩ := hL
  refine ⟨h4 s2 H2 I2.hok h3, ?_⟩
  show wpAny _ _ (call (.ref f) us) _ _ _
  refine wpAny_call (codeAny_mono (h5 X.A X.stack s2 H2 us Q a b (hr.mono hk) I2.env0 h3 h2 la lb r q) fun r s' hq => ?_)
  cases r with
  | error e => exact (show False from hq).elim
  | ok fl =>
    cases fl with
    | ret u => exact I2.after hq
    | next => exact False.elim hq
    | brk => exact False.elim hq
    | cont => exact False.elim hq
/-! ### the lambda is made -/
def tLamV (T : List (Addr × Str)) (mk : Addr → LF) : TE := fun σ H Q => LamX.Tabs T H ∧ ∀ (f c' : Addr) (H1 : Hp), LamX.ExtN H H1 → LamX.Tabs T H1 → H f = none → H1 f = some (LamO f (mk c')) → H1 c' = some (LamX.CodeO c' (mk c').qual) → Q (.ref f) H1
theorem pe_lamV {X : Cx} {T : List (Addr × Str)} {c P : Addr} {params : Arguments} {body : Expr} {scope : Scope} {pos : Pos} (TB : LamX.TabB X.base X.mg c P) (hcode : X.env.code = .ref c) (hm : (P, X.env.qual ++ "<lambda>") ∈ T) (hu : ∀ p ∈ T, p.1 = P → p.2 = X.env.qual ++ "<lambda>") (hdef : defaultsOf params X.env = ([], []))
    (hfree : ∀ y ∈ scope.names, y.2 = .free → X.env.scope.names.lookup y.1 = some .cell ∨ X.env.scope.names.lookup y.1 = some .free) :
    PE X (.Lambda params body scope pos) (tLamV T fun c' => ⟨X.env.qual ++ "<lambda>", params, body, scope, cloFrom X.env.cells scope.names [], c'⟩) := by
  refine ⟨fun pins s σ H Q I ⟨hT, h⟩ => PySem.W.kla_eval hdef ?_⟩
  have hfr : ∀ y ∈ scope.names, y.2 = .free → ∃ c, X.env.cells.lookup y.1 = some c := fun y hy e => (hfree y hy e).elim (fun z => I.ok.has _ (.inl z)) fun z => I.ok.has _ (.inr z)
  obtain ⟨ps, tP, tOk, tAll⟩ := hT _ hm
  have atP : s.heap.get? P = some { cls := .none, data := .fields ps } := I.hok P _ tP
  have laidF : ∀ {H1 : Hp} {s1 : Shared} {pm ctv : Value} {c' : Addr} {tk : Nat}, Inv X pins σ H1 s1 → Inv X pins σ (upd H1 s1.heap.objs.size (LamO s1.heap.objs.size ⟨X.env.qual ++ "<lambda>", params, body, scope, cloFrom X.env.cells scope.names [], c'⟩)) { s1 with heap := s1.heap.push (PySem.W.kla_obj "<lambda>" (X.env.qual ++ "<lambda>") params body scope (cloFrom X.env.cells scope.names []) pm c' ctv), toks := tk } := fun {H1 s1 pm ctv c' tk} J =>
    J.laid (fun b u e => Heap.get?_push_of_some _ e) (Nat.le_refl _) ⟨⟨pm, ctv, Heap.get?_push_size _ rfl⟩, ⟨_, Heap.get?_push_size _ rfl⟩, fun h1 h2 ⟨pm, ctv, z⟩ st => ⟨pm, ctv, st _ z⟩⟩
  rcases hc : codeAmong pos ps.toList with _ | cv
  · refine PySem.W.kla_makeFunction (mg := X.mg) (c := c) (P := P) (ps := ps) (closure_ok hfr) I.ok.glob (I.mod.glob.keeps I.bk) hcode (TB.code.keeps I.bk) atP tOk hc TB.gP (TB.bm.keeps I.bk) fun c' ctv h' tk hx hge hlt hrec htb => ?_
    obtain ⟨c2, oc, vs, t, e2, hoc, hd, hv⟩ := hrec
    cases e2
    have nC : H c' = none := I.hok.fresh hge
    have nF : H h'.objs.size = none := I.hok.fresh (Nat.le_trans hge (Nat.le_of_lt hlt))
    have I1 := LamX.inv_table (q := X.env.qual ++ "<lambda>") (t' := tk) (more := #[rawInt pos.line, rawInt pos.col, .ref c']) (h' := h') I tP (fun b o hb e => hx b o hb e) htb hge ⟨oc, vs, t, hoc, hd, hv⟩
    have nF1 := I1.hok.fresh (Nat.le_refl _)
    have I2 := laidF (pm := (X.mg "__name__").getD .none) (ctv := ctv) (c' := c') (tk := tk) I1
    have ne1 : c' ≠ h'.objs.size := Nat.ne_of_lt hlt
    have neP : P ≠ c' := ne_of_none tP nC
    have nePF : P ≠ h'.objs.size := ne_of_none tP nF
    have hE : LamX.ExtN H (upd (upd (upd H P (.tbl (ps ++ #[rawInt pos.line, rawInt pos.col, .ref c']))) c' (LamX.CodeO c' (X.env.qual ++ "<lambda>"))) h'.objs.size (LamO h'.objs.size ⟨X.env.qual ++ "<lambda>", params, body, scope, cloFrom X.env.cells scope.names [], c'⟩)) := fun b o e n => by
      have nb : b ≠ P := fun z => n ps (Option.some.inj (e.symm.trans (by rw [z]; exact tP)))
      rw [upd_ne (ne_of_none e nF), upd_ne (ne_of_none e nC), upd_ne nb]
      exact e
    have eL : (ps ++ #[rawInt pos.line, rawInt pos.col, .ref c']).toList = ps.toList ++ [rawInt pos.line, rawInt pos.col, .ref c'] := by simp
    refine h h'.objs.size c' _ hE (fun p hp => ?_) nF upd_same (by rw [upd_ne ne1, upd_same]) |> fun q => ⟨.ref h'.objs.size, _, I2, rfl, q⟩
    by_cases hb : p.1 = P
    · refine ⟨_, by rw [hb, upd_ne nePF, upd_ne neP, upd_same], by rw [eL]; exact PySem.TriplesOk_snoc _ _ _ _ tOk, fun p' cv hcv => ?_⟩
      rw [eL] at hcv
      rw [hu p hp hb]
      rcases LamX.among_app _ tOk hcv with z | z
      · obtain ⟨c0, e1, e2⟩ := tAll p' cv z
        exact ⟨c0, e1, hE _ _ e2 LamX.codeO_ne⟩
      · exact ⟨c', z, by rw [upd_ne ne1, upd_same]⟩
    · obtain ⟨ps', a1, a2, a3⟩ := hT p hp
      refine ⟨ps', by rw [upd_ne (ne_of_none a1 nF), upd_ne (ne_of_none a1 nC), upd_ne hb]; exact a1, a2, fun p' cv hcv => ?_⟩
      obtain ⟨c0, e1, e2⟩ := a3 p' cv hcv
      exact ⟨c0, e1, hE _ _ e2 LamX.codeO_ne⟩
  · obtain ⟨c', e, hco⟩ := tAll pos cv hc
    subst e
    refine PySem.W.kla_makeFunctionHit (mg := X.mg) (c := c) (P := P) (ps := ps) (closure_ok hfr) I.ok.glob (I.mod.glob.keeps I.bk) hcode (TB.code.keeps I.bk) atP tOk hc (TB.bm.keeps I.bk) fun ctv h' tk hx hsz => ?_
    have I1 : Inv X pins σ H { s with heap := h', toks := tk } := I.kept hx
    have nF : H h'.objs.size = none := I1.hok.fresh (Nat.le_refl _)
    have I2 := laidF (pm := (X.mg "__name__").getD .none) (ctv := ctv) (c' := c') (tk := tk) I1
    have sm : Same H (upd H h'.objs.size (LamO h'.objs.size ⟨X.env.qual ++ "<lambda>", params, body, scope, cloFrom X.env.cells scope.names [], c'⟩)) := Same.new nF _
    exact ⟨.ref h'.objs.size, _, I2, rfl, h h'.objs.size c' _ (LamX.ExtN.of sm) (hT.ext sm) nF upd_same (sm _ _ hco)⟩
/-- the cells that were captured -/
def capA (cl : List (Str × Addr)) : List Addr := (cl.map (·.1)).filterMap fun y => cl.lookup y
theorem capA_of {cl : List (Str × Addr)} {y : Str} {c : Addr} (e : cl.lookup y = some c) : c ∈ capA cl := List.mem_filterMap.mpr ⟨y, List.mem_map.mpr ⟨(y, c), PySem.mem_of_lookup e, rfl⟩, e⟩
theorem capA_in {cl : List (Str × Addr)} {c : Addr} (h : c ∈ capA cl) : ∃ y, cl.lookup y = some c := by
  obtain ⟨y, _, e⟩ := List.mem_filterMap.mp h
  exact ⟨y, e⟩
/-! ### the def called with it: the cells that it captured stand pinned meanwhile -/
def tCallLam (P : Program) (w : World) (K : PySem.W.Frag) (mg : Str → Option Value) (base : Heap) (k : Nat) (mk : Addr → LF) (sp : Sp) (Nl : List Str) (js : List Nat) (t : L2.TA) (tb : TE) : TE := fun σ H Q => t σ H fun vs H1 => ∃ (f c' : Addr), H1 f = some (LamO f (mk c')) ∧ H1 c' = some (LamX.CodeO c' (mk c').qual) ∧
  ∃ (N : Nat) (op : Nat → Nat → Nat) (J : Hp → Prop), (∀ H H', ExtE H H' → J H → J H') ∧ J H1 ∧
    (∀ (a b : Nat) (H' : Hp), a < N → b < N → J H' → tb (NdefX.startF Nl [.int (a : Int), .int (b : Int)] (js.map (NdefX.slotAt σ))) H' (fun u H'' => u = .int (op a b : Nat) ∧ Same H' H'')) ∧
    ∀ H2, Same H1 H2 → LamP P w K mg base k f N op H2 → sp vs H2 (fun u H3 => Same H2 H3 ∧ ∀ H4, Same H1 H4 → ExtE H3 H4 → Q u H4) E0
theorem lam_run {P : Program} {w : World} {K : PySem.W.Frag} {mg : Str → Option Value} {base : Heap} {Nl ps fr : List Str} {L : LF} {f : Addr} {k : Nat} {ws : List (Option V)} {s1 : Shared} {H1 : Hp} {tb : TE} {N : Nat} {op : Nat → Nat → Nat} {J : Hp → Prop}
    (S : NdefX.NScope Nl ps fr L.scope) (hps : ps.length = 2) (hbind : ∀ (pm ctv : Value) (us : List Value), us.length = ps.length → bindArgs (PySem.W.kla_fn "<lambda>" L.qual L.params L.body L.scope L.cl pm (.ref L.c) ctv) ⟨us, []⟩ = pure (ps.zip us))
    (C1 : NdefX.CellsAt L.cl fr ws s1.heap H1) (hf : H1 f = some (LamO f L)) (hc : H1 L.c = some (LamX.CodeO L.c L.qual)) (st : ∀ H H', ExtE H H' → J H → J H') (hJ : J H1)
    (hb : ∀ (a b : Nat) (H' : Hp), a < N → b < N → J H' → tb (NdefX.startF Nl [.int (a : Int), .int (b : Int)] ws) H' (fun u H'' => u = .int (op a b : Nat) ∧ Same H' H''))
    (hbody : ∀ (A : Around) (outer : List Env) (s : Shared) (H : Hp), Room k (A.deeper (NdefX.envF L.nf f s.heap.objs.size)) → PE (NdefX.ncx CX0 P w K mg base Nl L.nf f A outer s H E0) L.body tb) :
    LamP P w K mg base (k + 1) f N op (pinH (capA L.cl) s1.heap H1) := by
  have hin : ∀ b ∈ capA L.cl, H1 b = none ∧ ∃ o, s1.heap.get? b = some o := fun b hb => by
    obtain ⟨y, e⟩ := capA_in hb
    obtain ⟨h1, v, o, h2, _⟩ := C1.all y b e
    exact ⟨h1, o, h2⟩
  have nin : ∀ b o, H1 b = some o → b ∉ capA L.cl := fun b o e z => by
    rw [(hin b z).1] at e
    cases e
  refine ⟨(f, LamO f L) :: (L.c, LamX.CodeO L.c L.qual) :: (capA L.cl).filterMap (fun b => (s1.heap.get? b).map fun o => (b, PinO b o)), J, st, st _ _ (ExtE.same fun b o e => ?_) hJ, fun p hp => ?_, fun s H' hok hp => ?_, ?_⟩
  · rw [pinH_out (nin b o e)]
    exact e
  · rcases List.mem_cons.mp hp with rfl | hp
    · show pinH _ _ _ f = _
      rw [pinH_out (nin _ _ hf)]
      exact hf
    rcases List.mem_cons.mp hp with rfl | hp
    · show pinH _ _ _ L.c = _
      rw [pinH_out (nin _ _ hc)]
      exact hc
    obtain ⟨b, hb, e⟩ := List.mem_filterMap.mp hp
    obtain ⟨o, ho⟩ := (hin b hb).2
    rw [ho] at e
    cases e
    exact pinH_in hb ho
  · obtain ⟨⟨pm, ctv, e⟩, _⟩ := hok f _ (hp _ List.mem_cons_self)
    exact ⟨_, _, _, _, e⟩
  intro A outer s H' us Q a b hr e0 hp hJ' la lb r q
  have pf : H' f = some (LamO f L) := hp _ List.mem_cons_self
  have pc : H' L.c = some (LamX.CodeO L.c L.qual) := hp _ (List.mem_cons_of_mem _ List.mem_cons_self)
  have pcell : ∀ b ∈ capA L.cl, ∃ o, s1.heap.get? b = some o ∧ H' b = some (PinO b o) ∧ s.heap.get? b = some o := fun b hb => by
    obtain ⟨o, ho⟩ := (hin b hb).2
    have e : H' b = some (PinO b o) := hp (b, PinO b o) (List.mem_cons_of_mem _ (List.mem_cons_of_mem _ (List.mem_filterMap.mpr ⟨b, hb, by rw [ho]; rfl⟩)))
    obtain ⟨z, _⟩ := e0.hok b _ e
    exact ⟨o, ho, e, z⟩
  have e0' : Env0 P w K mg base A outer s (dropH (capA L.cl) H') := ⟨e0.frames, e0.mod, fun b o e => ⟨(e0.bs b o e).1, dropH_none (e0.bs b o e).2⟩, e0.bsz, e0.funs, fun b hb => dropH_none (e0.frf b hb), hok_drop e0.hok fun b hb u eu => by
    obtain ⟨o, _, e, _⟩ := pcell b hb
    rw [e] at eu
    cases eu
    exact ⟨_, rfl⟩, e0.bare⟩
  have C0 : NdefX.CellsAt L.cl fr ws s.heap (dropH (capA L.cl) H') := by
    have keep : ∀ y c, L.cl.lookup y = some c → ∀ v, s1.heap.IsCell c v → s.heap.IsCell c v := fun y c e v ⟨o, ho, hd⟩ => by
      obtain ⟨o', h1, _, h2⟩ := pcell c (capA_of e)
      rw [ho] at h1
      cases h1
      exact ⟨o, h2, hd⟩
    refine ⟨C1.len, fun y c e => ⟨dropH_in (capA_of e), ?_⟩, C1.inj, fun i y e => ?_⟩
    · obtain ⟨v, z⟩ := (C1.all y c e).2
      exact ⟨v, keep y c e v z⟩
    · obtain ⟨c, hc, hv⟩ := C1.has i y e
      refine ⟨c, hc, fun v ev => ?_⟩
      obtain ⟨u, ru, z⟩ := hv v ev
      exact ⟨u, ru, keep y c hc _ z⟩
  obtain ⟨⟨pm, ctv, ho⟩, _⟩ := e0.hok f _ pf
  have lim : s.heap.NoLimit := e0.mod.nolimit.keeps fun b o e => (e0.bs b o e).1
  have hl : ([V.int (a : Int), V.int (b : Int)] : List V).length = ps.length := hps.symm
  refine PySem.W.kla_callFunE hr.depth ho rfl S.co S.gen rfl (NdefX.codeO_at e0.hok pc) ?_
  rw [hbind pm ctv us (by rw [← r.length]; exact hl)]
  refine wpAny_pure (wpAny_newFunctionEnv S.nocell (fun ⟨n, _⟩ hy => S.par n (List.of_mem_zip hy).1) (fun h₁ hns hsb => ⟨lim.fresh _ hsb, ?_⟩) S.kind)
  show codeAny _ _ (.expr L.body (NdefX.envF L.nf f s.heap.objs.size)) _ _
  have kp : ∀ b o, s.heap.get? b = some o → h₁.get? b = some o := fun b o e => hsb.extBut b o (Nat.ne_of_lt (Heap.lt_size e)) (Heap.get?_push_of_some _ e)
  have I := NdefX.inv_startN (CX := CX0) (E := E0) (F := L.nf) (f := f) (tk := s.toks + (ps.zip us).length) S hr.hd e0' hl r C0 hns kp
  have hxE : ExtE H' (dropH (capA L.cl) H') := fun b o e n => by
    rw [dropH_out fun z => ?_]
    · exact e
    · obtain ⟨o', _, e', _⟩ := pcell b z
      rw [e'] at e
      cases e
      exact n _ rfl
  refine PySem.W.kla_codeExpr (wpAny_mono ((hbody A outer s _ (hr.deeper _)).run [] _ _ _ _ I (hb a b _ la lb (st _ _ hxE hJ'))) (fun v s3 ⟨w3, H3, J3, rv, ew, sm⟩ => ?_) fun e s3 z => z)
  have un : Un (frs outer) [] (dropH (capA L.cl) H') H3 s.heap s3.heap := J3.base
  subst ew
  have gone : ∀ b ∈ capA L.cl, H3 b = none := fun b hb => by
    obtain ⟨o, _, _, z⟩ := pcell b hb
    exact un.free b o z (dropH_in hb) (by simp)
  have back : ∀ b, b ∉ capA L.cl → mixH (capA L.cl) H' H3 b = H3 b := fun b hb => if_neg hb
  have inn : ∀ b, b ∈ capA L.cl → mixH (capA L.cl) H' H3 b = H' b := fun b hb => if_pos hb
  refine ⟨_, mixH (capA L.cl) H' H3, J3.os, J3.bare, ⟨fun b o e n nf nx => ?_, fun b o e n nf nx => ?_, fun b o e n nx => ?_, un.there, fun b xs e => ?_, fun b o u e => ?_, fun b qs e => ?_⟩, fun b u e => ?_, rv, q _ fun b o e => ?_⟩
  · exact un.keep b o e (dropH_none n) nf nx
  · exact un.slot b o e (dropH_none n) nf nx
  · by_cases hb : b ∈ capA L.cl
    · rw [inn b hb]
      exact n
    · rw [back b hb]
      exact un.free b o e (dropH_none n) nx
  · have hb : b ∉ capA L.cl := fun z => by
      obtain ⟨o', _, e', _⟩ := pcell b z
      rw [e'] at e
      cases e
    rw [back b hb]
    exact un.tups b xs (by rw [dropH_out hb]; exact e)
  · have hb : b ∉ capA L.cl := fun z => by
      obtain ⟨o', _, e', _⟩ := pcell b z
      rw [e'] at e
      cases e
    rw [back b hb]
    exact un.frzs b o u (by rw [dropH_out hb]; exact e)
  · have hb : b ∉ capA L.cl := fun z => by
      obtain ⟨o', _, e', _⟩ := pcell b z
      rw [e'] at e
      cases e
    rw [back b hb]
    exact un.tbls b qs (by rw [dropH_out hb]; exact e)
  · by_cases hb : b ∈ capA L.cl
    · rw [inn b hb] at e
      obtain ⟨o, _, e', z⟩ := pcell b hb
      rw [e'] at e
      cases e
      have nfr : b ∉ frs outer := fun y => by
        rw [e0.frf b y] at e'
        cases e'
      have z3 := un.keep b o z (dropH_in hb) nfr (by simp)
      exact ⟨z3, ⟨o, z3⟩, fun h1 h2 y st => st _ y⟩
    · rw [back b hb] at e
      refine (J3.hok b u e).stay (fun c v _ y => y) (fun c y => ?_) (fun c xs y => ?_)
      · rw [back c fun z => by rw [gone c z] at y; cases y]
        exact y
      · rw [back c fun z => by rw [gone c z] at y; cases y]
        exact y
  · by_cases hb : b ∈ capA L.cl
    · rw [inn b hb]
      exact e
    · rw [back b hb]
      exact sm b o (by rw [dropH_out hb]; exact e)
theorem pe_callLam {X : Cx} {g : Addr} {kg kl : Nat} {gd : FuncData} {psg psl fr Nl : List Str} {js : List Nat} {sp : Sp} {x : Str} {e1 : Expr} {t : L2.TA} {tb : TE} {params : Arguments} {body : Expr} {scope : Scope} {p pos lp : Pos}
    (G : FnOk X.prog X.w X.K X.mg X.base CX0 kg g gd psg sp) (hr : Room kg X.A) (hg : Gl X x) (hm : X.mg x = some (.ref g)) (hk : PySem.W.keepIn X.K (.ref g) = true) (hb : Binds X.K gd psg []) (S : NdefX.NScope Nl psl fr scope) (hps : psl.length = 2) (hdf : NdefX.ndefB X.env.scope scope fr = true) (hjs : js.map (fun j => X.N[j]?) = fr.map some) (hfn : ∀ y, X.fn y = true)
    (hbind : ∀ (q : Str) (cl : List (Str × Addr)) (pm cv ctv : Value) (us : List Value), us.length = psl.length → bindArgs (PySem.W.kla_fn "<lambda>" q params body scope cl pm cv ctv) ⟨us, []⟩ = pure (psl.zip us))
    (hbody : ∀ (A : Around) (outer : List Env) (s : Shared) (H : Hp) (f : Addr) (cl : List (Str × Addr)) (c' : Addr), Room kl (A.deeper (NdefX.envF (LF.nf ⟨X.env.qual ++ "<lambda>", params, body, scope, cl, c'⟩) f s.heap.objs.size)) → PE (NdefX.ncx CX0 X.prog X.w X.K X.mg X.base Nl (LF.nf ⟨X.env.qual ++ "<lambda>", params, body, scope, cl, c'⟩) f A outer s H E0) body tb) (ha : PA X [e1, .Lambda params body scope lp] t)
    (hdb : (x == ("__debug__" : Str)) = false := by decide) (he : starEach [e1, .Lambda params body scope lp] X.env = (false, eval e1 X.env) :: starEach [.Lambda params body scope lp] X.env := by rfl) (hpl : (backTo pos (starEach [.Lambda params body scope lp] X.env)).any (·.1) = false := by rfl) :
    PE X (.Call (.Name x p) [e1, .Lambda params body scope lp] [] pos) (tCallLam X.prog X.w X.K X.mg X.base (kl + 1) (fun c' => ⟨X.env.qual ++ "<lambda>", params, body, scope, cloFrom X.env.cells scope.names [], c'⟩) sp Nl js t tb) := by
  refine ⟨fun pins s σ H Q I h => wpAny_Call_Name_kw (ld_glob I hg hm ?_ hdb)⟩
  refine PySem.W.callWith_K (h₀ := X.base) I.ok.mod.kin hk (thn (ha.run pos pins s σ H _ I h) fun us s1 ⟨vs, H1, I1, r, f, c', hf, hc, N, op, J, st, hJ, hB, q⟩ => ⟨I1.kIn, ?_⟩) he hpl
  have C1 := NdefX.cells_of (js := js) I1 (NdefX.Caps.made I1.ok (NdefX.ndef_free hdf) (NdefX.ndef_fr hdf) hjs)
  have sub : ∀ c ∈ capA (cloFrom X.env.cells scope.names []), ∃ y, X.env.cells.lookup y = some c := fun c h => by
    obtain ⟨y, e⟩ := capA_in h
    refine ⟨y, NdefX.clo_cm (fun y hy e => (NdefX.ndef_free hdf y hy e).elim (fun z => I1.ok.has _ (.inl z)) fun z => I1.ok.has _ (.inr z)) e⟩
  have hnone : ∀ b ∈ capA (cloFrom X.env.cells scope.names []), H1 b = none ∧ ∃ o, s1.heap.get? b = some o := fun b hb => by
    obtain ⟨y, e⟩ := sub b hb
    obtain ⟨v, o, ho, _⟩ := I1.cell y b e
    exact ⟨I1.freeC y b e, o, ho⟩
  have big : ∀ b ∈ capA (cloFrom X.env.cells scope.names []), X.s_0.heap.objs.size ≤ b := fun b hb => by
    obtain ⟨y, e⟩ := sub b hb
    exact I1.ok.cab y b (hfn y) e
  have nfr : ∀ b ∈ capA (cloFrom X.env.cells scope.names []), b ∉ frs X.stack := fun b hb z => by
    obtain ⟨y, e⟩ := sub b hb
    rcases List.mem_cons.mp (I1.stkSub b z) with e' | e'
    · exact I1.cne y b e e'
    · obtain ⟨_, o, ho, _⟩ := I1.ok.funs.mem e'
      exact absurd (Nat.lt_of_lt_of_le (Heap.lt_size ho) (big b hb)) (Nat.lt_irrefl _)
  have out : ∀ b, H1 b = none → b ∉ capA (cloFrom X.env.cells scope.names []) → pinH (capA (cloFrom X.env.cells scope.names [])) s1.heap H1 b = none := fun b e n => by rw [pinH_out n]; exact e
  have sm : Same H1 (pinH (capA (cloFrom X.env.cells scope.names [])) s1.heap H1) := fun b o e => by
    rw [pinH_out fun z => by rw [(hnone b z).1] at e; cases e]
    exact e
  have eb := I1.env0
  have e0 : Env0 X.prog X.w X.K X.mg X.base X.A X.stack s1 (pinH (capA (cloFrom X.env.cells scope.names [])) s1.heap H1) := ⟨eb.frames, eb.mod, fun b o e => ⟨(eb.bs b o e).1, out b (eb.bs b o e).2 fun z => absurd (Nat.lt_of_lt_of_le (Heap.lt_size e) (Nat.le_trans I1.ok.bsz (big b z))) (Nat.lt_irrefl _)⟩, eb.bsz, eb.funs,
    fun b hb => out b (eb.frf b hb) fun z => nfr b z hb, hok_pin eb.hok (fun b hb => (hnone b hb).1) (fun b hb => (hnone b hb).2), eb.bare⟩
  have hL := lam_run (K := X.K) (mg := X.mg) (base := X.base) (w := X.w) (P := X.prog) (L := ⟨X.env.qual ++ "<lambda>", params, body, scope, cloFrom X.env.cells scope.names [], c'⟩) S hps (fun pm ctv us hu => hbind _ _ _ _ _ us hu) C1 hf hc st hJ hB (fun A outer s H hr2 => hbody A outer s H f _ _ hr2)
  have hsp := q _ sm hL
  have hlen := G.len _ _ _ _ hsp
  show wpAny _ _ (call (.ref g) us) _ _ _
  have hbd := hb s1 us I1.kIn (by rw [List.append_nil, ← r.length]; exact hlen)
  rw [List.append_nil] at hbd
  refine wpAny_call (codeAny_mono (G.run X.A X.stack s1 _ ⟨us, []⟩ us vs _ E0 hr e0 hbd r hsp) fun rs s2 hq => ?_)
  cases rs with
  | error e => exact (show False from hq).elim
  | ok fl =>
    cases fl with
    | next => exact False.elim hq
    | brk => exact False.elim hq
    | cont => exact False.elim hq
    | ret u =>
      obtain ⟨v, H3, os, bare, un, hok, rv, sm3, q4⟩ := hq
      have held : ∀ b ∈ capA (cloFrom X.env.cells scope.names []), ∃ o, s1.heap.get? b = some o ∧ s2.heap.get? b = some o ∧ H3 b = some (PinO b o) := fun b hb => by
        obtain ⟨o, ho⟩ := (hnone b hb).2
        have e := sm3 _ _ (pinH_in (H := H1) hb ho)
        obtain ⟨z, _⟩ := hok b _ e
        exact ⟨o, ho, z, e⟩
      have nin : ∀ b o, H1 b = some o → b ∉ capA (cloFrom X.env.cells scope.names []) := fun b o e z => by
        rw [(hnone b z).1] at e
        cases e
      have smF : Same H1 (dropH (capA (cloFrom X.env.cells scope.names [])) H3) := fun b o e => by
        rw [dropH_out (nin b o e)]
        exact sm3 _ _ (sm _ _ e)
      refine I1.after ⟨v, dropH (capA (cloFrom X.env.cells scope.names [])) H3, os, bare, ⟨fun b o e n nf nx => ?_, fun b o e n nf nx => ?_, fun b o e n nx => ?_, un.there, fun b xs e => smF _ _ e, fun b o u e => smF _ _ e, fun b qs e => ⟨#[], by rw [smF _ _ e]; simp⟩⟩, hok_drop hok fun b hb u eu => ?_, rv, q4 _ smF fun b o e n => ?_⟩
      · by_cases hb : b ∈ capA (cloFrom X.env.cells scope.names [])
        · obtain ⟨o', h1, h2, _⟩ := held b hb
          rw [e] at h1
          cases h1
          exact h2
        · exact un.keep b o e (out b n hb) nf nx
      · by_cases hb : b ∈ capA (cloFrom X.env.cells scope.names [])
        · exact absurd nf (nfr b hb)
        · exact un.slot b o e (out b n hb) nf nx
      · by_cases hb : b ∈ capA (cloFrom X.env.cells scope.names [])
        · exact dropH_in hb
        · rw [dropH_out hb]
          exact un.free b o e (out b n hb) nx
      · obtain ⟨o, _, _, e'⟩ := held b hb
        rw [e'] at eu
        cases eu
        exact ⟨_, rfl⟩
      · rw [dropH_out fun z => ?_]
        · exact e
        · obtain ⟨o', _, _, e'⟩ := held b z
          rw [e'] at e
          cases e
          exact n _ rfl
end OPLP
section ROWS06
open PySem PySem.Spec PyProof.Rows L2
/-! ### rows: lists of ints compared, sorted -/
def rowI (ns : List Int) : PyData := .list (ns.map .int)
variable {X : Cx}
def rLtL (K : PySem.W.Frag) : R2 := fun x y H Q => ∃ ns ms, Dp K H x (rowI ns) ∧ Dp K H y (rowI ms) ∧ Q (.bl (decide (ns < ms))) H
theorem rowI_depth (ns : List Int) : (rowI ns).depth = 1 := by
  show PyData.depthAll (ns.map .int) + 1 = 1
  rw [PySem.W.depth_ints]
theorem rowI_alike (ns ms : List Int) : PySem.W.alike (rowI ns) (rowI ms) = true := PySem.W.alike_ints ns ms
theorem op_ltL (hu : X.A.units + 64 < cLine) : OpR X (compareOp .Lt) (rLtL X.K) := by
  intro pins s σ H x y v u Q I rx ry h
  obtain ⟨ns, ms, hx, hy, q⟩ := h
  obtain ⟨as, r1⟩ := Dp.reads I _ x v hx rx
  obtain ⟨bs, r2⟩ := Dp.reads I _ y u hy ry
  refine PySem.W.lt_data r1 r2 (rowI_alike ns ms) (by intro z; cases z) (by rw [rowI_depth, rowI_depth]; show X.A.units + 1 < cLine; omega) ⟨.bl (decide (ns < ms)), H, I, ?_, q⟩
  show Value.bool (PySem.W.dataLt (rowI ns) (rowI ms)) = Value.bool (decide (ns < ms))
  exact congrArg Value.bool ((PySem.W.dataLt_list (ns.map .int) (ms.map .int)).trans (PySem.W.dataLt_ints ns ms))
def rSortRows (K : PySem.W.Frag) : List V → Hp → VK → Prop := fun xs H Q => ∃ (a : Addr) (vs : List V) (ls : List (List Int)), xs = [.ref a] ∧ SqL K H a vs ∧ DpAll K H vs (ls.map rowI) ∧ ls.Pairwise (fun p q => p ≤ q) ∧ ∀ p, H p = none → Q (.ref p) (upd H p (.lst vs))
theorem each_rows {K : PySem.W.Frag} {H : Hp} {hp : Heap} (hr : ∀ (d : PyData) (v : V) (u : Value), Dp K H v d → RelV v u → ∃ as, Reads hp u d as) : ∀ {vs : List V} {ls : List (List Int)} {us : List Value}, DpAll K H vs (ls.map rowI) → Vals vs us → PySem.W.EachIs (fun u (b : V × List Int) => RelV b.1 u) us (vs.zip ls) ∧ PySem.W.EachIs (fun u (b : V × List Int) => ∃ as, Reads hp u (rowI b.2) as) us (vs.zip ls) ∧ (vs.zip ls).length = vs.length
  | [], [], us, _, r => by
    cases r
    exact ⟨.nil, .nil, rfl⟩
  | v :: vs, l :: ls, us, .cons h1 h2, r => by
    cases r with
    | cons r1 r2 =>
      obtain ⟨e1, e2, e3⟩ := each_rows hr h2 r2
      exact ⟨.cons r1 e1, .cons (hr _ _ _ h1 r1) e2, congrArg (· + 1) e3⟩
theorem each_back : ∀ {vs : List V} {ls : List (List Int)} {out : List Value}, vs.length = ls.length → PySem.W.EachIs (fun u (b : V × List Int) => RelV b.1 u) out (vs.zip ls) → Vals vs out
  | [], [], _, _, .nil => .nil
  | v :: vs, l :: ls, _, hl, .cons r e => .cons r (each_back (Nat.succ.inj hl) e)
theorem dpAll_lenR {K : PySem.W.Frag} {H : Hp} : ∀ {vs : List V} {ls : List (List Int)}, DpAll K H vs (ls.map rowI) → vs.length = ls.length
  | [], [], _ => rfl
  | _ :: vs, _ :: ls, .cons _ h => congrArg (· + 1) (dpAll_lenR h)
theorem pw_zip : ∀ {vs : List V} {ls : List (List Int)}, ls.Pairwise (fun p q => p ≤ q) → (vs.zip ls).Pairwise fun p q => p.2 ≤ q.2
  | [], _, _ => .nil
  | _ :: _, [], _ => .nil
  | v :: vs, l :: ls, h => by
    obtain ⟨h1, h2⟩ := List.pairwise_cons.mp h
    refine List.pairwise_cons.mpr ⟨fun b hb => h1 b.2 (List.of_mem_zip hb).2, pw_zip h2⟩
theorem cr_sortedRows (hu : X.A.units + 64 < cLine) : CallR X (.builtin "sorted") (rSortRows X.K) := by
  intro pins s σ H xs us Q I r h
  obtain ⟨a, vs, ls, rfl, hS, hD, hP, q⟩ := h
  obtain rfl := Vals.ref1 r
  obtain ⟨its, rv, hl, hz⟩ := I.list hS
  obtain ⟨e1, e2, e3⟩ := each_rows (fun d v u h r => Dp.reads I d v u h r) hD rv
  have hlen := dpAll_lenR hD
  have esort : (vs.zip ls).mergeSort (PySem.W.dataLe false fun b : V × List Int => rowI b.2) = vs.zip ls := by
    refine List.mergeSort_of_pairwise ?_
    have e : PySem.W.dataLe false (fun b : V × List Int => rowI b.2) = fun p q : V × List Int => decide (p.2 ≤ q.2) := PySem.W.dataLe_rows fun b : V × List Int => b.2
    rw [e]
    exact (pw_zip hP).imp fun {a b} h => decide_eq_true h
  refine PySem.W.sorted_data (enc := fun b : V × List Int => rowI b.2) hl.isList e1 e2 (PySem.W.AllAlike.of fun b b' => rowI_alike _ _) (PySem.W.Sortable.others fun b => ⟨(by intro z; cases z), (by intro xs z; cases z)⟩) (by rw [e3]; exact hz) (fun b _ => by rw [rowI_depth]; omega) fun out hlo ho => ?_
  rw [esort] at ho
  have hv := each_back hlen ho
  obtain ⟨ep, he'⟩ := PyProof.Rows.sortedAll_at s.heap its out.toArray
  exact ⟨.ref _, upd H (s.heap.objs.size + 1) (.lst vs), I.laid (t' := s.toks) (fun _ _ => PyProof.Rows.sortedAll_old) (Nat.le_succ _) ⟨hz, out, ep, hv, by simpa using he'⟩, rfl, q _ (I.hok.fresh (Nat.le_succ _))⟩
end ROWS06
section SRTK
open PySem PySem.Calls PySem.Spec PyProof.Rows L2
variable {X : Cx} {pins : List (Addr × Obj)} {σ : L2.St} {H : Hp}
/-! ### sorted(.., key=f): f is called for each item, the keys are data -/
theorem fp_mono {H H' : Hp} {b : Addr} (f : FpOk X pins H b) (n : H' b = none) : FpOk X pins H' b := ⟨n, f.2⟩
theorem inv_ch {s : Shared} {h2 : Heap} {b : Addr} {tk : Nat} (I : Inv X pins σ H s) (f : FpOk X pins H b) (k : ∀ c o, c ≠ b → s.heap.get? c = some o → h2.get? c = some o) : Inv X pins σ H { s with heap := h2, toks := tk } := by
  obtain ⟨f0, f1, f2, f3, f4, f5⟩ := f
  exact I.turned k f0 f1 f3 f4 f5
/-- two untracked objects of our own have changed, one of them is tracked from now on -/
theorem inv_two {s : Shared} {a k : Addr} {o : HO} {h2 : Heap} {tk : Nat} (I : Inv X pins σ H s) (fa : FpOk X pins H a) (fk : FpOk X pins H k) (hk : ∀ b u, b ≠ a → b ≠ k → s.heap.get? b = some u → h2.get? b = some u)
    (new : ObjOk X.prog X.w (upd H a o) h2 a o) : Inv X pins σ (upd H a o) { s with heap := h2, toks := tk } := by
  have nn : ∀ b u, H b = some u → b ≠ a ∧ b ≠ k := fun b u e => ⟨ne_of_none e fa.1, ne_of_none e fk.1⟩
  have nc : ∀ b, b ∉ [a, k] → b ≠ a ∧ b ≠ k := fun b h => ⟨fun z => h (by rw [z]; exact List.mem_cons_self), fun z => h (by rw [z]; exact List.mem_cons_of_mem _ List.mem_cons_self)⟩
  have old : ∀ b u, H b = some u → upd H a o b = some u := fun b u e => by rw [upd_ne (nn b u e).1]; exact e
  refine I.step (g' := s.gens) (d' := s.drawn) (ch := [a, k]) (fun b hb => ?_) (fun b u _ _ hc e _ => hk b u (nc b hc).1 (nc b hc).2 e) (fun b u _ _ hc e _ => ⟨u.slots, hk b u (nc b hc).1 (nc b hc).2 e⟩)
    (fun b u hc e n => by rw [upd_ne (nc b hc).1]; exact n) (fun b u hc e => ⟨u, hk b u (nc b hc).1 (nc b hc).2 e⟩) (fun b xs e => old _ _ e) (fun b u v e => old _ _ e) (fun b ps e => ⟨#[], by rw [old _ _ e]; simp⟩) (fun m hm => ?_) (fun b u e => ?_) I.bare
  · rcases List.mem_cons.mp hb with rfl | hb
    · exact ⟨fa.2.2.2.1, fa.2.1, fa.2.2.2.2.1, fa.2.2.2.2.2⟩
    · cases List.mem_singleton.mp hb
      exact ⟨fk.2.2.2.1, fk.2.1, fk.2.2.2.2.1, fk.2.2.2.2.2⟩
  · obtain ⟨u, es, ep, hu, r⟩ := hm
    exact ⟨u, es, ep, hk _ u (Ne.symm fa.2.1) (Ne.symm fk.2.1) hu, r⟩
  · by_cases hb : b = a
    · subst hb
      rw [upd_same] at e
      cases e
      exact new
    · rw [upd_ne hb] at e
      refine (I.hok b u e).stay (fun c v hc q => ?_) (fun c q => old _ _ q) fun c xs q => old _ _ q
      rcases hc with z | z
      · rw [z] at q ⊢
        exact hk b v hb (nn b u e).2 q
      · exact hk c v (nn c _ z).1 (nn c _ z).2 q
theorem ls_key {s : Shared} {A : Around} {a : Addr} {vs : List Value} {n : Nat} {f : Value} {kz : List PyData} {P : PySem.Fin → Shared → Prop} {E : Value → Shared → Prop}
    (I : Inv X pins σ H s) (ho : s.heap.get? a = some (seqObj "list" vs.toArray n)) (fa : FpOk X pins H a) (hlen : kz.length = vs.length) (hZ : vs.length ≤ sizeLine) (hal : PySem.W.AllAlike kz) (hsk : PySem.W.Sortable kz) (hu : ∀ d, d ∈ kz → A.units + d.depth < cLine)
    (turn : ∀ (i : Nat) (v : Value) (k : PyData), vs[i]? = some v → kz[i]? = some k → ∀ (s' : Shared) (H' : Hp), Inv X pins σ H' s' → Same H H' →
      wpAny (model X.prog X.w) A (call f [v]) (fun u s2 => CE X.stack X.prog X.w H' s' (fun w H2 => Same H' H2 ∧ Dp X.K H2 w k) u s2) (fun _ _ => False) s')
    (fin : ∀ (s' : Shared) (H' : Hp) (k : Addr) (h2 : Heap) (tk : Nat) (out : List Value) (c : Nat), Inv X pins σ H' s' → Same H H' → FpOk X pins H' a → FpOk X pins H' k → (∀ b u, b ≠ a → b ≠ k → s'.heap.get? b = some u → h2.get? b = some u) →
      h2.get? a = some (seqObj "list" (List.toArray out) c) → PySem.W.KeyedOut false kz vs out → P (.done (.ret .none)) { s' with heap := h2, toks := tk }) :
    wpAny (model X.prog X.w) A (ksk_tree a f false) P E s := by
  have w1 := get?_update_seq ho fun _ => (#[] : Array Value)
  generalize hg : s.heap.update a (Obj.mapSeq fun _ => (#[] : Array Value)) = g at w1
  have sb : Heap.SameBut a s.heap g := by
    rw [← hg]
    exact Heap.SameBut.update s.heap a _
  obtain ⟨e1, w2⟩ : ∃ z, g.get? a = some (seqObj "list" #[] z) := ⟨_, w1⟩
  unfold ksk_tree
  refine wpAny_bind (listItems_at ho rfl (wpAny_bind (listUpdate_at ho rfl ?_ (by rw [List.size_toArray]; exact hZ) (Nat.zero_le _))))
  rw [hg]
  refine wpAny_bind (seqEpoch_at w2 rfl (wpAny_bind (wpAny_newTuple (wpAny_bind (wpAny_newList (wpAny_holding ?_) (Nat.zero_le _))) (by show vs.length ≤ _; exact hZ))))
  have kg : ∀ b u, b ≠ a → s.heap.get? b = some u → g.get? b = some u := fun b u hb e => (sb.2 b hb).trans e
  have szg : g.objs.size = s.heap.objs.size := by
    rw [← hg]
    exact Heap.size_update _ _ _
  have hT : ∀ (o : Obj) (z : Addr), (g.push o).objs.size = s.heap.objs.size + 1 := fun o _ => by rw [size_push', szg]
  have kS0 := hT { cls := .type "tuple", data := Data.seq vs.toArray.toList.toArray } a
  have getK : ((g.push { cls := .type "tuple", data := Data.seq vs.toArray.toList.toArray }).push (seqObj "list" #[] 0)).get? (s.heap.objs.size + 1) = some (seqObj "list" #[] 0) := by
    rw [← kS0]
    exact Heap.get?_push_size _ rfl
  have kp0 : ∀ b u, b ≠ a → s.heap.get? b = some u → ((g.push { cls := .type "tuple", data := Data.seq vs.toArray.toList.toArray }).push (seqObj "list" #[] 0)).get? b = some u := fun b u hb e =>
    Heap.get?_push_of_some _ (Heap.get?_push_of_some _ (kg b u hb e))
  have getA : ((g.push { cls := .type "tuple", data := Data.seq vs.toArray.toList.toArray }).push (seqObj "list" #[] 0)).get? a = some (seqObj "list" #[] e1) := Heap.get?_push_of_some _ (Heap.get?_push_of_some _ w2)
  show wpAny _ _ (ksk_rest a f false vs.toArray _ (.ref (g.push { cls := .type "tuple", data := Data.seq vs.toArray.toList.toArray }).objs.size)) P E { s with heap := (g.push { cls := .type "tuple", data := Data.seq vs.toArray.toList.toArray }).push (seqObj "list" #[] 0) }
  rw [kS0]
  have I0 : Inv X pins σ H { s with heap := (g.push { cls := .type "tuple", data := Data.seq vs.toArray.toList.toArray }).push (seqObj "list" #[] 0) } := inv_ch (tk := s.toks) I fa kp0
  have f0 : FpOk X pins H (s.heap.objs.size + 1) := I.fpOk (Nat.le_succ _) (I.hok.fresh (Nat.le_succ _))
  have nka : s.heap.objs.size + 1 ≠ a := Nat.ne_of_gt (Nat.lt_succ_of_lt (Heap.lt_size ho))
  generalize s.heap.objs.size + 1 = kS at getK kp0 f0 nka ⊢
  generalize (g.push { cls := .type "tuple", data := Data.seq vs.toArray.toList.toArray }).push (seqObj "list" #[] 0) = g0 at getK getA I0 ⊢
  have frame : ∀ {H' : Hp} {s' s2 : Shared} {Q : VK} {u : Value} {b : Addr} {o : Obj}, Inv X pins σ H' s' → CE X.stack X.prog X.w H' s' Q u s2 → FpOk X pins H' b → s'.heap.get? b = some o → s2.heap.get? b = some o ∧ ∀ H2, (∃ v, Un (frs X.stack) [] H' H2 s'.heap s2.heap ∧ v = ()) → H2 b = none := fun {H' s' s2 Q u b o} J c fb e => by
    obtain ⟨v, H2, _, _, un, _, _, _⟩ := c
    have nfr : b ∉ frs X.stack := fun z => by
      rcases List.mem_cons.mp (J.stkSub b z) with z | z
      · exact fb.2.1 z
      · exact fb.2.2.1 z
    exact ⟨un.keep b o e fb.1 nfr (by simp), fun H3 ⟨_, un', _⟩ => un'.free b o e fb.1 (by simp)⟩
  unfold ksk_rest
  refine wpAny_bind (wpAny_rule ?_)
  rw [List.forIn_toArray]
  refine wpAny_bind (ksk_fold (fun i s' => ∃ (H' : Hp) (kA : Array Value) (e : Nat), Inv X pins σ H' s' ∧ Same H H' ∧ FpOk X pins H' a ∧ FpOk X pins H' kS ∧ s'.heap.get? kS = some (seqObj "list" kA e) ∧ s'.heap.get? a = some (seqObj "list" #[] e1) ∧
      PySem.W.EachIs (fun v k => ∃ w, RelV w v ∧ Dp X.K H' w k) kA.toList (kz.take i)) vs 0 _ ⟨H, #[], 0, I0, Same.refl _, fa, f0, getK, getA, by rw [List.take_zero]; exact .nil⟩ (fun j x s' hx hJ => ?_) fun s' hJ => ?_)
  · rw [Nat.zero_add] at hJ ⊢
    obtain ⟨H', kA, e, J, sm, fa', fk', gk, ga, hk⟩ := hJ
    have hj : j < vs.length := (List.getElem?_eq_some_iff.mp hx).1
    have hkj : kz[j]? = some kz[j] := List.getElem?_eq_getElem (by omega)
    have hsz : kA.size = j := by
      have z := hk.length
      rw [Array.length_toList, List.length_take] at z
      omega
    refine wpAny_bind (wpAny_attempt (wpAny_mono (turn j x _ hx hkj s' H' J sm) (fun v s2 he => ?_) fun _ _ z => z.elim))
    have ga2 := (frame J he fa' ga).1
    have gk2 := (frame J he fk' gk).1
    obtain ⟨wv, H2, os, bare, un, hok, rv, sm2, dk⟩ := he
    have na2 : H2 a = none := un.free a _ ga fa'.1 (by simp)
    have nk2 : H2 kS = none := un.free kS _ gk fk'.1 (by simp)
    obtain ⟨w', H2', J2, rv', q2⟩ := J.after (Q := fun w H3 => w = wv ∧ H3 = H2) ⟨wv, H2, os, bare, un, hok, rv, rfl, rfl⟩
    obtain ⟨ew, eH⟩ := q2
    subst ew eH
    have w3 := get?_update_seq gk2 fun l => l.push v
    have s3 := Heap.SameBut.update s2.heap kS (Obj.mapSeq fun l => l.push v)
    refine wpAny_bind (listUpdate_at gk2 rfl ?_ (by rw [hsz]; omega) (by rw [Array.size_push, hsz]; omega))
    refine wpAny_pure ⟨rfl, H2', kA.push v, _, inv_ch (tk := s2.toks) J2 (fp_mono fk' nk2) fun c o hc z => (s3.2 c hc).trans z, sm.trans sm2, fp_mono fa' na2, fp_mono fk' nk2, w3, (s3.2 a (Ne.symm nka)).trans ga2, ?_⟩
    have ek : kz.take (j + 1) = kz.take j ++ [kz[j]] := by rw [List.take_add_one, hkj]; simp
    rw [ek, show (kA.push v).toList = kA.toList ++ [v] by simp]
    exact PySem.W.each_snoc ⟨w', rv', dk⟩ (hk.mono fun v k ⟨w, r, d⟩ => ⟨w, r, dp_same sm2 _ d⟩)
  · obtain ⟨H', kA, e, J, sm, fa', fk', gk, ga, hk⟩ := hJ
    rw [Nat.zero_add, List.take_of_length_le (by omega)] at hk
    have hsz : kA.size = vs.length := by
      have z := hk.length
      rw [Array.length_toList] at z
      omega
    refine wpAny_bind (listItems_at gk rfl ?_)
    have hr : PySem.W.EachIs (fun v k => ∃ as, Reads s'.heap v k as) kA.toList kz := hk.mono fun v k ⟨w, r, d⟩ => Dp.reads J k w v d r
    obtain ⟨g3, r1, r2⟩ := restrict s'.heap fun b => decide (b ≠ kS)
    have g3k : ∀ b u, b ≠ kS → s'.heap.get? b = some u → g3.get? b = some u := fun b u hb z => by
      rw [r1 b (decide_eq_true hb)]
      exact z
    have g3n : g3.get? kS = none := r2 kS (decide_eq_false fun z => z rfl)
    have g3b : ∀ b u, g3.get? b = some u → s'.heap.get? b = some u := fun b u z => by
      have hb : b ≠ kS := fun y => by
        rw [y, g3n] at z
        cases z
      rw [r1 b (decide_eq_true hb)] at z
      exact z
    refine PySem.W.keyH_end (κ := PySem.W.dataKind s'.heap kz) (h₁ := g3) (b := false) (fun b u _ z => g3b b u z) g3n gk ga nka (PySem.W.SortsAt.data (s := s') hr hal hsk hu) hsz hZ fun h3 tk c k3 n3 => ?_
    exact fin s' H' kS h3 tk _ c J sm fa' fk' (fun b u h1 h2 z => k3 b u h1 (g3k b u h2 z)) n3 ⟨s'.heap, kA.toList, hal, rfl, hr⟩
theorem vals_at {xs : List V} {us : List Value} (r : Vals xs us) {i : Nat} {u : Value} (e : us[i]? = some u) : ∃ x, xs[i]? = some x ∧ RelV x u := by
  have hi : i < xs.length := by
    have := (List.getElem?_eq_some_iff.mp e).1
    have := r.length
    omega
  obtain ⟨v, h1, h2⟩ := r.get (List.getElem?_eq_getElem hi)
  rw [e] at h1
  cases h1
  exact ⟨_, List.getElem?_eq_getElem hi, h2⟩
def KeyT (X : Cx) (pins : List (Addr × Obj)) (σ : L2.St) (H : Hp) (f : Value) (x : V) (row : List Int) : Prop := ∀ (s' : Shared) (H' : Hp) (u : Value), Inv X pins σ H' s' → Same H H' → RelV x u →
  wpAny (model X.prog X.w) X.A.in1.in1 (call f [u]) (fun z s2 => CE X.stack X.prog X.w H' s' (fun w H2 => Same H' H2 ∧ Dp X.K H2 w (rowI row)) z s2) (fun _ _ => False) s'
/-- what is sorted: a list, or the keys of a dict with numbers -/
def Srcs (K : PySem.W.Frag) (H : Hp) (a : Addr) (vs : List V) : Prop := SqL K H a vs ∨ ∃ (kvs : List (Key × V)) (ks : List Int), Rd H a (.dK kvs) ∧ kvs.map (·.1) = ks.map Sum.inl ∧ vs = ks.map V.int
def ByRow (bs : List (V × List Int)) (vs : List V) (rows : List (List Int)) : Prop := bs.Perm (vs.zip rows) ∧ bs.Pairwise fun p q => p.2 ≤ q.2
theorem vals_zip : ∀ {vs : List V} {us : List Value} {rows : List (List Int)}, Vals vs us → vs.length = rows.length → PySem.W.EachIs (fun u (b : V × List Int) => RelV b.1 u) us (vs.zip rows)
  | [], _, [], .nil, _ => .nil
  | _ :: vs, _ :: us, _ :: rows, .cons r rs, h => .cons r (vals_zip rs (Nat.succ.inj h))
theorem each_fst : ∀ {bs : List (V × List Int)} {out : List Value}, PySem.W.EachIs (fun u (b : V × List Int) => RelV b.1 u) out bs → Vals (bs.map fun b => b.1) out
  | [], _, .nil => .nil
  | _ :: _, _, .cons r e => .cons r (each_fst e)
theorem zip_rows {vs : List V} : ∀ {rows : List (List Int)}, vs.length = rows.length → (vs.zip rows).map (fun b => rowI b.2) = rows.map rowI := fun {rows} h => by
  have e : (vs.zip rows).map (fun b => rowI b.2) = ((vs.zip rows).map Prod.snd).map rowI := by rw [List.map_map]; rfl
  rw [e, List.map_snd_zip (by omega)]
theorem rows_alike {rows : List (List Int)} : PySem.W.AllAlike (rows.map rowI) := PySem.W.AllAlike.of fun b b' => rowI_alike _ _
theorem rows_sortable {rows : List (List Int)} : PySem.W.Sortable (rows.map rowI) := PySem.W.Sortable.others fun b => ⟨(by intro z; cases z), (by intro xs z; cases z)⟩
theorem row_end {P : Program} {w : World} {h : Heap} {vs : List V} {rows : List (List Int)} {us out : List Value} {a : Addr} {c : Nat} (hl : vs.length = rows.length) (r : Vals vs us) (ko : PySem.W.KeyedOut false (rows.map rowI) us out) (hz : vs.length ≤ sizeLine) (at_ : h.get? a = some (seqObj "list" (List.toArray out) c)) :
    ∃ bs, ByRow bs vs rows ∧ ∀ G, ObjOk P w G h a (.lst (bs.map fun b => b.1)) := by
  rw [← zip_rows hl] at ko
  have e := PySem.W.keyedOut_each (fun b : V × List Int => rowI b.2) ko (vals_zip r hl)
  have e2 : PySem.W.dataLe false (fun b : V × List Int => rowI b.2) = fun p q : V × List Int => decide (p.2 ≤ q.2) := PySem.W.dataLe_rows fun b : V × List Int => b.2
  rw [e2] at e
  refine ⟨(vs.zip rows).mergeSort fun p q : V × List Int => decide (p.2 ≤ q.2), ⟨List.mergeSort_perm _ _, ?_⟩, ?_⟩
  · have hp := List.pairwise_mergeSort (le := fun p q : V × List Int => decide (p.2 ≤ q.2)) (fun a b c h1 h2 => decide_eq_true (List.le_trans (of_decide_eq_true h1) (of_decide_eq_true h2))) (fun a b => by
      rcases List.le_total a.2 b.2 with h | h
      · rw [decide_eq_true h]; rfl
      · rw [decide_eq_true h, Bool.or_true]) (vs.zip rows)
    exact hp.imp fun {a b} h => of_decide_eq_true h
  · intro G
    refine ⟨?_, out, c, each_fst e, by simpa using at_⟩
    rw [List.length_map, List.length_mergeSort, List.length_zip]
    omega
theorem sortedK {s : Shared} {xs : List V} {us : List Value} {a fa : Addr} {vs : List V} {rows : List (List Int)} {Q : VK} (I : Inv X pins σ H s) (hcalm : X.calm = true) (hu : X.A.units + 64 < cLine) (r : Vals xs us) (ex : xs = [.ref a]) (src : Srcs X.K H a vs) (hl : vs.length = rows.length)
    (turn : ∀ (i : Nat) (x : V) (row : List Int), vs[i]? = some x → rows[i]? = some row → KeyT X pins σ H (.ref fa) x row)
    (q : ∀ (p : Addr) (bs : List (V × List Int)) (H' : Hp), Same H H' → H p = none → H' p = none → ByRow bs vs rows → Q (.ref p) (upd H' p (.lst (bs.map fun b => b.1)))) :
    wpAny (model X.prog X.w) X.A (call (.builtin "sorted") us [(Str.ofString "key", .ref fa)]) (EP X pins σ Q) X.xe s := by
  subst ex
  obtain rfl := Vals.ref1 r
  have ud : ∀ d, d ∈ rows.map rowI → X.A.in1.in1.units + d.depth < cLine := fun d hd => by
    obtain ⟨z, _, rfl⟩ := List.mem_map.mp hd
    rw [rowI_depth]
    show X.A.units + 1 + 1 + 1 < cLine
    omega
  have body : ∀ (s1 : Shared) (b : Addr) (n : Nat) (ws : List Value) (P : PySem.Fin → Shared → Prop) (E : Value → Shared → Prop), Inv X pins σ H s1 → s1.heap.get? b = some (seqObj "list" ws.toArray n) → H b = none → FpOk X pins H b → Vals vs ws → ws.length ≤ sizeLine →
      (∀ s2, EP X pins σ Q (.ref b) s2 → P (.done (.ret .none)) s2) → wpAny (model X.prog X.w) X.A.in1.in1 (ksk_tree b (.ref fa) false) P E s1 := fun s1 b n ws P E J ho hb fb rw_ hz fin => by
    have hvl : vs.length = ws.length := rw_.length
    refine ls_key (kz := rows.map rowI) J ho fb (by rw [List.length_map]; omega) hz rows_alike rows_sortable ud (fun i v k hv hk s' H' J' sm => ?_) fun s' H' k h2 tk out c J' sm fb' fk' kp at2 ko => ?_
    · rw [List.getElem?_map] at hk
      obtain ⟨row, hr, rfl⟩ := Option.map_eq_some_iff.mp hk
      obtain ⟨x, hx, rx⟩ := vals_at rw_ hv
      exact turn i x row hx hr s' H' v J' sm rx
    · obtain ⟨bs, hb2, ok⟩ := row_end (P := X.prog) (w := X.w) hl rw_ ko (by omega) at2
      exact fin _ ⟨.ref b, upd H' b (.lst (bs.map fun b => b.1)), inv_two J' fb' fk' kp (ok _), rfl, q b bs H' sm hb fb'.1 hb2⟩
  rcases src with hS | ⟨kvs, ks, hd, hks, ev⟩
  · obtain ⟨its, rv, hls, hz⟩ := I.list hS
    have hzi : its.length ≤ sizeLine := by
      have := rv.length
      omega
    refine PySem.W.sorted_of_sort hls.isList hzi (ksk_s1 _ _) (fun _ => ksk_l1 _ _) fun E' => ?_
    rw [ksk_t1]
    exact body _ _ _ _ _ _ (I.kept fun _ _ => PySem.W.copyHeap_old) (PySem.W.copyHeap_at s.heap its) (I.hok.fresh (Nat.le_succ _)) (I.fpOk (Nat.le_succ _) (I.hok.fresh (Nat.le_succ _))) rv hzi fun s2 h => ⟨rfl, h⟩
  · obtain ⟨z, lo, ws, rel, dd⟩ := dk_rd I.hok hd
    obtain ⟨ep, hat⟩ := dd.dictAt
    have hkeys : ws.map (·.1) = ks.map Sum.inl := rel.keys.symm.trans hks
    have hl2 : ws.length = ks.length := by
      have e := congrArg List.length hkeys
      rwa [List.length_map, List.length_map] at e
    have hz : ws.length ≤ sizeLine := by rw [← rel.length]; exact z
    refine call_function_entry_kw PyProof.Rows.kind_sorted PyProof.Rows.plain_sorted PyProof.Rows.entry_sorted (ksk_s1 _ _) ?_
    unfold Builtin.«sorted»
    refine wpAny_bind (m := checkCount "sorted" 1 1 _) (wpAny_pure (wpAny_bind ?_))
    refine PySem.W.kdu_collect (A := X.A.in1) (PySem.W.kdl_dict (knd := mixKind X.prog X.w) (kvs := ws) (ep := ep) lo) (I.ok.hd hcalm) hat hz fun h' tk acc hk hacc => ?_
    have hal : acc.toList.length = ks.length := by rw [Array.length_toList, hacc.1, hl2]
    have hS : IntsAre acc.toList ks := ints_each hal fun j v e => by
      obtain ⟨k, x, e1, e2⟩ := hacc.2 j v (by rw [← Array.getElem?_toList]; exact e)
      have e3 : (ws.map (·.1))[j]? = some k := by rw [List.getElem?_map, e1]; rfl
      rw [hkeys, List.getElem?_map] at e3
      obtain ⟨y, e4, e5⟩ := Option.map_eq_some_iff.mp e3
      subst e5
      rcases keyIs_shape (show keyIs (Sum.inl y) v = true from e2) with ⟨i, t, ek, ev⟩ | ⟨z, t, ek, ev⟩
      · cases ek
        exact ⟨y, t, e4, ev⟩
      · cases ek
    have I1 : Inv X pins σ H { s with heap := h', toks := tk } := I.kept hk
    have hzi : acc.toList.length ≤ sizeLine := by rw [hal, ← hl2]; exact hz
    refine wpAny_bind (wpAny_newList ?_ hzi)
    have hoL : (h'.push (seqObj "list" acc.toList.toArray 0)).get? h'.objs.size = some (seqObj "list" acc.toList.toArray 0) := Heap.get?_push_size _ rfl
    have fr : H h'.objs.size = none := I1.hok.fresh (Nat.le_refl _)
    have I2 : Inv X pins σ H { s with heap := h'.push (seqObj "list" acc.toList.toArray 0), toks := tk } := I1.kept fun b u e => Heap.get?_push_of_some _ e
    show wpAny _ _ _ _ _ { s with heap := h'.push (seqObj "list" acc.toList.toArray 0), toks := tk }
    refine wpAny_bind (wpAny_holding (wpAny_call_entry_kw PyProof.Rows.slot_list_sort ⟨_, hoL, rfl⟩ PyProof.Rows.entry_list_sort ?_ (ksk_l1 _ _)))
    rw [ksk_t1]
    subst ev
    exact body _ _ _ _ _ _ I2 hoL fr (I1.fpOk (Nat.le_refl _) fr) (vals_ints hS) hzi fun s2 h => ⟨_, rfl, wpAny_pure ⟨_, rfl, h⟩⟩
end SRTK
section SRTK2
open PySem PySem.Calls PySem.Spec PyProof.Rows L2
variable {X : Cx} {pins : List (Addr × Obj)} {σ : L2.St} {H : Hp}
/-! ### sorted(e, key=lambda x: ..), sorted(e, key=g) -/
def SortedTo (K : PySem.W.Frag) (H : Hp) (x : V) (call1 : V → List Int → Hp → Prop) (Q : VK) : Prop := ∃ (a : Addr) (vs : List V) (rows : List (List Int)), x = .ref a ∧ Srcs K H a vs ∧ vs.length = rows.length ∧
  (∀ (i : Nat) (y : V) (row : List Int), vs[i]? = some y → rows[i]? = some row → ∀ H3, Same H H3 → call1 y row H3) ∧
  ∀ (p : Addr) (bs : List (V × List Int)) (H3 : Hp), Same H H3 → H p = none → H3 p = none → ByRow bs vs rows → Q (.ref p) (upd H3 p (.lst (bs.map fun b => b.1)))
def rowQ (K : PySem.W.Frag) (H3 : Hp) (row : List Int) : VK := fun w H4 => Same H3 H4 ∧ Dp K H4 w (rowI row)
def tSortLam (T : List (Addr × Str)) (K : PySem.W.Frag) (Nl : List Str) (js : List Nat) (ta : L2.TA) (tb : TE) : TE := fun σ H Q => ta σ H fun xs H1 => LamX.Tabs T H1 ∧ ∃ x, xs = [x] ∧ ∀ H2, LamX.ExtN H1 H2 → LamX.Tabs T H2 →
  SortedTo K H2 x (fun y row H3 => tb (NdefX.startF Nl [y] (js.map (NdefX.slotAt σ))) H3 (rowQ K H3 row)) Q
def tSortDef (K : PySem.W.Frag) (sp : Sp) (ta : L2.TA) : TE := fun σ H Q => ta σ H fun xs H1 => ∃ x, xs = [x] ∧ SortedTo K H1 x (fun y row H3 => sp [y] H3 (rowQ K H3 row) E0) Q
theorem cr_ce {outer : List Env} {P : Program} {w : World} {H : Hp} {s s2 : Shared} {Q : VK} {r : Result} (h : CR CX0 outer P w H s Q E0 r s2) : ∃ u, r = .ok (.ret u) ∧ CE outer P w H s Q u s2 := by
  cases r with
  | error e => exact (show False from h).elim
  | ok fl =>
    cases fl with
    | ret u => exact ⟨u, rfl, h⟩
    | next => exact False.elim h
    | brk => exact False.elim h
    | cont => exact False.elim h
theorem pe_sortedDef {g : Addr} {kg : Nat} {gd : FuncData} {ps : List Str} {sp : Sp} {y : Str} {e : Expr} {ta : L2.TA} {p pos yp kp : Pos} (G : FnOk X.prog X.w X.K X.mg X.base CX0 kg g gd ps sp) (hr : Room (kg + 2) X.A) (hcalm : X.calm = true) (hgs : Gl X "sorted") (hms : X.mg "sorted" = none)
    (hgy : Gl X y) (hmy : X.mg y = some (.ref g)) (hb : Binds X.K gd ps []) (ha : PA X [e] ta) (hdy : (y == ("__debug__" : Str)) = false := by decide)
    (hs : backTo pos (starEach [e] X.env) = (false, eval e X.env) :: backTo pos (starEach [] X.env) := by rfl) (hpl : (backTo pos (starEach [e] X.env)).any (·.1) = false := by rfl) :
    PE X (.Call (.Name "sorted" p) [e] [⟨some "key", .Name y yp, kp⟩] pos) (tSortDef X.K sp ta) := by
  refine ⟨fun pins s σ H Q I h => ?_⟩
  refine wpAny_Call_Name_kw (ld_blt I hgs hms (by rfl) ?_ (by decide) (by decide))
  refine PyProof.Rows.callWith_kw (thn (ha.run pos pins s σ H _ I h) fun us s1 ⟨vs, H1, I1, r1, x, ex, a, vl, rows, exa, src, hl, turn, q⟩ =>
    thn ((pk_cons (nm := some "key") (kpos := kp) (pe_glob (v := .ref g) (pos := yp) hgy hmy rfl hdy) pk_nil).run pos pins s1 σ H1 (fun zs H2 => zs = [.ref g] ∧ H2 = H1) I1 ⟨rfl, rfl⟩) fun ws s2 ⟨zs, H2, I2, r2, ez, eH⟩ => ?_) hs hpl (by rfl) (by rfl)
  subst ez eH
  obtain rfl := Vals.ref1 r2
  subst exa
  refine sortedK I2 hcalm hr.units r1 ex src hl (fun i y row hy hrow s' H' u J sm ru => ?_) q
  have hsp := turn i y row hy hrow H' sm
  have hlen := G.len _ _ _ _ hsp
  have kin : X.K.In s'.heap := J.kIn
  have hbd := hb s' [u] kin (by rw [List.append_nil]; exact hlen)
  rw [List.append_nil] at hbd
  refine wpAny_call (codeAny_mono (G.run X.A.in1.in1 X.stack s' H' ⟨[u], []⟩ [u] [y] _ E0 (hr.in1.in1) J.env0.in1.in1 hbd (.cons ru .nil) hsp) fun r s3 hq => ?_)
  obtain ⟨z, er, c⟩ := cr_ce hq
  subst er
  exact c
theorem pe_sortedLam {T : List (Addr × Str)} {c P : Addr} {params : Arguments} {body : Expr} {scope : Scope} {Nl fr : List Str} {px : Str} {js : List Nat} {kl : Nat} {e : Expr} {ta : L2.TA} {tb : TE} {p pos lp kp : Pos} (hr : Room (kl + 3) X.A) (hcalm : X.calm = true) (hgs : Gl X "sorted") (hms : X.mg "sorted" = none)
    (TB : LamX.TabB X.base X.mg c P) (hcode : X.env.code = .ref c) (hm : (P, X.env.qual ++ "<lambda>") ∈ T) (hu : ∀ p ∈ T, p.1 = P → p.2 = X.env.qual ++ "<lambda>") (hdef : defaultsOf params X.env = ([], []))
    (S : NdefX.NScope Nl [px] fr scope) (hdf : NdefX.ndefB X.env.scope scope fr = true) (hjs : js.map (fun j => X.N[j]?) = fr.map some)
    (hbind : ∀ (q : Str) (cl : List (Str × Addr)) (pm cv ctv : Value) (u : Value), bindArgs (PySem.W.kla_fn "<lambda>" q params body scope cl pm cv ctv) ⟨[u], []⟩ = pure [(px, u)])
    (hbody : ∀ (A : Around) (outer : List Env) (s : Shared) (H : Hp) (f : Addr) (cl : List (Str × Addr)) (c' : Addr), Room kl (A.deeper (NdefX.envF (LF.nf ⟨X.env.qual ++ "<lambda>", params, body, scope, cl, c'⟩) f s.heap.objs.size)) → PE (NdefX.ncx CX0 X.prog X.w X.K X.mg X.base Nl (LF.nf ⟨X.env.qual ++ "<lambda>", params, body, scope, cl, c'⟩) f A outer s H E0) body tb)
    (ha : PA X [e] ta)
    (hs : backTo pos (starEach [e] X.env) = (false, eval e X.env) :: backTo pos (starEach [] X.env) := by rfl) (hpl : (backTo pos (starEach [e] X.env)).any (·.1) = false := by rfl) :
    PE X (.Call (.Name "sorted" p) [e] [⟨some "key", .Lambda params body scope lp, kp⟩] pos) (tSortLam T X.K Nl js ta tb) := by
  refine ⟨fun pins s σ H Q I h => ?_⟩
  refine wpAny_Call_Name_kw (ld_blt I hgs hms (by rfl) ?_ (by decide) (by decide))
  refine PyProof.Rows.callWith_kw (thn (ha.run pos pins s σ H _ I h) fun us s1 ⟨vs, H1, I1, r1, hT, x, ex, made⟩ =>
    thn ((pk_cons (nm := some "key") (kpos := kp) (pe_lamV (T := T) (pos := lp) TB hcode hm hu hdef (NdefX.ndef_free hdf)) pk_nil).run pos pins s1 σ H1 (fun zs H2 => ∃ f c', zs = [.ref f] ∧ H2 f = some (LamO f ⟨X.env.qual ++ "<lambda>", params, body, scope, cloFrom X.env.cells scope.names [], c'⟩) ∧ H2 c' = some (LamX.CodeO c' (X.env.qual ++ "<lambda>")) ∧
      SortedTo X.K H2 x (fun y row H3 => tb (NdefX.startF Nl [y] (js.map (NdefX.slotAt σ))) H3 (rowQ X.K H3 row)) Q) I1 ⟨hT, fun f c' H2 eN T2 nf hf hc => ⟨f, c', rfl, hf, hc, made H2 eN T2⟩⟩) fun ws s2 ⟨zs, H2, I2, r2, f, c', ez, hf, hc, a, vl, rows, exa, src, hl, turn, q⟩ => ?_) hs hpl (by rfl) (by rfl)
  subst ez exa
  obtain rfl := Vals.ref1 r2
  refine sortedK I2 hcalm hr.units r1 ex src hl (fun i y row hy hrow s' H' u J sm ru => ?_) q
  have ht := turn i y row hy hrow H' sm
  have C1 := NdefX.cells_of (js := js) J (NdefX.Caps.made J.ok (NdefX.ndef_free hdf) (NdefX.ndef_fr hdf) hjs)
  obtain ⟨⟨pm, ctv, ho⟩, _⟩ := J.hok f _ (sm _ _ hf)
  have e0 := J.env0.in1.in1
  have hr1 : Room (kl + 1) X.A.in1.in1 := hr.in1.in1
  have lim : s'.heap.NoLimit := J.nolimit
  refine wpAny_call ?_
  refine PySem.W.kla_callFunE hr1.depth ho rfl S.co S.gen rfl (NdefX.codeO_at J.hok (sm _ _ hc)) ?_
  rw [hbind]
  refine wpAny_pure (wpAny_newFunctionEnv S.nocell (fun ⟨n, _⟩ hy => S.par n (List.of_mem_zip (l₁ := [px]) (l₂ := [u]) hy).1) (fun h₁ hns hsb => ⟨lim.fresh _ hsb, ?_⟩) S.kind)
  have kp : ∀ b o, s'.heap.get? b = some o → h₁.get? b = some o := fun b o z => hsb.extBut b o (Nat.ne_of_lt (Heap.lt_size z)) (Heap.get?_push_of_some _ z)
  have J0 := NdefX.inv_startN (CX := CX0) (E := E0) (F := LF.nf ⟨X.env.qual ++ "<lambda>", params, body, scope, cloFrom X.env.cells scope.names [], c'⟩) (f := f) (tk := s'.toks + ([px].zip [u]).length) S hr1.hd e0 (vs := [y]) (us := [u]) rfl (.cons ru .nil) C1 hns kp
  refine PySem.W.kla_codeExpr (wpAny_mono ((hbody X.A.in1.in1 X.stack s' _ f _ c' (hr1.deeper _)).run [] _ _ _ _ J0 ht) (fun v s3 ⟨w3, H3, J3, rv, q3⟩ => ?_) fun e s3 z => z)
  exact ⟨w3, H3, J3.os, J3.bare, J3.base, J3.hok, rv, q3⟩
end SRTK2
def top (i : Nat) : Stmt := PySem.Challenge.pw_uponboth_k14_expansion_lists.main.body.getD i (.Pass ⟨0, 0, 0, 0⟩)
structure Blt (mg : Str → Option Value) : Prop where
  len : mg "len" = none
  list : mg "list" = none
  tuple : mg "tuple" = none
  dict : mg "dict" = none
  bool : mg "bool" = none
  isinstance : mg "isinstance" = none
  max : mg "max" = none
  min : mg "min" = none
  range : mg "range" = none
  all : mg "all" = none
  sorted : mg "sorted" = none
  enumerate : mg "enumerate" = none
  sum : mg "sum" = none
  str : mg "str" = none
  int : mg "int" = none
/-- the state of the draws: a list of ints, a place, a rest, a seed -/
def Rng (H : Hp) (r : Addr) : Prop := ∃ (c : Addr) (ns : List Int) (i b s : Int), H r = some (.lst [.ref c, .int i, .int b, .int s]) ∧ H c = some (.lst (ns.map V.int)) ∧ c ≠ r ∧ 0 ≤ i ∧ 0 ≤ b ∧ 0 ≤ s ∧ s < 2147483647
theorem Rng.lst {H : Hp} {r : Addr} (h : Rng H r) : ∃ ys, H r = some (.lst ys) := by
  obtain ⟨c, ns, i, b, s, h, _⟩ := h
  exact ⟨_, h⟩
theorem Rng.same {H H' : Hp} {r : Addr} (e : Same H H') (h : Rng H r) : Rng H' r := by
  obtain ⟨c, ns, i, b, s, h1, h2, h3⟩ := h
  exact ⟨c, ns, i, b, s, e _ _ h1, e _ _ h2, h3⟩
theorem cut63 {ns : List Int} : cutV (ns.map V.int) none (some 63) = (ns.take 63).map V.int := by
  unfold cutV
  rw [HT.sIx_none, show HT.sIx (ns.map V.int).length (ns.map V.int).length (some 63) = min 63 (ns.map V.int).length from HT.sIx_nat _ _ 63]
  rw [List.drop_zero, Nat.sub_zero, List.map_take]
  rcases Nat.le_total 63 (ns.map V.int).length with h | h
  · rw [Nat.min_eq_left h]
  · rw [Nat.min_eq_right h, List.take_of_length_le (Nat.le_refl _), List.take_of_length_le h]
def spDraws (K : PySem.W.Frag) : Sp := fun vs H Q _ => ∃ (a : Addr) (ns : List Int), vs = [.ref a] ∧ SqL K H a (ns.map V.int) ∧ ∀ (r : Addr) (H' : Hp), Same H H' → H r = none → Rng H' r → Q (.ref r) H'
def spDraw : Sp := fun vs H Q _ => ∃ (r : Addr) (n : Int), vs = [.ref r, .int n] ∧ Rng H r ∧ 0 < n ∧ n < 1073741824 ∧ ∀ (v : Int) (H' : Hp), 0 ≤ v → v < n → Rng H' r → But r H H' → Q (.int v) H'
theorem fn_none {P : Program} {w : World} {K : PySem.W.Frag} {mg : Str → Option Value} {base : Heap} {f : Addr} {fd : FuncData} {CX : CXT} {ps : List Str} {sp : Sp} {k : Nat} (no : ∀ vs H Q E, ¬ sp vs H Q E) : FnOk P w K mg base CX k f fd ps sp :=
  ⟨fun vs H Q E h => absurd h (no vs H Q E), fun A outer s H args us vs Q E _ _ _ _ h => absurd h (no vs H Q E)⟩
def spTerm (K : PySem.W.Frag) (n : Nat) : Sp := fun vs H Q _ => ∃ (r : Addr) (many : Int) (k : Nat), k < n ∧ vs = [.ref r, .int many, .int (2 ^ k)] ∧ k ≤ 6 ∧ 1 ≤ many ∧ many ≤ 2 ^ k ∧ Rng H r ∧
  ∀ (v : V) (t : Tree) (H' : Hp), TA K H' v t → (t.sz : Int) = many → t.dp ≤ k → Rng H' r → But r H H' → Q v H'
def spComb (K : PySem.W.Frag) : Sp := fun vs H Q _ => ∃ (m : Int) (b : Bool), vs = [.int m, .bl b] ∧ 1 ≤ m ∧ m ≤ 40 ∧
  ∀ (v : V) (t : Tree) (H' : Hp), TA K H' v t → (t.sz : Int) = m → (t.dp : Int) = m - 1 → Same H H' → Q v H'
def spAny (K : PySem.W.Frag) : Sp := fun vs H Q _ => ∃ (r : Addr) (top : Int), vs = [.ref r, .int top] ∧ 1 ≤ top ∧ top ≤ 64 ∧ Rng H r ∧
  ∀ (v : V) (t : Tree) (H' : Hp), TA K H' v t → (t.sz : Int) ≤ top → t.dp ≤ 6 → Rng H' r → But r H H' → Q v H'
/-- a def over one tree that gives g of it and makes nothing that stays -/
def spTree (K : PySem.W.Frag) (g : Tree → V) (n : Nat) : Sp := fun vs H Q _ => ∃ (v : V) (t : Tree), vs = [v] ∧ TA K H v t ∧ t.dp < n ∧ n ≤ 40 ∧ ∀ H', Same H H' → Q (g t) H'
theorem spTree_no {K : PySem.W.Frag} {g : Tree → V} : ∀ vs H Q E, ¬ spTree K g 0 vs H Q E := fun vs H Q E h => by
  obtain ⟨v, t, _, _, h, _⟩ := h
  omega
def spIsPair (K : PySem.W.Frag) : Sp := fun vs H Q _ => ∃ (v : V) (t : Tree), vs = [v] ∧ TA K H v t ∧ Q (.bl (!t.isL)) H
def spOkTerm (K : PySem.W.Frag) (g : V) : Sp := fun vs H Q _ => ∃ (v : V) (t : Tree), vs = [v] ∧ TA K H v t ∧ t.sz ≤ 12 ∧ t.dp ≤ 6 ∧ ∀ H', Same H H' → Q g H'
/-- an item of the pile: a term and how deep it stands -/
def Item (K : PySem.W.Frag) (H : Hp) (p : V × Tree × Nat) : Prop := ∃ (a : Addr) (u : V), p.1 = .ref a ∧ SqT K H a [u, .int p.2.2] ∧ TA K H u p.2.1 ∧ p.2.2 + p.2.1.dp ≤ 6
theorem Item.mono {K : PySem.W.Frag} {H H' : Hp} (e : Tp H H') {p : V × Tree × Nat} (h : Item K H p) : Item K H' p := by
  obtain ⟨a, u, h1, h2, h3, h4⟩ := h
  exact ⟨a, u, h1, e.sqT h2, ta_mono e h3, h4⟩
def szs (ps : List (V × Tree × Nat)) : Nat := (ps.map fun p => p.2.1.sz).sum
def nds (ps : List (V × Tree × Nat)) : Nat := (ps.map fun p => p.2.1.nodes).sum
theorem szs_snoc (ps : List (V × Tree × Nat)) (p) : szs (ps ++ [p]) = szs ps + p.2.1.sz := by
  unfold szs
  rw [List.map_append, List.sum_append]
  simp
theorem nds_snoc (ps : List (V × Tree × Nat)) (p) : nds (ps ++ [p]) = nds ps + p.2.1.nodes := by
  unfold nds
  rw [List.map_append, List.sum_append]
  simp
theorem szs_len : ∀ ps : List (V × Tree × Nat), ps.length ≤ szs ps
  | [] => Nat.zero_le _
  | p :: ps => by
    have h := szs_len ps
    have h2 := p.2.1.sz_pos
    show ps.length + 1 ≤ (p.2.1.sz :: ps.map fun p => p.2.1.sz).sum
    rw [List.sum_cons]
    unfold szs at h
    omega
structure Cst (mg : Str → Option Value) : Prop where
  MAX_SIZE : ∃ t, mg "MAX_SIZE" = some (.int 12 t)
  MAX_DEPTH : ∃ t, mg "MAX_DEPTH" = some (.int 6 t)
def spOkTree (K : PySem.W.Frag) (g : Tree → V) : Sp := fun vs H Q _ => ∃ (v : V) (t : Tree), vs = [v] ∧ TA K H v t ∧ t.sz ≤ 12 ∧ t.dp ≤ 6 ∧ ∀ H', Same H H' → Q (g t) H'
def Tree.spine : Tree → List Tree
  | .L => [.L]
  | .N l r => .N l r :: l.spine
def spSpine (K : PySem.W.Frag) : Sp := fun vs H Q _ => ∃ (v : V) (t : Tree), vs = [v] ∧ TA K H v t ∧ t.sz ≤ 12 ∧ t.dp ≤ 6 ∧ ∀ (p : Addr) (vs : List V) (H' : Hp), Same H H' → H p = none → H' p = some (.lst vs) → DpAll K H' vs (t.spine.map Tree.d) → Q (.ref p) H'
theorem dpAll_snoc {K : PySem.W.Frag} {H : Hp} : ∀ {vs : List V} {ds : List PyData} {v : V} {d : PyData}, DpAll K H vs ds → Dp K H v d → DpAll K H (vs ++ [v]) (ds ++ [d])
  | _, _, _, _, .nil, h => .cons h .nil
  | _, _, _, _, .cons h1 h2, h => .cons h1 (dpAll_snoc h2 h)
theorem dpAll_len {K : PySem.W.Frag} {H : Hp} : ∀ {vs : List V} {ds : List PyData}, DpAll K H vs ds → vs.length = ds.length
  | _, _, .nil => rfl
  | _, _, .cons _ h2 => congrArg (· + 1) (dpAll_len h2)
theorem dpAll_at {K : PySem.W.Frag} {H : Hp} : ∀ {vs : List V} {ds : List PyData}, DpAll K H vs ds → ∀ (i : Nat) (d : PyData), ds[i]? = some d → ∃ v, vs[i]? = some v ∧ Dp K H v d
  | _, _, .nil, i, d, e => by simp at e
  | _, _, .cons h1 h2, 0, d, e => ⟨_, rfl, by cases e; exact h1⟩
  | _, _, .cons h1 h2, i + 1, d, e => dpAll_at h2 i d e
theorem dpAll_tp {K : PySem.W.Frag} {H H' : Hp} (e : Tp H H') : ∀ {ts : List Tree} {vs : List V}, DpAll K H vs (ts.map Tree.d) → DpAll K H' vs (ts.map Tree.d)
  | [], _, h => by
    cases h
    exact .nil
  | t :: ts, _, h => by
    cases h with
    | cons h1 h2 => exact .cons (ta_mono e h1) (dpAll_tp e h2)
theorem Tree.spine_len : ∀ t : Tree, t.spine.length ≤ t.dp + 1
  | .L => Nat.le_refl _
  | .N l r => by
    have h := spine_len l
    show l.spine.length + 1 ≤ max l.dp r.dp + 1 + 1
    omega
theorem Tree.spine_mem : ∀ {t u : Tree}, u ∈ t.spine → u.dp ≤ t.dp
  | .L, u, h => by
    cases List.mem_singleton.mp h
    exact Nat.le_refl _
  | .N l r, u, h => by
    rcases List.mem_cons.mp h with e | h
    · rw [e]
      exact Nat.le_refl _
    · have h2 := spine_mem h
      show u.dp ≤ max l.dp r.dp + 1
      omega
theorem Tree.spine_self : ∀ t : Tree, t ∈ t.spine
  | .L => List.mem_singleton.mpr rfl
  | .N _ _ => List.mem_cons_self
/-- the walk down the left: at p stands the list of what was met, its last one is still to be looked at -/
def Spn (K : PySem.W.Frag) (H H' : Hp) (p : Addr) (t : Tree) (m : Nat) : Prop := ∃ (vs : List V) (u : V) (ts : List Tree) (t' : Tree), Same H H' ∧ H' p = some (.lst (vs ++ [u])) ∧ DpAll K H' vs (ts.map Tree.d) ∧ TA K H' u t' ∧ ts ++ t'.spine = t.spine ∧ m = t'.nodes
theorem Spn.dp {t t' : Tree} {ts : List Tree} (et : ts ++ t'.spine = t.spine) (hd : t.dp ≤ 6) : t'.dp ≤ 63 := by
  have h : t' ∈ t.spine := by
    rw [← et]
    exact List.mem_append_right _ t'.spine_self
  have := Tree.spine_mem h
  omega
theorem Spn.lt {K : PySem.W.Frag} {H' : Hp} {vs : List V} {u : V} {t t' : Tree} {ts : List Tree} (hA : DpAll K H' vs (ts.map Tree.d)) (et : ts ++ t'.spine = t.spine) (hd : t.dp ≤ 6) : (vs ++ [u]).length < sizeLine := by
  have h1 := dpAll_len hA
  have h2 := congrArg List.length et
  have h3 := t.spine_len
  rw [List.length_map] at h1
  rw [List.length_append] at h2
  rw [List.length_append, List.length_singleton]
  exact small1000 (by omega)
theorem Spn.next {K : PySem.W.Frag} {H H' : Hp} {p p5 b : Addr} {vs : List V} {x1 x2 : V} {t l r : Tree} {ts : List Tree} (hp0 : H p = none) (sm : Same H H') (s5 : Same H' (upd H' p5 (.tup []))) (hl : H' p = some (.lst (vs ++ [.ref b]))) (hA : DpAll K H' vs (ts.map Tree.d)) (hS : SqT K H' b [x1, x2]) (hL : TA K H' x1 l) (hR : TA K H' x2 r)
    (et : ts ++ (Tree.N l r).spine = t.spine) : Spn K H (upd (upd H' p5 (.tup [])) p (.lst ((vs ++ [.ref b]) ++ [x1]))) p t l.nodes := by
  have tp : Tp H' (upd (upd H' p5 (.tup [])) p (.lst ((vs ++ [.ref b]) ++ [x1]))) := (Tp.same s5).trans (Tp.but (s5 _ _ hl) But.set)
  refine ⟨vs ++ [.ref b], x1, ts ++ [.N l r], l, fun c o e => ?_, upd_same, ?_, ta_mono tp hL, ?_, rfl⟩
  · rw [upd_ne (ne_of_none e hp0)]
    exact s5 _ _ (sm _ _ e)
  · rw [List.map_append]
    exact dpAll_snoc (dpAll_tp tp hA) (ta_node (tp.sqT hS) (ta_mono tp hL) (ta_mono tp hR))
  · rw [List.append_assoc]
    exact et
/-! ### data and their built-in types -/
def tn : PyData → String
  | .none => "NoneType"
  | .bool _ => "bool"
  | .int _ => "int"
  | .str _ => "str"
  | .list _ => "list"
  | .tuple _ => "tuple"
  | .dict _ => "dict"
def isT : PyData → Bool
  | .tuple _ => true
  | _ => false
def isLs : PyData → Bool
  | .list _ => true
  | _ => false
def isB : PyData → Bool
  | .bool _ => true
  | _ => false
theorem dp_ty {K : PySem.W.Frag} {H : Hp} {x : V} {d : PyData} (h : Dp K H x d) : TyX K H x (.type (tn d)) := by
  cases h with
  | non => exact .base .non
  | bl b => exact .base (.bl b)
  | int i => exact .base (.int i)
  | str z => exact .base (.str z)
  | lst hs _ => exact tyx_lst hs
  | tup hs _ => exact tyx_tup hs
theorem kit_dict {K : PySem.W.Frag} {H : Hp} {x : V} {d : PyData} (h : Dp K H x d) : PySem.W.kitOne K (.type (tn d)) (.type "dict") = some false := by
  cases h with
  | non => exact kit_ty (show kitB "NoneType" "dict" = some false by decide +kernel)
  | bl _ => exact kit_ty (show kitB "bool" "dict" = some false by decide +kernel)
  | int _ => exact kit_ty (show kitB "int" "dict" = some false by decide +kernel)
  | str _ => exact kit_ty (show kitB "str" "dict" = some false by decide +kernel)
  | lst _ _ => exact kit_ty (show kitB "list" "dict" = some false by decide +kernel)
  | tup _ _ => exact kit_ty (show kitB "tuple" "dict" = some false by decide +kernel)
theorem kit_tuple {K : PySem.W.Frag} {H : Hp} {x : V} {d : PyData} (h : Dp K H x d) : PySem.W.kitOne K (.type (tn d)) (.type "tuple") = some (isT d) := by
  cases h with
  | non => exact kit_ty (show kitB "NoneType" "tuple" = some false by decide +kernel)
  | bl _ => exact kit_ty (show kitB "bool" "tuple" = some false by decide +kernel)
  | int _ => exact kit_ty (show kitB "int" "tuple" = some false by decide +kernel)
  | str _ => exact kit_ty (show kitB "str" "tuple" = some false by decide +kernel)
  | lst _ _ => exact kit_ty (show kitB "list" "tuple" = some false by decide +kernel)
  | tup _ _ => exact kit_ty (show kitB "tuple" "tuple" = some true by decide +kernel)
theorem kit_list {K : PySem.W.Frag} {H : Hp} {x : V} {d : PyData} (h : Dp K H x d) : PySem.W.kitOne K (.type (tn d)) (.type "list") = some (isLs d) := by
  cases h with
  | non => exact kit_ty (show kitB "NoneType" "list" = some false by decide +kernel)
  | bl _ => exact kit_ty (show kitB "bool" "list" = some false by decide +kernel)
  | int _ => exact kit_ty (show kitB "int" "list" = some false by decide +kernel)
  | str _ => exact kit_ty (show kitB "str" "list" = some false by decide +kernel)
  | lst _ _ => exact kit_ty (show kitB "list" "list" = some true by decide +kernel)
  | tup _ _ => exact kit_ty (show kitB "tuple" "list" = some false by decide +kernel)
theorem kit_bool {K : PySem.W.Frag} {H : Hp} {x : V} {d : PyData} (h : Dp K H x d) : PySem.W.kitOne K (.type (tn d)) (.type "bool") = some (isB d) := by
  cases h with
  | non => exact kit_ty (show kitB "NoneType" "bool" = some false by decide +kernel)
  | bl _ => exact kit_ty (show kitB "bool" "bool" = some true by decide +kernel)
  | int _ => exact kit_ty (show kitB "int" "bool" = some false by decide +kernel)
  | str _ => exact kit_ty (show kitB "str" "bool" = some false by decide +kernel)
  | lst _ _ => exact kit_ty (show kitB "list" "bool" = some false by decide +kernel)
  | tup _ _ => exact kit_ty (show kitB "tuple" "bool" = some false by decide +kernel)
theorem kit_seq {K : PySem.W.Frag} {H : Hp} {x : V} {d : PyData} (h : Dp K H x d) : PySem.W.kitAny K (.type (tn d)) [.type "tuple", .type "list"] = some (isT d || isLs d) := by
  refine kitAny_cons (kit_tuple h) (fun e => kitAny_cons (kit_list h) (fun e2 => ?_) (fun e2 => ?_)) (fun e => ?_)
  · rw [e, e2]
    exact kitAny_nil
  · rw [e, e2]
    rfl
  · rw [e]
    rfl
mutual
/-- no list or tuple in it is longer than 1000 -/
def wide : PyData → Bool
  | .list xs | .tuple xs => decide (xs.length ≤ 1000) && wideAll xs
  | .none | .bool _ | .int _ | .str _ | .dict _ => true
def wideAll : List PyData → Bool
  | [] => true
  | x :: xs => wide x && wideAll xs
end
/-- two data that are the same are told to be the same -/
def spSame (K : PySem.W.Frag) (n : Nat) : Sp := fun vs H Q _ => ∃ (x y : V) (d : PyData), vs = [x, y] ∧ Dp K H x d ∧ Dp K H y d ∧ SeqAt.shaped d = true ∧ d.depth < n ∧ wide d = true ∧ ∀ H', Same H H' → Q (.bl true) H'
theorem shaped_at {ds : List PyData} {d : PyData} (hc : PyData.canLayAll0 ds = true) (hm : d ∈ ds) : d.canLay0 = true := by
  induction ds with
  | nil => cases hm
  | cons a r ih =>
    have h' : a.canLay0 = true ∧ PyData.canLayAll0 r = true := by simpa [PyData.canLayAll0] using hc
    rcases List.mem_cons.mp hm with e | hm
    · rw [e]
      exact h'.1
    · exact ih h'.2 hm
theorem depth_at {ds : List PyData} {d : PyData} (hm : d ∈ ds) : d.depth ≤ PyData.depthAll ds := by
  induction ds with
  | nil => cases hm
  | cons a r ih =>
    show d.depth ≤ max a.depth (PyData.depthAll r)
    rcases List.mem_cons.mp hm with e | hm
    · rw [e]
      omega
    · have := ih hm
      omega
theorem wide_at {ds : List PyData} {d : PyData} (hc : wideAll ds = true) (hm : d ∈ ds) : wide d = true := by
  induction ds with
  | nil => cases hm
  | cons a r ih =>
    have h' : wide a = true ∧ wideAll r = true := by simpa [wideAll] using hc
    rcases List.mem_cons.mp hm with e | hm
    · rw [e]
      exact h'.1
    · exact ih h'.2 hm
theorem all_rep : ∀ n : Nat, (List.replicate n true).all id = true
  | 0 => rfl
  | n + 1 => all_rep n
def spLaw (K : PySem.W.Frag) : Sp := fun vs H Q _ => ∃ (a : Addr) (ns : List Int), vs = [.ref a] ∧ SqL K H a (ns.map V.int) ∧ ∀ H', Q (.bl true) H'
/-! ### texts of trees -/
namespace Tree
def cs : Tree → List Nat
  | L => [120]
  | N l r => 40 :: (l.cs ++ (r.cs ++ [41]))
def txt (t : Tree) : Str := ⟨t.cs.toArray⟩
theorem cs_len : ∀ t : Tree, t.cs.length + 2 = 3 * t.sz
  | L => rfl
  | N l r => by
    have h1 := cs_len l
    have h2 := cs_len r
    show (40 :: (l.cs ++ (r.cs ++ [41]))).length + 2 = 3 * (l.sz + r.sz)
    rw [List.length_cons, List.length_append, List.length_append, List.length_singleton]
    omega
theorem txt_len (t : Tree) : t.txt.length = t.cs.length := by
  show t.cs.toArray.size = _
  simp
theorem txtN (l r : Tree) : (((Str.ofString "(" ++ l.txt) ++ r.txt) ++ Str.ofString ")") = (N l r).txt := by
  show (⟨((#[40] ++ l.cs.toArray) ++ r.cs.toArray) ++ #[41]⟩ : Str) = ⟨(40 :: (l.cs ++ (r.cs ++ [41]))).toArray⟩
  congr 1
  apply Array.toList_inj.mp
  simp
theorem txtL : Str.ofString "x" = L.txt := rfl
end Tree
def spText (K : PySem.W.Frag) (n : Nat) : Sp := fun vs H Q _ => ∃ (v : V) (t : Tree), vs = [v] ∧ TA K H v t ∧ t.dp < n ∧ n ≤ 40 ∧ t.sz ≤ 1000 ∧ ∀ H', Same H H' → Q (.str t.txt) H'
theorem spText_no {K : PySem.W.Frag} : ∀ vs H Q E, ¬ spText K 0 vs H Q E := fun vs H Q E h => by
  obtain ⟨v, t, _, _, h, _⟩ := h
  omega
theorem fits {n : Nat} (h : n ≤ 10000) : n ≤ sizeLine := Nat.le_trans h (by decide)
/-- the reader's pile: the lists of operands that are open, the innermost first -/
def room (ts : List Tree) (rest : List (List Tree)) : Nat := if rest.length = 0 then 1 else 2
def stp : List (List Tree) → Nat → Option (List (List Tree))
  | [], _ => none
  | ts :: rest, c => if c = 120 then (if ts.length < room ts rest then some ((ts ++ [.L]) :: rest) else none)
    else if c = 40 then (if ts.length < room ts rest then some ([] :: ts :: rest) else none)
    else if c = 41 then (match ts, rest with
      | [a, b], us :: more => some ((us ++ [.N a b]) :: more)
      | _, _ => none)
    else none
theorem stp_x (ts : List Tree) (rest : List (List Tree)) : stp (ts :: rest) 120 = if ts.length < room ts rest then some ((ts ++ [.L]) :: rest) else none := rfl
theorem stp_o (ts : List Tree) (rest : List (List Tree)) : stp (ts :: rest) 40 = if ts.length < room ts rest then some ([] :: ts :: rest) else none := rfl
theorem stp_c (ts : List Tree) (rest : List (List Tree)) : stp (ts :: rest) 41 = (match ts, rest with
      | [a, b], us :: more => some ((us ++ [.N a b]) :: more)
      | _, _ => none) := rfl
theorem stp_else (ts : List Tree) (rest : List (List Tree)) {c : Nat} (h1 : c ≠ 120) (h2 : c ≠ 40) (h3 : c ≠ 41) : stp (ts :: rest) c = none := by
  show (if c = 120 then _ else if c = 40 then _ else if c = 41 then _ else none) = none
  rw [if_neg h1, if_neg h2, if_neg h3]
def rn : List (List Tree) → List Nat → Option (List (List Tree))
  | st, [] => some st
  | st, c :: cs => (stp st c).bind fun st' => rn st' cs
theorem rn_tree : ∀ (t : Tree) (ts : List Tree) (rest : List (List Tree)) (more : List Nat), ts.length < room ts rest → rn (ts :: rest) (t.cs ++ more) = rn ((ts ++ [t]) :: rest) more
  | .L, ts, rest, more, h => by
    show (stp (ts :: rest) 120).bind (fun st' => rn st' more) = _
    rw [stp_x, if_pos h]
    rfl
  | .N l r, ts, rest, more, h => by
    have e : (Tree.N l r).cs ++ more = 40 :: (l.cs ++ (r.cs ++ (41 :: more))) := by
      show (40 :: (l.cs ++ (r.cs ++ [41]))) ++ more = _
      simp
    rw [e]
    show (stp (ts :: rest) 40).bind (fun st' => rn st' (l.cs ++ (r.cs ++ (41 :: more)))) = _
    have e1 : stp (ts :: rest) 40 = some ([] :: ts :: rest) := by
      rw [stp_o, if_pos h]
    rw [e1]
    show rn ([] :: ts :: rest) (l.cs ++ (r.cs ++ (41 :: more))) = _
    rw [rn_tree l [] (ts :: rest) _ (by show 0 < if (ts :: rest).length = 0 then 1 else 2; rw [if_neg (by simp)]; decide)]
    rw [rn_tree r _ (ts :: rest) _ (by show 1 < if (ts :: rest).length = 0 then 1 else 2; rw [if_neg (by simp)]; decide)]
    rfl
theorem rn_all (t : Tree) : rn [[]] t.cs = some [[t]] := by
  have h := rn_tree t [] [] [] (by decide)
  rw [List.append_nil] at h
  rw [h]
  rfl
theorem tlen {t : Tree} (h : t.sz ≤ 1000) : t.txt.length ≤ 3000 := by
  have h1 := t.cs_len
  have h2 := t.txt_len
  omega
theorem slen (a b : Str) : (a ++ b).length = a.length + b.length := by
  show (a.cps ++ b.cps).size = a.cps.size + b.cps.size
  simp
def spOkText (K : PySem.W.Frag) : Sp := fun vs H Q _ => ∃ (v : V) (t : Tree), vs = [v] ∧ TA K H v t ∧ t.sz ≤ 12 ∧ t.dp ≤ 6 ∧ ∀ H', Same H H' → Q (.str t.txt) H'
def spRoom : Sp := fun vs H Q _ => ∃ (p a : Addr) (as : List Addr) (ws : List V), vs = [.ref p] ∧ H p = some (.lst ((as ++ [a]).map V.ref)) ∧ H a = some (.lst ws) ∧ as.length ≤ 10000 ∧ ws.length ≤ 10000 ∧ Q (.bl (decide ((ws.length : Int) < if as.length = 0 then 1 else 2))) H
/-- reading the text of a tree gives the tree -/
def spRead (K : PySem.W.Frag) : Sp := fun vs H Q _ => ∃ t : Tree, vs = [.str t.txt] ∧ t.sz ≤ 1000 ∧ ∀ (v : V) (H' : Hp), TA K H' v t → Same H H' → Q v H'
def spParse (K : PySem.W.Frag) : Sp := fun vs H Q _ => ∃ t : Tree, vs = [.str t.txt] ∧ t.sz ≤ 12 ∧ t.dp ≤ 6 ∧ ∀ (v : V) (H' : Hp), TA K H' v t → Same H H' → Q v H'
inductive Pile (K : PySem.W.Frag) (G : Hp) : List Addr → List (List Tree) → Prop
  | nil : Pile K G [] []
  | cons {a : Addr} {vs : List V} {ts : List Tree} {as : List Addr} {st : List (List Tree)} : G a = some (.lst vs) → DpAll K G vs (ts.map Tree.d) → Pile K G as st → Pile K G (a :: as) (ts :: st)
theorem Pile.mono {K : PySem.W.Frag} {G G' : Hp} (tp : Tp G G') : ∀ {as : List Addr} {st : List (List Tree)}, (∀ a ∈ as, ∀ o, G a = some o → G' a = some o) → Pile K G as st → Pile K G' as st
  | _, _, _, .nil => .nil
  | _, _, k, .cons h1 h2 h3 => .cons (k _ List.mem_cons_self _ h1) (dpAll_tp tp h2) (Pile.mono tp (fun a ha => k a (List.mem_cons_of_mem _ ha)) h3)
/-- the pile at p, all of it new since H -/
def PileAt (K : PySem.W.Frag) (H G : Hp) (p : Addr) (st : List (List Tree)) : Prop := ∃ as : List Addr, G p = some (.lst (as.reverse.map V.ref)) ∧ as.Nodup ∧ p ∉ as ∧ H p = none ∧ (∀ a ∈ as, H a = none) ∧ Pile K G as st
theorem cs_small : ∀ (t : Tree) (c : Nat), c ∈ t.cs → c < 128
  | .L, c, h => by
    rw [List.mem_singleton.mp h]
    decide
  | .N l r, c, h => by
    have h : c ∈ 40 :: (l.cs ++ (r.cs ++ [41])) := h
    rcases List.mem_cons.mp h with e | h
    · rw [e]
      decide
    rcases List.mem_append.mp h with h | h
    · exact cs_small l c h
    rcases List.mem_append.mp h with h | h
    · exact cs_small r c h
    · rw [List.mem_singleton.mp h]
      decide
theorem txt_ok (t : Tree) : PyData.strOk t.txt = true := by
  show t.cs.toArray.all (· < 0x110000) = true
  rw [Array.all_eq_true']
  intro c hc
  have h := cs_small t c (by simpa using hc)
  exact decide_eq_true (by omega)
/-! ### the twenty errors of the law's words -/
def enames : List Str := ["InvalidTerm", "InvalidText", "InvalidPath", "PathNotFound", "NotRewritable", "TooLarge", "InvalidSize", "InvalidIndex", "InvalidWord", "InvalidStep", "InvalidElement", "InvalidModel", "NestingTooDeep", "InvalidLabel", "DuplicateName", "UnknownName", "LimitReached", "InvalidCommand", "EmptyHistory", "InvalidSnapshot"]
def en (i : Nat) : Str := enames.getD i ""
/-- where their classes stand -/
def Errs (mg : Str → Option Value) (cl : Nat → Addr) : Prop := ∀ i, i < 20 → mg (en i) = some (.ref (cl i))
/-- D's word is the j-th -/
structure Isw (K : PySem.W.Frag) (cl : Nat → Addr) (D : Addr) (j : Nat) : Prop where
  lt : j < 20
  kit : ∀ i, i < 20 → PySem.W.kitOne K (.ref D) (.ref (cl i)) = some (decide (i = j))
/-- the state between two rows: a list of n pairs -/
def NmI (H0 : Hp) (xh : Addr) (j n : Nat) (σ : L2.St) (H : Hp) : Prop := ∃ (L : Addr) (ps : List Addr), σ = [some (.ref xh), some (.ref L), none, none] ∧ Same H0 H ∧ ps.length = n ∧ H L = some (.lst (ps.map V.ref)) ∧
  ∀ i p, ps[i]? = some p → H p = some (.tup [.str (en i), .bl (decide (i = j))])
def tIs (K : PySem.W.Frag) (D xh c : Addr) : TE := fun σ H Q => tCons (tVar 0) (tCons (tC (.ref c)) tNil) σ H fun vs H1 => rIsB K D xh vs H1 Q
def tPr (K : PySem.W.Frag) (D xh : Addr) (cl : Nat → Addr) (i : Nat) : TE := tTup (tCons (tC (.str (en i))) (tCons (tIs K D xh (cl i)) tNil))
theorem tPr_ok {K : PySem.W.Frag} {D xh : Addr} {cl : Nat → Addr} {i j : Nat} {σ : L2.St} {H : Hp} {Q : VK} (hj : Isw K cl D j) (hi : i < 20) (e : σ[0]? = some (some (.ref xh))) (q : ∀ p, H p = none → Q (.ref p) (upd H p (.tup [.str (en i), .bl (decide (i = j))]))) : tPr K D xh cl i σ H Q := by
  exact ⟨_, e, _, _, _, rfl, .own _, hj.kit i hi, two_le, q⟩
theorem pairs_new {H0 H : Hp} {xh : Addr} {j n : Nat} {ps : List Addr} {p1 p2 : Addr} (hl : ps.length = n) (hp : ∀ i p, ps[i]? = some p → H p = some (.tup [.str (en i), .bl (decide (i = j))])) (n1 : H p1 = none)
    (n2 : upd H p1 (.tup [.str (en n), .bl (decide (n = j))]) p2 = none) :
    ∀ i p, (ps ++ [p1, p2])[i]? = some p → upd (upd H p1 (.tup [.str (en n), .bl (decide (n = j))])) p2 (.tup [.str (en (n + 1)), .bl (decide (n + 1 = j))]) p = some (.tup [.str (en i), .bl (decide (i = j))]) := by
  intro i p e
  have s1 := Same.new n1 (.tup [.str (en n), .bl (decide (n = j))])
  have s2 := Same.new n2 (.tup [.str (en (n + 1)), .bl (decide (n + 1 = j))])
  rcases Nat.lt_or_ge i ps.length with lt | ge
  · rw [List.getElem?_append_left lt] at e
    exact s2 _ _ (s1 _ _ (hp i p e))
  · rw [List.getElem?_append_right ge] at e
    obtain ⟨k, rfl⟩ : ∃ k, i = n + k := ⟨i - n, by omega⟩
    rw [show n + k - ps.length = k by omega] at e
    match k, e with
    | 0, e => cases e; exact s2 _ _ upd_same
    | 1, e => cases e; exact upd_same
theorem two_pr {K : PySem.W.Frag} {D xh : Addr} {cl : Nat → Addr} {i j : Nat} {σ : L2.St} {H : Hp} {Q : VK} (hj : Isw K cl D j) (hi : i + 1 < 20) (e : σ[0]? = some (some (.ref xh)))
    (q : ∀ p1 p2 L, H p1 = none → upd H p1 (.tup [.str (en i), .bl (decide (i = j))]) p2 = none → upd (upd H p1 (.tup [.str (en i), .bl (decide (i = j))])) p2 (.tup [.str (en (i + 1)), .bl (decide (i + 1 = j))]) L = none →
      Q (.ref L) (upd (upd (upd H p1 (.tup [.str (en i), .bl (decide (i = j))])) p2 (.tup [.str (en (i + 1)), .bl (decide (i + 1 = j))])) L (.lst [.ref p1, .ref p2]))) :
    tLst (tCons (tPr K D xh cl i) (tCons (tPr K D xh cl (i + 1)) tNil)) σ H Q := by
  show tPr K D xh cl i σ H (fun x H1 => tPr K D xh cl (i + 1) σ H1 fun y H2 => [x, y].length ≤ sizeLine ∧ ∀ p, H2 p = none → Q (.ref p) (upd H2 p (.lst [x, y])))
  refine tPr_ok hj (by omega) e fun p1 n1 => ?_
  refine tPr_ok hj hi e fun p2 n2 => ?_
  exact ⟨two_le, fun L nL => q p1 p2 L n1 n2 nL⟩
theorem nm_first {K : PySem.W.Frag} {D xh : Addr} {cl : Nat → Addr} {j : Nat} {H : Hp} {nx : L2.St → Hp → Prop} (hj : Isw K cl D j) (q : ∀ σ' H', NmI H xh j 2 σ' H' → nx σ' H') :
    tLst (tCons (tPr K D xh cl 0) (tCons (tPr K D xh cl 1) tNil)) [some (.ref xh), none, none, none] H fun x H1 => gName 1 x [some (.ref xh), none, none, none] H1 nx := by
  refine two_pr (i := 0) hj (by decide) rfl fun p1 p2 L n1 n2 nL => ?_
  have s3 := Same.new nL (.lst [.ref p1, .ref p2])
  exact q _ _ ⟨L, [p1, p2], rfl, ((Same.new n1 _).trans (Same.new n2 _)).trans s3, rfl, upd_same, fun i p e => s3 _ _ (pairs_new (ps := []) (n := 0) (H0 := H) (xh := xh) rfl (fun i p e => nomatch e) n1 n2 i p e)⟩
theorem nm_step {K : PySem.W.Frag} {D xh : Addr} {cl : Nat → Addr} {j n : Nat} {H0 H : Hp} {σ : L2.St} {nx : L2.St → Hp → Prop} (hj : Isw K cl D j) (hn : n + 1 < 20) (I : NmI H0 xh j n σ H) (q : ∀ σ' H', NmI H0 xh j (n + 2) σ' H' → nx σ' H') :
    tVar 1 σ H fun x H1 => (tLst (tCons (tPr K D xh cl n) (tCons (tPr K D xh cl (n + 1)) tNil))) σ H1 fun y H2 => rCat x y H2 fun z H3 => gName 1 z σ H3 nx := by
  obtain ⟨L, ps, rfl, sm, hl, hL, hp⟩ := I
  refine ⟨_, rfl, ?_⟩
  refine two_pr hj hn rfl fun p1 p2 b n1 n2 nb => ?_
  have s1 := (Same.new n1 (.tup [.str (en n), .bl (decide (n = j))])).trans (Same.new n2 (.tup [.str (en (n + 1)), .bl (decide (n + 1 = j))]))
  have s2 := Same.new nb (.lst [.ref p1, .ref p2])
  refine ⟨L, b, _, _, rfl, rfl, s2 _ _ (s1 _ _ hL), upd_same, ?_, fun r nr => ?_⟩
  · rw [List.length_map, hl]
    have : 100 ≤ sizeLine := by decide
    show n + 2 ≤ sizeLine
    omega
  · have s3 := Same.new nr (.lst (ps.map V.ref ++ [.ref p1, .ref p2]))
    refine q _ _ ⟨r, ps ++ [p1, p2], rfl, ((sm.trans s1).trans s2).trans s3, by rw [List.length_append, hl]; rfl, by rw [upd_same, List.map_append]; rfl, fun i p e => s3 _ _ (s2 _ _ (pairs_new (H0 := H) (xh := xh) hl hp n1 n2 i p e))⟩
theorem pe_no {X : Cx} {e : Expr} : PE X e (fun _ _ _ => False) := ⟨fun _ _ _ _ _ _ h => h.elim⟩
/-- a word without a field -/
def plainErr (j : Nat) : Bool := decide (j < 20) && !([1, 9, 17, 14, 15, 5, 19].contains j)
theorem plain_in3 : ∀ j, j < 20 → plainErr j = true → inV (.str (en j)) [.str (en 1), .str (en 9), .str (en 17)] = false := by decide +kernel
theorem plain_in2 : ∀ j, j < 20 → plainErr j = true → inV (.str (en j)) [.str (en 14), .str (en 15)] = false := by decide +kernel
theorem plain_big : ∀ j, j < 20 → plainErr j = true → decide (V.str (en j) = V.str (en 5)) = false := by decide +kernel
theorem plain_row : ∀ j, j < 20 → plainErr j = true → decide (V.str (en j) = V.str (en 19)) = false := by decide +kernel
theorem plain_lt {j : Nat} (h : plainErr j = true) : j < 20 := by
  unfold plainErr at h
  rw [Bool.and_eq_true] at h
  exact of_decide_eq_true h.1
theorem FnB.mono {P : Program} {w : World} {K : PySem.W.Frag} {mg : Str → Option Value} {base : Heap} {j k : Nat} {f : Addr} {fd : FuncData} {ps : List Str} {sp : Addr → Value → Option Addr → Sp} (F : FnB P w K mg base j f fd ps sp) (h : j ≤ k) : FnB P w K mg base k f fd ps sp :=
  fun A outer s H args us vs Q xh oh hr => F A outer s H args us vs Q xh oh (hr.mono h)
/-- the law's promise, its table empty -/
def spLawT (K : PySem.W.Frag) (Pt : Addr) : Sp := fun vs H Q _ => ∃ (a : Addr) (ns : List Int), vs = [.ref a] ∧ SqL K H a (ns.map V.int) ∧ H Pt = some (.tbl #[]) ∧ ∀ H', Q (.bl true) H'
/-- a def that may raise, with the context told -/
theorem Fun.okN {P : Program} {w : World} {K : PySem.W.Frag} {mg : Str → Option Value} {base : Heap} {x qual : Str} {st : Stmt} {f : Addr} {fd : FuncData} {N ps : List Str} {k : Nat} {sp : Sp} (F : L2.Fun K x qual st f fd) (S : FnScope N ps (defScope st)) (len : ∀ vs H Q E, sp vs H Q E → vs.length = ps.length)
    (hbody : ∀ (cdv : Value) (A : Around) (outer : List Env) (s : Shared) (H : Hp) (vs : List V) (Q : VK) (E : XK), Room k (A.deeper (PyProof.Rows.envOfC qual (defScope st) s.heap.objs.size f cdv)) → sp vs H Q E →
      ∃ t, PSs (cxOf (L2N.CX P w) P w K mg base N qual (defScope st) f cdv A outer s H E) (defBody st) t ∧ t { nx := fun _ H' => Q .non H', rt := Q } (L2.start N vs) H) : FnOk P w K mg base (L2N.CX P w) (k + 1) f fd ps sp := by
  obtain ⟨oc, od, kV, doc, pm, an, cdv, ct, osl, rfl, lk, hcd⟩ := F.ex
  exact fn_of lk hcd S len fun A outer s H vs Q E hr hsp => hbody cdv A outer s H vs Q E hr hsp
/-- what a raise of the class wants -/
structure ErrC (K : PySem.W.Frag) (mg : Str → Option Value) (x : Str) (C : Addr) : Prop where
  q : PySem.W.excIn K C [.type "ValueError", .type "Exception", .type "BaseException", .type "object"] "ValueError.__new__" = true
  g : mg x = some (.ref C)
  k : PySem.W.keepIn K (.ref C) = true
  b : PySem.W.subIn K (.ref C) (.type "BaseException") = some true
  t : PySem.W.typeIn K (.ref C) = some (.type "type")
theorem passF {X : Cx} : Passes (L2N.CX X.prog X.w) X (fun _ _ _ => False) := fun _ _ _ _ _ _ _ ⟨_, _, _, _, _, _, _, _, _, _, _, _, z⟩ => z.elim
theorem passL {X : Cx} {A : Around} {outer : List Env} {s : Shared} {H : Hp} {E : XK} {scope : Scope} {f c : Addr} : Passes (L2N.CX X.prog X.w) (lamCxN X A outer s H E scope f c) E :=
  L2C.passesN (X := lamCxN X A outer s H E scope f c) (L2C.takes_of rfl rfl rfl rfl)
theorem passLC {X : Cx} {A : Around} {outer : List Env} {s : Shared} {H : Hp} {E : XK} {scope : Scope} {f c : Addr} : Passes (L2C.CX X.prog X.w) (lamCxN X A outer s H E scope f c) E :=
  L2C.passes (X := lamCxN X A outer s H E scope f c) (L2C.takes_of rfl rfl rfl rfl)
theorem fourV {a b c d : V} : ([a, b, c, d] : List V).length ≤ sizeLine := by show 4 ≤ sizeLine; decide
theorem fiveV {a b c d e : V} : ([a, b, c, d, e] : List V).length ≤ sizeLine := by show 5 ≤ sizeLine; decide
theorem tabs_set {T : List (Addr × Str)} {H H' : Hp} {D : Addr} {xs : List V} (t : LamX.Tabs T H) (hD : H D = some (.lst xs)) (e : ∀ b o, b ≠ D → H b = some o → H' b = some o) : LamX.Tabs T H' := fun p hp => by
  obtain ⟨ps, h1, h2, h3⟩ := t p hp
  refine ⟨ps, e _ _ (fun z => by rw [z, hD] at h1; cases h1) h1, h2, fun pos cv ec => ?_⟩
  obtain ⟨c, rfl, hc⟩ := h3 pos cv ec
  exact ⟨c, rfl, e _ _ (fun z => by rw [z, hD] at hc; cases hc) hc⟩
theorem passD {P : Program} {w : World} {K : PySem.W.Frag} {mg : Str → Option Value} {base : Heap} {N : List Str} {q : Str} {sc : Scope} {f : Addr} {cdv : Value} {A : Around} {outer : List Env} {s : Shared} {H : Hp} {E : XK} : Passes (L2N.CX P w) (cxOf (L2N.CX P w) P w K mg base N q sc f cdv A outer s H E) E :=
  L2N.passes_call (X := cxOf (L2N.CX P w) P w K mg base N q sc f cdv A outer s H E) (W := fun cls d _ H => E cls d H) (L2N.takes_of rfl rfl rfl rfl) fun _ _ _ _ h => h
/-! ### nested tuples of any form -/
mutual
def tupD : PyData → Bool
  | .tuple xs => tupL xs
  | .none | .bool _ | .int _ | .str _ | .list _ | .dict _ => false
def tupL : List PyData → Bool
  | [] => true
  | x :: xs => tupD x && tupL xs
end
mutual
def ndD : PyData → Nat
  | .tuple xs => ndL xs + 1
  | .none | .bool _ | .int _ | .str _ | .list _ | .dict _ => 1
def ndL : List PyData → Nat
  | [] => 0
  | x :: xs => ndD x + ndL xs
end
def add2 : Option Nat → Option Nat → Option Nat
  | some a, some b => some (a + b)
  | _, _ => none
theorem add2_none (o : Option Nat) : add2 o none = none := by cases o <;> rfl
theorem add2_assoc (a b c : Option Nat) : add2 (add2 a b) c = add2 a (add2 b c) := by
  cases a <;> cases b <;> cases c <;> first | rfl | exact congrArg some (Nat.add_assoc _ _ _)
theorem add2_zero (a : Option Nat) : add2 a (some 0) = a := by cases a <;> rfl
/-- how many generators, where the depth is at most b -/
def szD : Nat → PyData → Option Nat
  | _, .tuple [] => some 1
  | b + 1, .tuple [x, y] => add2 (szD b x) (szD b y)
  | _, _ => none
def okd (d : PyData) : Bool := match szD 6 d with
  | some n => decide (n ≤ 12)
  | none => false
def isPr : PyData → Bool
  | .tuple [_, _] => true
  | _ => false
def isE : PyData → Bool
  | .tuple [] => true
  | _ => false
theorem eqvE {d : PyData} (h : tupD d = true) : PyData.eqv d (.tuple []) = isE d := by
  cases d with
  | tuple xs => cases xs <;> rfl
  | none => exact absurd h (by decide)
  | bool _ => exact absurd h (by simp [tupD])
  | int _ => exact absurd h (by simp [tupD])
  | str _ => exact absurd h (by simp [tupD])
  | list _ => exact absurd h (by simp [tupD])
  | dict _ => exact absurd h (by simp [tupD])
theorem szD_E (b : Nat) : szD b (.tuple []) = some 1 := by cases b <;> rfl
theorem szD_pr (b : Nat) (x y : PyData) : szD (b + 1) (.tuple [x, y]) = add2 (szD b x) (szD b y) := rfl
theorem szD_bad {b : Nat} {d : PyData} (h1 : isE d = false) (h2 : isPr d = false ∨ b = 0) : szD b d = none := by
  cases d with
  | tuple xs =>
    match xs, b, h1, h2 with
    | [], _, h1, _ => exact absurd h1 (by decide)
    | [x, y], 0, _, _ => rfl
    | [x, y], b + 1, _, .inl h => exact Bool.noConfusion h
    | [x], 0, _, _ => rfl
    | [x], b + 1, _, _ => rfl
    | x :: y :: z :: r, 0, _, _ => rfl
    | x :: y :: z :: r, b + 1, _, _ => rfl
  | none => cases b <;> rfl
  | bool _ => cases b <;> rfl
  | int _ => cases b <;> rfl
  | str _ => cases b <;> rfl
  | list _ => cases b <;> rfl
  | dict _ => cases b <;> rfl
def rem : List (V × PyData × Nat) → Option Nat
  | [] => some 0
  | p :: ps => add2 (szD (6 - p.2.2) p.2.1) (rem ps)
theorem rem_app : ∀ ps qs : List (V × PyData × Nat), rem (ps ++ qs) = add2 (rem ps) (rem qs)
  | [], qs => by
    show rem qs = add2 (some 0) (rem qs)
    cases rem qs with
    | none => rfl
    | some n => exact congrArg some (Nat.zero_add n).symm
  | p :: ps, qs => by
    show add2 (szD (6 - p.2.2) p.2.1) (rem (ps ++ qs)) = add2 (add2 (szD (6 - p.2.2) p.2.1) (rem ps)) (rem qs)
    rw [rem_app ps qs, add2_assoc]
theorem rem_snoc (ps : List (V × PyData × Nat)) (p : V × PyData × Nat) : rem (ps ++ [p]) = add2 (rem ps) (szD (6 - p.2.2) p.2.1) := by
  rw [rem_app]
  show add2 (rem ps) (add2 _ (some 0)) = _
  rw [add2_zero]
def fnl (n : Nat) : Option Nat → Bool
  | some m => decide (n + m ≤ 12)
  | none => false
theorem fnl_one (n : Nat) (o : Option Nat) : fnl n (add2 o (some 1)) = fnl (n + 1) o := by
  cases o with
  | none => rfl
  | some m =>
    show decide (n + (m + 1) ≤ 12) = decide (n + 1 + m ≤ 12)
    rw [show n + (m + 1) = n + 1 + m by omega]
theorem fnl_big {n : Nat} (h : 12 < n) (o : Option Nat) : fnl n o = false := by
  cases o with
  | none => rfl
  | some m => exact decide_eq_false (by omega)
theorem okd_fnl (v : V) (d : PyData) : okd d = fnl 0 (rem [(v, d, 0)]) := by
  show okd d = fnl 0 (add2 (szD 6 d) (some 0))
  rw [add2_zero]
  unfold okd
  cases szD 6 d with
  | none => rfl
  | some n =>
    show decide (n ≤ 12) = decide (0 + n ≤ 12)
    rw [Nat.zero_add]
def ndn (ps : List (V × PyData × Nat)) : Nat := (ps.map fun p => ndD p.2.1).sum
theorem ndn_snoc (ps : List (V × PyData × Nat)) (p) : ndn (ps ++ [p]) = ndn ps + ndD p.2.1 := by
  unfold ndn
  rw [List.map_append, List.sum_append]
  simp
theorem ndD_pos : ∀ d : PyData, 0 < ndD d := by
  intro d
  cases d with
  | tuple xs => exact Nat.succ_pos _
  | none => decide
  | bool _ => exact Nat.one_pos
  | int _ => exact Nat.one_pos
  | str _ => exact Nat.one_pos
  | list _ => exact Nat.one_pos
  | dict _ => exact Nat.one_pos
theorem ndn_len : ∀ ps : List (V × PyData × Nat), ps.length ≤ ndn ps
  | [] => Nat.zero_le _
  | p :: ps => by
    have h := ndn_len ps
    have h2 := ndD_pos p.2.1
    show ps.length + 1 ≤ (ndD p.2.1 :: ps.map fun p => ndD p.2.1).sum
    rw [List.sum_cons]
    unfold ndn at h
    omega
/-- a value that is a nested tuple -/
structure NT (K : PySem.W.Frag) (H : Hp) (v : V) (d : PyData) : Prop where
  dp : Dp K H v d
  tup : tupD d = true
  shp : SeqAt.shaped d = true
mutual
theorem dp_tp {K : PySem.W.Frag} {H H' : Hp} (e : Tp H H') : ∀ (d : PyData) {v : V}, tupD d = true → Dp K H v d → Dp K H' v d
  | .tuple ds, _, t, h => by
    cases h with
    | tup hs ha => exact .tup (e.sqT hs) (dpAll_tpD e ds t ha)
  | .none, _, t, _ => absurd t (by decide)
  | .bool _, _, t, _ => absurd t (by simp [tupD])
  | .int _, _, t, _ => absurd t (by simp [tupD])
  | .str _, _, t, _ => absurd t (by simp [tupD])
  | .list _, _, t, _ => absurd t (by simp [tupD])
  | .dict _, _, t, _ => absurd t (by simp [tupD])
theorem dpAll_tpD {K : PySem.W.Frag} {H H' : Hp} (e : Tp H H') : ∀ (ds : List PyData) {vs : List V}, tupL ds = true → DpAll K H vs ds → DpAll K H' vs ds
  | [], _, _, h => by
    cases h
    exact .nil
  | d :: ds, _, t, h => by
    have t' : tupD d = true ∧ tupL ds = true := Bool.and_eq_true_iff.mp t
    cases h with
    | cons h1 h2 => exact .cons (dp_tp e d t'.1 h1) (dpAll_tpD e ds t'.2 h2)
end
theorem NT.tp {K : PySem.W.Frag} {H H' : Hp} {v : V} {d : PyData} (e : Tp H H') (h : NT K H v d) : NT K H' v d := ⟨dp_tp e d h.tup h.dp, h.tup, h.shp⟩
theorem NT.inv {K : PySem.W.Frag} {H : Hp} {v : V} {d : PyData} (h : NT K H v d) : ∃ a xs ds, v = .ref a ∧ d = .tuple ds ∧ SqT K H a xs ∧ DpAll K H xs ds := by
  obtain ⟨h1, h2, _⟩ := h
  cases h1 with
  | tup hs ha => exact ⟨_, _, _, rfl, rfl, hs, ha⟩
  | non => exact absurd h2 (by decide)
  | bl b => exact absurd h2 (by simp [tupD])
  | int i => exact absurd h2 (by simp [tupD])
  | str z => exact absurd h2 (by simp [tupD])
  | lst _ _ => exact absurd h2 (by simp [tupD])
theorem shaped_sub {ds : List PyData} {d : PyData} (h : SeqAt.shaped (.tuple ds) = true) (hm : d ∈ ds) : SeqAt.shaped d = true := by
  have hc : PyData.canLayAll0 ds = true := SeqAt.canLay_of_shaped h
  have hd := SeqAt.depth_of_shaped h
  have hd' : (PyData.tuple ds).depth = PyData.depthAll ds + 1 := rfl
  have hdi := depth_at hm
  unfold SeqAt.shaped
  rw [shaped_at hc hm, decide_eq_true (by omega)]
  rfl
theorem NT.pr {K : PySem.W.Frag} {H : Hp} {v : V} {d : PyData} (h : NT K H v d) (hp : isPr d = true) : ∃ a x y d1 d2, v = .ref a ∧ d = .tuple [d1, d2] ∧ SqT K H a [x, y] ∧ NT K H x d1 ∧ NT K H y d2 := by
  obtain ⟨a, xs, ds, rfl, rfl, hS, hA⟩ := h.inv
  obtain ⟨d1, d2, rfl⟩ : ∃ d1 d2, ds = [d1, d2] := by
    rcases ds with _ | ⟨d1, _ | ⟨d2, _ | ⟨d3, r⟩⟩⟩
    · exact absurd hp (by simp [isPr])
    · exact absurd hp (by simp [isPr])
    · exact ⟨d1, d2, rfl⟩
    · exact absurd hp (by simp [isPr])
  cases hA with
  | cons h1 h2 =>
    cases h2 with
    | cons h2 h3 =>
      cases h3
      have t : (tupD d1 && (tupD d2 && true)) = true := h.tup
      have t1 := Bool.and_eq_true_iff.mp t
      have t2 := Bool.and_eq_true_iff.mp t1.2
      exact ⟨a, _, _, d1, d2, rfl, rfl, hS, ⟨h1, t1.1, shaped_sub h.shp (by simp)⟩, ⟨h2, t2.1, shaped_sub h.shp (by simp)⟩⟩
theorem tree_tup : ∀ t : Tree, tupD t.d = true
  | .L => rfl
  | .N l r => by
    show (tupD l.d && (tupD r.d && true)) = true
    rw [tree_tup l, tree_tup r]
    rfl
theorem tree_nd : ∀ t : Tree, ndD t.d = t.nodes
  | .L => rfl
  | .N l r => by
    show ndD l.d + (ndD r.d + 0) + 1 = l.nodes + r.nodes + 1
    rw [tree_nd l, tree_nd r]
    omega
theorem tree_nodes : ∀ t : Tree, t.nodes + 1 = 2 * t.sz
  | .L => rfl
  | .N l r => by
    have h1 := tree_nodes l
    have h2 := tree_nodes r
    show l.nodes + r.nodes + 1 + 1 = 2 * (l.sz + r.sz)
    omega
theorem tree_szD : ∀ (t : Tree) (b : Nat), szD b t.d = if t.dp ≤ b then some t.sz else none
  | .L, b => by
    show szD b (.tuple []) = if 0 ≤ b then some 1 else none
    rw [if_pos (Nat.zero_le _)]
    exact szD_E b
  | .N l r, 0 => by
    show none = if max l.dp r.dp + 1 ≤ 0 then some (l.sz + r.sz) else none
    rw [if_neg (by omega)]
  | .N l r, b + 1 => by
    show add2 (szD b l.d) (szD b r.d) = if max l.dp r.dp + 1 ≤ b + 1 then some (l.sz + r.sz) else none
    rw [tree_szD l b, tree_szD r b]
    by_cases h1 : l.dp ≤ b
    · by_cases h2 : r.dp ≤ b
      · rw [if_pos h1, if_pos h2, if_pos (by omega)]
        rfl
      · rw [if_neg h2, add2_none, if_neg (show ¬ (max l.dp r.dp + 1 ≤ b + 1) by omega)]
    · rw [if_neg h1, if_neg (show ¬ (max l.dp r.dp + 1 ≤ b + 1) by omega)]
      rfl
theorem tree_okd (t : Tree) : okd t.d = (decide (t.dp ≤ 6) && decide (t.sz ≤ 12)) := by
  unfold okd
  rw [tree_szD]
  by_cases h : t.dp ≤ 6
  · rw [if_pos h, decide_eq_true h]
    rfl
  · rw [if_neg h, decide_eq_false h]
    rfl
theorem szD_tree : ∀ (b : Nat) (d : PyData) (n : Nat), szD b d = some n → ∃ t : Tree, d = t.d ∧ t.sz = n ∧ t.dp ≤ b := by
  intro b
  induction b with
  | zero =>
    intro d n h
    by_cases e : isE d = true
    · cases d with
      | tuple xs =>
        cases xs with
        | nil => exact ⟨.L, rfl, Option.some.inj h, Nat.zero_le _⟩
        | cons _ _ => exact absurd e (by simp [isE])
      | none => exact absurd e (by simp [isE])
      | bool _ => exact absurd e (by simp [isE])
      | int _ => exact absurd e (by simp [isE])
      | str _ => exact absurd e (by simp [isE])
      | list _ => exact absurd e (by simp [isE])
      | dict _ => exact absurd e (by simp [isE])
    · rw [szD_bad (by simpa using e) (.inr rfl)] at h
      cases h
  | succ b ih =>
    intro d n h
    by_cases e : isE d = true
    · cases d with
      | tuple xs =>
        cases xs with
        | nil => exact ⟨.L, rfl, Option.some.inj h, Nat.zero_le _⟩
        | cons _ _ => exact absurd e (by simp [isE])
      | none => exact absurd e (by simp [isE])
      | bool _ => exact absurd e (by simp [isE])
      | int _ => exact absurd e (by simp [isE])
      | str _ => exact absurd e (by simp [isE])
      | list _ => exact absurd e (by simp [isE])
      | dict _ => exact absurd e (by simp [isE])
    · by_cases e2 : isPr d = true
      · cases d with
        | tuple xs =>
          match xs, e2, h with
          | [x, y], _, h =>
            have h0 : add2 (szD b x) (szD b y) = some n := h
            clear h
            cases h1 : szD b x with
            | none => rw [h1] at h0; cases h0
            | some m =>
              cases h2 : szD b y with
              | none => rw [h2, add2_none] at h0; cases h0
              | some k =>
                rw [h1, h2] at h0
                have h' : m + k = n := Option.some.inj h0
                obtain ⟨t1, rfl, q1, r1⟩ := ih x m h1
                obtain ⟨t2, rfl, q2, r2⟩ := ih y k h2
                exact ⟨.N t1 t2, rfl, by show t1.sz + t2.sz = n; omega, by show max t1.dp t2.dp + 1 ≤ b + 1; omega⟩
        | none => exact absurd e2 (by simp [isPr])
        | bool _ => exact absurd e2 (by simp [isPr])
        | int _ => exact absurd e2 (by simp [isPr])
        | str _ => exact absurd e2 (by simp [isPr])
        | list _ => exact absurd e2 (by simp [isPr])
        | dict _ => exact absurd e2 (by simp [isPr])
      · rw [szD_bad (by simpa using e) (.inl (by simpa using e2))] at h
        cases h
theorem okd_tree {d : PyData} (h : okd d = true) : ∃ t : Tree, d = t.d ∧ t.sz ≤ 12 ∧ t.dp ≤ 6 := by
  unfold okd at h
  cases e : szD 6 d with
  | none => rw [e] at h; cases h
  | some n =>
    rw [e] at h
    obtain ⟨t, h1, h2, h3⟩ := szD_tree 6 d n e
    exact ⟨t, h1, by rw [h2]; exact of_decide_eq_true h, h3⟩
theorem NT.of {K : PySem.W.Frag} {H : Hp} {v : V} {t : Tree} (h : TA K H v t) (hd : t.dp ≤ 63) : NT K H v t.d := ⟨h, tree_tup t, Tree.shaped hd⟩
def spIsPairD (K : PySem.W.Frag) : Sp := fun vs H Q _ => ∃ (v : V) (d : PyData), vs = [v] ∧ NT K H v d ∧ Q (.bl (isPr d)) H
def spIsTerm (K : PySem.W.Frag) : Sp := fun vs H Q _ => ∃ (v : V) (d : PyData), vs = [v] ∧ NT K H v d ∧ ndD d ≤ 1000 ∧ ∀ H', Same H H' → Q (.bl (okd d)) H'
/-- check_term: nothing, or the error -/
def spChk (K : PySem.W.Frag) (C : Addr) : Sp := fun vs H Q E => ∃ (v : V) (d : PyData), vs = [v] ∧ NT K H v d ∧ ndD d ≤ 1000 ∧ (okd d = true → ∀ H', Same H H' → Q .non H') ∧ (okd d = false → ∀ H', Same H H' → E (.ref C) none H')
def ItemD (K : PySem.W.Frag) (H : Hp) (p : V × PyData × Nat) : Prop := ∃ (a : Addr) (u : V), p.1 = .ref a ∧ SqT K H a [u, .int p.2.2] ∧ NT K H u p.2.1 ∧ p.2.2 ≤ 6
theorem ItemD.mono {K : PySem.W.Frag} {H H' : Hp} (e : Tp H H') {p : V × PyData × Nat} (h : ItemD K H p) : ItemD K H' p := by
  obtain ⟨a, u, h1, h2, h3, h4⟩ := h
  exact ⟨a, u, h1, e.sqT h2, h3.tp e, h4⟩
/-! ### picking -/
theorem But.sqL {K : PySem.W.Frag} {r l : Addr} {H H' : Hp} {xs : List V} (e : But r H H') (n : l ≠ r) (h : SqL K H l xs) : SqL K H' l xs := by
  rcases h with (h | ⟨o, h⟩) | h
  · exact .inl (.inl (e _ _ n h))
  · exact .inl (.inr ⟨o, e _ _ n h⟩)
  · exact .inr h
theorem But.sqT {K : PySem.W.Frag} {r l : Addr} {H H' : Hp} {xs : List V} (e : But r H H') (n : l ≠ r) (h : SqT K H l xs) : SqT K H' l xs := by
  rcases h with (h | ⟨o, h⟩) | h
  · exact .inl (.inl (e _ _ n h))
  · exact .inl (.inr ⟨o, e _ _ n h⟩)
  · exact .inr h
def spPick (K : PySem.W.Frag) : Sp := fun vs H Q _ => ∃ (r l : Addr) (xs : List V), vs = [.ref r, .ref l] ∧ Rng H r ∧ (SqL K H l xs ∨ SqT K H l xs) ∧ 0 < xs.length ∧ xs.length ≤ 10000 ∧ l ≠ r ∧ ∀ v H', v ∈ xs → Rng H' r → But r H H' → Q v H'
theorem rix_in {K : PySem.W.Frag} {H : Hp} {a : Addr} {xs : List V} {n : Int} {Q : VK} (h : SqL K H a xs ∨ SqT K H a xs) (h0 : 0 ≤ n) (h1 : n < xs.length) (q : ∀ v, v ∈ xs → Q v H) : rIx K (.ref a) (.int n) H Q := by
  have lt : n.toNat < xs.length := by omega
  obtain ⟨v, hi⟩ : ∃ v, xs[n.toNat]? = some v := ⟨_, List.getElem?_eq_getElem lt⟩
  have hq := q v (List.mem_of_getElem? hi)
  have e : atI xs n = some v := by
    have e : n = ((n.toNat : Nat) : Int) := by omega
    rw [e]
    exact atI_nat hi
  rcases h with h | h
  · exact .inl ⟨a, xs, n, v, rfl, rfl, h, e, hq⟩
  · exact .inr (.inl ⟨a, xs, n, v, rfl, rfl, h, e, hq⟩)
/-! ### written nested tuples -/
def Mk (K : PySem.W.Frag) (te : TE) (d : PyData) : Prop := ∀ σ H (Q : VK), (∀ v H', Same H H' → Dp K H' v d → Q v H') → te σ H Q
theorem mk0 {K : PySem.W.Frag} : Mk K (tTup tNil) (.tuple []) := fun σ H Q q => ⟨zero_le', fun p np => q _ _ (Same.new np _) (Dp.tup (SqT.here upd_same) .nil)⟩
theorem mk1 {K : PySem.W.Frag} {e : TE} {d : PyData} (h : Mk K e d) : Mk K (tTup (tCons e tNil)) (.tuple [d]) := fun σ H Q q =>
  h σ H _ fun v H1 s1 h1 => ⟨one_le, fun p np => q _ _ (s1.trans (Same.new np _)) (Dp.tup (SqT.here upd_same) (.cons (dp_same (Same.new np _) _ h1) .nil))⟩
theorem mk2 {K : PySem.W.Frag} {e1 e2 : TE} {d1 d2 : PyData} (h : Mk K e1 d1) (h' : Mk K e2 d2) : Mk K (tTup (tCons e1 (tCons e2 tNil))) (.tuple [d1, d2]) := fun σ H Q q =>
  h σ H _ fun v H1 s1 h1 => h' σ H1 _ fun v2 H2 s2 h2 => ⟨two_le, fun p np => q _ _ ((s1.trans s2).trans (Same.new np _)) (Dp.tup (SqT.here upd_same) (.cons (dp_same (s2.trans (Same.new np _)) _ h1) (.cons (dp_same (Same.new np _) _ h2) .nil)))⟩
theorem mk3 {K : PySem.W.Frag} {e1 e2 e3 : TE} {d1 d2 d3 : PyData} (h : Mk K e1 d1) (h' : Mk K e2 d2) (h'' : Mk K e3 d3) : Mk K (tTup (tCons e1 (tCons e2 (tCons e3 tNil)))) (.tuple [d1, d2, d3]) := fun σ H Q q =>
  h σ H _ fun v H1 s1 h1 => h' σ H1 _ fun v2 H2 s2 h2 => h'' σ H2 _ fun v3 H3 s3 h3 => ⟨by show 3 ≤ sizeLine; decide, fun p np => q _ _ (((s1.trans s2).trans s3).trans (Same.new np _)) (Dp.tup (SqT.here upd_same) (.cons (dp_same ((s2.trans s3).trans (Same.new np _)) _ h1) (.cons (dp_same (s3.trans (Same.new np _)) _ h2) (.cons (dp_same (Same.new np _) _ h3) .nil))))⟩
theorem lst5 {K : PySem.W.Frag} {e1 e2 e3 e4 e5 : TE} {d1 d2 d3 d4 d5 : PyData} (h1 : Mk K e1 d1) (h2 : Mk K e2 d2) (h3 : Mk K e3 d3) (h4 : Mk K e4 d4) (h5 : Mk K e5 d5) {i : Nat} {B : TS} {D : Ends} {σ : L2.St} {H : Hp}
    (q : ∀ a v1 v2 v3 v4 v5 H', Same H H' → H a = none → H' a = some (.lst [v1, v2, v3, v4, v5]) → DpAll K H' [v1, v2, v3, v4, v5] [d1, d2, d3, d4, d5] → B D (σ.set i (some (.ref a))) H') : tSeq (tAsg (tLst (tCons e1 (tCons e2 (tCons e3 (tCons e4 (tCons e5 tNil)))))) (gName i)) B D σ H :=
  h1 σ H _ fun v1 H1 s1 k1 => h2 σ H1 _ fun v2 H2 s2 k2 => h3 σ H2 _ fun v3 H3 s3 k3 => h4 σ H3 _ fun v4 H4 s4 k4 => h5 σ H4 _ fun v5 H5 s5 k5 => ⟨fiveV, fun a na => by
    have sa := Same.new na (.lst [v1, v2, v3, v4, v5])
    exact q a v1 v2 v3 v4 v5 _ (s1.trans (s2.trans (s3.trans (s4.trans (s5.trans sa))))) ((s1.trans (s2.trans (s3.trans (s4.trans s5)))).free na) upd_same
      (.cons (dp_same (s2.trans (s3.trans (s4.trans (s5.trans sa)))) _ k1) (.cons (dp_same (s3.trans (s4.trans (s5.trans sa))) _ k2) (.cons (dp_same (s4.trans (s5.trans sa)) _ k3) (.cons (dp_same (s5.trans sa) _ k4) (.cons (dp_same sa _ k5) .nil)))))⟩
/-- a value that no term is -/
def BadV (K : PySem.W.Frag) (H : Hp) (v : V) : Prop := ∃ d, NT K H v d ∧ ndD d ≤ 1000 ∧ okd d = false
theorem BadV.tp {K : PySem.W.Frag} {H H' : Hp} {v : V} (e : Tp H H') (h : BadV K H v) : BadV K H' v := by
  obtain ⟨d, h1, h2⟩ := h
  exact ⟨d, h1.tp e, h2⟩
def spBadT (K : PySem.W.Frag) : Sp := fun vs H Q _ => ∃ r : Addr, vs = [.ref r] ∧ Rng H r ∧ ∀ v H', BadV K H' v → Rng H' r → But r H H' → Q v H'
theorem BadV.tree {K : PySem.W.Frag} {H : Hp} {v : V} {t : Tree} (h : TA K H v t) (hd : t.dp ≤ 63) (hz : t.sz ≤ 100) (no : 6 < t.dp ∨ 12 < t.sz) : BadV K H v := by
  have e := tree_nodes t
  refine ⟨t.d, NT.of h hd, by rw [tree_nd]; omega, ?_⟩
  rw [tree_okd]
  rcases no with no | no
  · rw [decide_eq_false (by omega)]
    rfl
  · rw [decide_eq_false (show ¬ t.sz ≤ 12 by omega), Bool.and_false]
/-! ### full expansions -/
namespace Tree
def sub : Tree → Tree → Tree
  | L, a => N a L
  | N l r, a => N (l.sub a) (r.sub a)
def fe : Tree → Tree
  | L => L
  | N a b => b.fe.sub a.fe
def fsz : Tree → Nat
  | L => 1
  | N a b => (a.fsz + 1) * b.fsz
theorem sub_sz (a : Tree) : ∀ b : Tree, (b.sub a).sz = (a.sz + 1) * b.sz
  | L => by
    show a.sz + 1 = (a.sz + 1) * 1
    omega
  | N l r => by
    show (l.sub a).sz + (r.sub a).sz = (a.sz + 1) * (l.sz + r.sz)
    rw [sub_sz a l, sub_sz a r, Nat.mul_add]
theorem fe_sz : ∀ t : Tree, t.fe.sz = t.fsz
  | L => rfl
  | N a b => by
    show (b.fe.sub a.fe).sz = (a.fsz + 1) * b.fsz
    rw [sub_sz, fe_sz a, fe_sz b]
theorem fsz_pos (t : Tree) : 0 < t.fsz := by
  rw [← fe_sz]
  exact sz_pos _
theorem fsz_le : ∀ t : Tree, t.fsz + 1 ≤ 4 ^ t.sz
  | L => by decide
  | N a b => by
    have h1 := fsz_le a
    have h2 := fsz_le b
    show (a.fsz + 1) * b.fsz + 1 ≤ 4 ^ (a.sz + b.sz)
    rw [Nat.pow_add]
    have h3 : (a.fsz + 1) * (b.fsz + 1) ≤ 4 ^ a.sz * 4 ^ b.sz := Nat.mul_le_mul h1 h2
    rw [Nat.mul_succ] at h3
    omega
theorem sub_dp (a : Tree) : ∀ b : Tree, (b.sub a).dp ≤ b.dp + a.dp + 1
  | L => by
    show max a.dp 0 + 1 ≤ 0 + a.dp + 1
    omega
  | N l r => by
    have h1 := sub_dp a l
    have h2 := sub_dp a r
    show max (l.sub a).dp (r.sub a).dp + 1 ≤ max l.dp r.dp + 1 + a.dp + 1
    omega
theorem fe_dp : ∀ t : Tree, t.fe.dp + 1 ≤ t.sz
  | L => Nat.le_refl _
  | N a b => by
    have h1 := fe_dp a
    have h2 := fe_dp b
    have h3 := sub_dp a.fe b.fe
    show (b.fe.sub a.fe).dp + 1 ≤ a.sz + b.sz
    omega
/-- an expansion at the root, at a path -/
def ex0 : Tree → Option Tree
  | N a (N b c) => some (N (N a b) (N a c))
  | N _ L => none
  | L => none
def ex : Tree → List Bool → Option Tree
  | t, [] => t.ex0
  | L, _ :: _ => none
  | N l r, b :: p => match b with
    | false => (l.ex p).map fun l' => N l' r
    | true => (r.ex p).map fun r' => N l r'
theorem ex_nil (t : Tree) : t.ex [] = t.ex0 := by cases t <;> rfl
theorem ex_0 (l r : Tree) (p : List Bool) : (N l r).ex (false :: p) = (l.ex p).map fun l' => N l' r := rfl
theorem ex_1 (l r : Tree) (p : List Bool) : (N l r).ex (true :: p) = (r.ex p).map fun r' => N l r' := rfl
def rl : Tree → List (List Bool) → Option Tree
  | t, [] => some t
  | t, p :: ps => (t.ex p).bind fun t' => t'.rl ps
theorem rl_app : ∀ (ps qs : List (List Bool)) (t : Tree), t.rl (ps ++ qs) = (t.rl ps).bind fun t' => t'.rl qs
  | [], _, _ => rfl
  | p :: ps, qs, t => by
    show (t.ex p).bind (fun t' => t'.rl (ps ++ qs)) = ((t.ex p).bind fun t' => t'.rl ps).bind fun t' => t'.rl qs
    cases t.ex p with
    | none => rfl
    | some t' => exact rl_app ps qs t'
theorem rl_0 : ∀ (ps : List (List Bool)) (l r l' : Tree), l.rl ps = some l' → (N l r).rl (ps.map (false :: ·)) = some (N l' r)
  | [], l, r, l', h => by
    cases h
    rfl
  | p :: ps, l, r, l', h => by
    have h : (l.ex p).bind (fun t' => t'.rl ps) = some l' := h
    show ((N l r).ex (false :: p)).bind (fun t' => t'.rl (ps.map (false :: ·))) = _
    rw [ex_0]
    cases e : l.ex p with
    | none =>
      rw [e] at h
      cases h
    | some m =>
      rw [e] at h
      exact rl_0 ps m r l' h
theorem rl_1 : ∀ (ps : List (List Bool)) (l r r' : Tree), r.rl ps = some r' → (N l r).rl (ps.map (true :: ·)) = some (N l r')
  | [], l, r, r', h => by
    cases h
    rfl
  | p :: ps, l, r, r', h => by
    have h : (r.ex p).bind (fun t' => t'.rl ps) = some r' := h
    show ((N l r).ex (true :: p)).bind (fun t' => t'.rl (ps.map (true :: ·))) = _
    rw [ex_1]
    cases e : r.ex p with
    | none =>
      rw [e] at h
      cases h
    | some m =>
      rw [e] at h
      exact rl_1 ps l m r' h
/-- the paths of the pairs, in the order of texts -/
def nd : Tree → List (List Bool)
  | L => []
  | N l r => [] :: (l.nd.map (false :: ·) ++ r.nd.map (true :: ·))
def fp : Tree → List (List Bool)
  | L => []
  | N a b => (a.fp.map (false :: ·) ++ b.fp.map (true :: ·)) ++ b.fe.nd
theorem rl_nd (a : Tree) : ∀ b : Tree, (N a b).rl b.nd = some (b.sub a)
  | L => rfl
  | N l r => by
    show ((N a (N l r)).ex []).bind (fun t' => t'.rl (l.nd.map (false :: ·) ++ r.nd.map (true :: ·))) = _
    show (N (N a l) (N a r)).rl (l.nd.map (false :: ·) ++ r.nd.map (true :: ·)) = _
    rw [rl_app, rl_0 l.nd (N a l) (N a r) (l.sub a) (rl_nd a l)]
    exact rl_1 r.nd (l.sub a) (N a r) (r.sub a) (rl_nd a r)
theorem rl_fp : ∀ t : Tree, t.rl t.fp = some t.fe
  | L => rfl
  | N a b => by
    show (N a b).rl ((a.fp.map (false :: ·) ++ b.fp.map (true :: ·)) ++ b.fe.nd) = _
    rw [rl_app, rl_app, rl_0 a.fp a b a.fe (rl_fp a)]
    show ((N a.fe b).rl (b.fp.map (true :: ·))).bind (fun t' => t'.rl b.fe.nd) = _
    rw [rl_1 b.fp a.fe b b.fe (rl_fp b)]
    exact rl_nd a.fe b.fe
theorem ex_dp : ∀ (t : Tree) (p : List Bool) (t' : Tree), t.ex p = some t' → t.dp ≤ t'.dp
  | N a (N b c), [], t', h => by
    cases h
    show max a.dp (max b.dp c.dp + 1) + 1 ≤ max (max a.dp b.dp + 1) (max a.dp c.dp + 1) + 1
    omega
  | N _ L, [], _, h => by cases h
  | L, [], _, h => by cases h
  | L, _ :: _, _, h => by cases h
  | N l r, false :: p, t', h => by
    rw [ex_0] at h
    cases e : l.ex p with
    | none =>
      rw [e] at h
      cases h
    | some m =>
      rw [e] at h
      cases h
      have := ex_dp l p m e
      show max l.dp r.dp + 1 ≤ max m.dp r.dp + 1
      omega
  | N l r, true :: p, t', h => by
    rw [ex_1] at h
    cases e : r.ex p with
    | none =>
      rw [e] at h
      cases h
    | some m =>
      rw [e] at h
      cases h
      have := ex_dp r p m e
      show max l.dp r.dp + 1 ≤ max l.dp m.dp + 1
      omega
theorem rl_dp : ∀ (ps : List (List Bool)) (t t' : Tree), t.rl ps = some t' → t.dp ≤ t'.dp
  | [], t, t', h => by
    cases h
    exact Nat.le_refl _
  | p :: ps, t, t', h => by
    have h : (t.ex p).bind (fun t' => t'.rl ps) = some t' := h
    cases e : t.ex p with
    | none =>
      rw [e] at h
      cases h
    | some m =>
      rw [e] at h
      exact Nat.le_trans (ex_dp t p m e) (rl_dp ps m t' h)
end Tree
/-! ### texts of paths -/
def pcs (p : List Bool) : List Nat := p.map fun b => if b then 49 else 48
def ptx (p : List Bool) : Str := ⟨(pcs p).toArray⟩
def Tree.st : Tree → List Bool → Option Tree
  | t, [] => some t
  | .L, _ :: _ => none
  | .N l r, b :: p => if b then r.st p else l.st p
def Tree.rp : Tree → List Bool → Tree → Option Tree
  | _, [], u => some u
  | .L, _ :: _, _ => none
  | .N l r, b :: p, u => if b then (r.rp p u).map fun r' => .N l r' else (l.rp p u).map fun l' => .N l' r
theorem Tree.st_nil (t : Tree) : t.st [] = some t := by cases t <;> rfl
theorem Tree.rp_nil (t u : Tree) : t.rp [] u = some u := by cases t <;> rfl
theorem Tree.ex_parts : ∀ (t : Tree) (p : List Bool) (t' : Tree), t.ex p = some t' → ∃ u u', t.st p = some u ∧ u.ex0 = some u' ∧ t.rp p u' = some t'
  | t, [], t', h => ⟨t, t', t.st_nil, by rw [← ex_nil]; exact h, t.rp_nil t'⟩
  | .L, _ :: _, _, h => by cases h
  | .N l r, false :: p, t', h => by
    rw [ex_0] at h
    cases e : l.ex p with
    | none =>
      rw [e] at h
      cases h
    | some m =>
      rw [e] at h
      cases h
      obtain ⟨u, u', h1, h2, h3⟩ := ex_parts l p m e
      refine ⟨u, u', h1, h2, ?_⟩
      show (l.rp p u').map (fun l' => Tree.N l' r) = _
      rw [h3]
      rfl
  | .N l r, true :: p, t', h => by
    rw [ex_1] at h
    cases e : r.ex p with
    | none =>
      rw [e] at h
      cases h
    | some m =>
      rw [e] at h
      cases h
      obtain ⟨u, u', h1, h2, h3⟩ := ex_parts r p m e
      refine ⟨u, u', h1, h2, ?_⟩
      show (r.rp p u').map (fun r' => Tree.N l r') = _
      rw [h3]
      rfl
theorem Tree.st_len : ∀ (t : Tree) (p : List Bool) (u : Tree), t.st p = some u → p.length + u.dp ≤ t.dp
  | t, [], u, h => by
    rw [st_nil] at h
    cases h
    show 0 + t.dp ≤ t.dp
    omega
  | .L, _ :: _, _, h => by cases h
  | .N l r, false :: p, u, h => by
    have h : l.st p = some u := h
    have := st_len l p u h
    show p.length + 1 + u.dp ≤ max l.dp r.dp + 1
    omega
  | .N l r, true :: p, u, h => by
    have h : r.st p = some u := h
    have := st_len r p u h
    show p.length + 1 + u.dp ≤ max l.dp r.dp + 1
    omega
/-! ### a loop over a text; an expression that is never asked -/
theorem pe_never {X : Cx} {e : Expr} : PE X e (fun _ _ _ => False) := ⟨fun _ _ _ _ _ _ h => h.elim⟩
theorem for_S {z : Str} {g : TG} {tb : TS} {D : Ends} {σ : L2.St} {G : Hp} (Pv : Nat → L2.St → Hp → Prop) (h0 : Pv 0 σ G)
    (hs : ∀ j c σ G, z.cps[j]? = some c → Pv j σ G → g (.str ⟨#[c]⟩) σ G fun σ2 G2 => tb { D with nx := Pv (j + 1), ct := Pv (j + 1), bk := D.nx } σ2 G2) (hd : ∀ σ G, Pv z.cps.size σ G → D.nx σ G) :
    ∃ Wd : Nat → Nat → L2.St → Hp → Prop, (∃ m, Wd 0 m σ G) ∧ ∀ j m σ G, Wd j m σ G →
      ((Its z).stop j G ∧ D.nx σ G) ∨ ((Its z).go j G ∧ ∃ Nn : L2.St → Hp → Prop, (∀ σ' G', Nn σ' G' → ∃ m', m' < m ∧ Wd (j + 1) m' σ' G') ∧ ∀ v G', (Its z).yld j G v G' → g v σ G' fun σ2 G2 => tb { D with nx := Nn, ct := Nn, bk := D.nx } σ2 G2) := by
  refine ⟨fun j m σ G => m = z.cps.size - j ∧ j ≤ z.cps.size ∧ Pv j σ G, ⟨_, rfl, Nat.zero_le _, h0⟩, ?_⟩
  rintro j m σ G ⟨rfl, le, pv⟩
  rcases Nat.lt_or_ge j z.cps.size with lt | ge
  · refine .inr ⟨lt, Pv (j + 1), fun σ' G' y => ⟨z.cps.size - (j + 1), by omega, rfl, lt, y⟩, fun v G' y => ?_⟩
    obtain ⟨rfl, c, hc, rfl⟩ := y
    exact hs j c σ _ hc pv
  · have ej : j = z.cps.size := Nat.le_antisymm le ge
    subst ej
    exact .inl ⟨Nat.le_refl _, hd σ G pv⟩
/-! ### promises -/
def spFsz (K : PySem.W.Frag) (n : Nat) : Sp := fun vs H Q _ => ∃ (v : V) (t : Tree), vs = [v] ∧ TA K H v t ∧ t.dp < n ∧ n ≤ 40 ∧ t.sz ≤ 20 ∧ ∀ H', Same H H' → Q (.int t.fsz) H'
def spSub (K : PySem.W.Frag) (n : Nat) : Sp := fun vs H Q _ => ∃ (v o : V) (t a : Tree), vs = [v, o] ∧ TA K H v t ∧ TA K H o a ∧ t.dp < n ∧ n ≤ 40 ∧ ∀ (u : V) (H' : Hp), TA K H' u (t.sub a) → Same H H' → Q u H'
def spFe (K : PySem.W.Frag) (n : Nat) : Sp := fun vs H Q _ => ∃ (v : V) (t : Tree), vs = [v] ∧ TA K H v t ∧ t.dp < n ∧ n ≤ 20 ∧ t.sz ≤ 12 ∧ ∀ (u : V) (H' : Hp), TA K H' u t.fe → Same H H' → Q u H'
def spSt (K : PySem.W.Frag) : Sp := fun vs H Q _ => ∃ (v : V) (t u : Tree) (p : List Bool), vs = [v, .str (ptx p)] ∧ TA K H v t ∧ t.dp ≤ 60 ∧ t.st p = some u ∧ ∀ (x : V) (H' : Hp), TA K H' x u → Same H H' → Q x H'
def spRp (K : PySem.W.Frag) (n : Nat) : Sp := fun vs H Q _ => ∃ (v w : V) (t u t' : Tree) (p : List Bool), vs = [v, .str (ptx p), w] ∧ TA K H v t ∧ TA K H w u ∧ p.length < n ∧ n ≤ 70 ∧ t.rp p u = some t' ∧ ∀ (x : V) (H' : Hp), TA K H' x t' → Same H H' → Q x H'
def spExp (K : PySem.W.Frag) : Sp := fun vs H Q _ => ∃ (v : V) (t u : Tree), vs = [v] ∧ TA K H v t ∧ t.dp ≤ 60 ∧ t.ex0 = some u ∧ ∀ (x : V) (H' : Hp), TA K H' x u → Same H H' → Q x H'
def spRw (K : PySem.W.Frag) : Sp := fun vs H Q _ => ∃ (v : V) (t t' : Tree) (p : List Bool), vs = [v, .str (ptx p), .bl true] ∧ TA K H v t ∧ t.dp ≤ 60 ∧ t.ex p = some t' ∧ ∀ (x : V) (H' : Hp), TA K H' x t' → Same H H' → Q x H'
theorem ptx_cps (p : List Bool) : (ptx p).cps.toList = pcs p := by
  show (pcs p).toArray.toList = _
  simp
theorem ptx_len (p : List Bool) : (ptx p).length = p.length := by
  show (pcs p).toArray.size = _
  simp [pcs]
theorem ptx_size (p : List Bool) : (ptx p).cps.size = p.length := ptx_len p
theorem pcs_at (p : List Bool) (j c : Nat) (h : (ptx p).cps[j]? = some c) : ∃ b, p[j]? = some b ∧ c = if b then 49 else 48 := by
  have h : (pcs p).toArray[j]? = some c := h
  rw [List.getElem?_toArray] at h
  unfold pcs at h
  rw [List.getElem?_map] at h
  cases e : p[j]? with
  | none =>
    rw [e] at h
    cases h
  | some b =>
    rw [e] at h
    cases h
    exact ⟨b, rfl, rfl⟩
theorem ptx_tail (b : Bool) (p : List Bool) : cutS (ptx (b :: p)) (some 1) none = ptx p := by
  unfold cutS
  rw [ptx_cps, ptx_len, show HT.sIx (b :: p).length 0 (some 1) = min 1 (b :: p).length from HT.sIx_nat _ _ 1, HT.sIx_none]
  have e : min 1 (b :: p).length = 1 := by
    rw [List.length_cons]
    omega
  rw [e]
  show (⟨((pcs p).take ((b :: p).length - 1)).toArray⟩ : Str) = ⟨(pcs p).toArray⟩
  rw [List.take_of_length_le]
  show (p.map _).length ≤ _
  rw [List.length_map, List.length_cons]
  exact Nat.le_refl _
theorem not_empty (b : Bool) (p : List Bool) : decide (V.str (ptx (b :: p)) = V.str (Str.ofString "")) = false := by
  refine decide_eq_false fun h => ?_
  have h1 := congrArg Str.length (V.str.inj h)
  rw [ptx_len] at h1
  cases h1
/-! ### the pool: numbered terms -/
theorem fne1 : ¬ (("numbers" : Str) = "pairs") := by decide +kernel
theorem fne2 : ¬ (("numbers" : Str) = "sizes") := by decide +kernel
theorem fne3 : ¬ (("numbers" : Str) = "terms") := by decide +kernel
theorem fne4 : ¬ (("pairs" : Str) = "sizes") := by decide +kernel
theorem fne5 : ¬ (("pairs" : Str) = "terms") := by decide +kernel
theorem fne6 : ¬ (("sizes" : Str) = "terms") := by decide +kernel
def pf (d a b c : Addr) : List (Str × V) := putF "terms" (.ref c) (putF "sizes" (.ref b) (putF "pairs" (.ref a) (putF "numbers" (.ref d) [])))
theorem pf_n (d a b c : Addr) : (pf d a b c).lookup ("numbers" : Str) = some (.ref d) := by
  unfold pf
  rw [lookup_putF, if_neg fne3, lookup_putF, if_neg fne2, lookup_putF, if_neg fne1, lookup_putF, if_pos rfl]
theorem pf_p (d a b c : Addr) : (pf d a b c).lookup ("pairs" : Str) = some (.ref a) := by
  unfold pf
  rw [lookup_putF, if_neg fne5, lookup_putF, if_neg fne4, lookup_putF, if_pos rfl]
theorem pf_s (d a b c : Addr) : (pf d a b c).lookup ("sizes" : Str) = some (.ref b) := by
  unfold pf
  rw [lookup_putF, if_neg fne6, lookup_putF, if_pos rfl]
theorem pf_t (d a b c : Addr) : (pf d a b c).lookup ("terms" : Str) = some (.ref c) := by
  unfold pf
  rw [lookup_putF, if_pos rfl]
theorem pf_no (d a b c : Addr) {m : Str} (h1 : ¬ m = "terms") (h2 : ¬ m = "sizes") (h3 : ¬ m = "pairs") (h4 : ¬ m = "numbers") : (pf d a b c).lookup m = none := by
  unfold pf
  rw [lookup_putF, if_neg h1, lookup_putF, if_neg h2, lookup_putF, if_neg h3, lookup_putF, if_neg h4]
  rfl
abbrev key2 (l r : Nat) : List Key := [Sum.inl (l : Int), Sum.inl (r : Int)]
def kv : List (Nat × Nat) → Nat → List (List Key × V)
  | [], _ => []
  | (l, r) :: es, i => (key2 l r, .int i) :: kv es (i + 1)
theorem kv_snoc : ∀ (es : List (Nat × Nat)) (i l r : Nat), kv (es ++ [(l, r)]) i = kv es i ++ [(key2 l r, .int ((i + es.length : Nat) : Int))]
  | [], i, l, r => rfl
  | (l', r') :: es, i, l, r => by
    show (key2 l' r', V.int i) :: kv (es ++ [(l, r)]) (i + 1) = (key2 l' r', V.int i) :: (kv es (i + 1) ++ _)
    rw [kv_snoc es (i + 1) l r, show i + 1 + es.length = i + (es.length + 1) by omega]
    rfl
theorem kv_len : ∀ (es : List (Nat × Nat)) (i : Nat), (kv es i).length = es.length
  | [], _ => rfl
  | (_, _) :: es, i => congrArg (· + 1) (kv_len es (i + 1))
theorem key2_inj {l r l' r' : Nat} (h : key2 l r = key2 l' r') : l = l' ∧ r = r' := by
  have h1 : (Sum.inl (l : Int) : Key) = Sum.inl (l' : Int) := (List.cons.inj h).1
  have h2 : (Sum.inl (r : Int) : Key) = Sum.inl (r' : Int) := (List.cons.inj (List.cons.inj h).2).1
  exact ⟨by have := Sum.inl.inj h1; omega, by have := Sum.inl.inj h2; omega⟩
theorem kv_some : ∀ (es : List (Nat × Nat)) (i l r : Nat) (v : V), valV (kv es i) (key2 l r) = some v → ∃ n : Nat, v = .int ((n + i : Nat) : Int) ∧ es[n]? = some (l, r)
  | [], i, l, r, v, h => by cases h
  | (l', r') :: es, i, l, r, v, h => by
    have h : valV ((key2 l' r', V.int i) :: kv es (i + 1)) (key2 l r) = some v := h
    by_cases e : key2 l' r' = key2 l r
    · rw [valV_pos e] at h
      cases h
      obtain ⟨rfl, rfl⟩ := key2_inj e
      exact ⟨0, by rw [Nat.zero_add], rfl⟩
    · rw [valV_neg e] at h
      obtain ⟨n, h1, h2⟩ := kv_some es (i + 1) l r v h
      exact ⟨n + 1, by rw [h1]; congr 2; omega, h2⟩
theorem val_none {kvs : List (List Key × V)} {k : List Key} (h : valV kvs k = none) : (kvs.any fun kv => decide (kv.1 = k)) = false := by
  induction kvs with
  | nil => rfl
  | cons p r ih =>
    by_cases e : p.1 = k
    · rw [valV_pos e] at h
      cases h
    · rw [valV_neg e] at h
      rw [List.any_cons, decide_eq_false e, ih h]
      rfl
theorem val_snoc {kvs : List (List Key × V)} {k : List Key} {v : V} (h : valV kvs k = none) : valV (kvs ++ [(k, v)]) k = some v := by
  induction kvs with
  | nil => exact valV_pos rfl
  | cons p r ih =>
    by_cases e : p.1 = k
    · rw [valV_pos e] at h
      cases h
    · rw [valV_neg e] at h
      show valV (p :: (r ++ [(k, v)])) k = some v
      rw [valV_neg e]
      exact ih h
/-- the numbers' operands and their terms -/
structure Good (es : List (Nat × Nat)) (ts : List Tree) : Prop where
  len : ts.length = es.length + 1
  zero : ts[0]? = some .L
  pair : ∀ i l r, es[i]? = some (l, r) → ∃ tl tr, ts[l]? = some tl ∧ ts[r]? = some tr ∧ ts[i + 1]? = some (.N tl tr)
  nd : es.Nodup
theorem kv_none : ∀ (es : List (Nat × Nat)) (i l r : Nat), valV (kv es i) (key2 l r) = none → (l, r) ∉ es
  | [], _, _, _, _ => by simp
  | (l', r') :: es, i, l, r, h => by
    have h : valV ((key2 l' r', V.int i) :: kv es (i + 1)) (key2 l r) = none := h
    by_cases e : key2 l' r' = key2 l r
    · rw [valV_pos e] at h
      cases h
    · rw [valV_neg e] at h
      intro z
      rcases List.mem_cons.mp z with z | z
      · cases z
        exact e rfl
      · exact kv_none es (i + 1) l r h z
theorem nodup_snoc {α : Type} {F : List α} {r : α} (h : F.Nodup) (h3 : r ∉ F) : (F ++ [r]).Nodup := List.nodup_append.mpr ⟨h, by simp, fun a ha b hb z => by
  rw [List.mem_singleton.mp hb] at z
  exact h3 (z ▸ ha)⟩
/-- equal terms have equal numbers -/
theorem Good.inj {es : List (Nat × Nat)} {ts : List Tree} (g : Good es ts) : ∀ (t : Tree) (i j : Nat), ts[i]? = some t → ts[j]? = some t → i = j := by
  have up : ∀ {i : Nat} {t : Tree}, ts[i + 1]? = some t → ∃ l r tl tr, es[i]? = some (l, r) ∧ ts[l]? = some tl ∧ ts[r]? = some tr ∧ t = .N tl tr := fun {i t} h => by
    have hi : i < es.length := by
      have := (List.getElem?_eq_some_iff.mp h).1
      have := g.len
      omega
    obtain ⟨tl, tr, h1, h2, h3⟩ := g.pair i es[i].1 es[i].2 (List.getElem?_eq_getElem hi)
    rw [h3] at h
    cases h
    exact ⟨_, _, tl, tr, List.getElem?_eq_getElem hi, h1, h2, rfl⟩
  intro t
  induction t with
  | L =>
    intro i j hi hj
    cases i with
    | zero =>
      cases j with
      | zero => rfl
      | succ j =>
        obtain ⟨_, _, _, _, _, _, _, e⟩ := up hj
        cases e
    | succ i =>
      obtain ⟨_, _, _, _, _, _, _, e⟩ := up hi
      cases e
  | N tl tr ih1 ih2 =>
    intro i j hi hj
    cases i with
    | zero =>
      rw [g.zero] at hi
      cases hi
    | succ i =>
      cases j with
      | zero =>
        rw [g.zero] at hj
        cases hj
      | succ j =>
        obtain ⟨l, r, _, _, e1, a1, a2, e⟩ := up hi
        cases e
        obtain ⟨l', r', _, _, e2, b1, b2, e⟩ := up hj
        cases e
        have x1 := ih1 _ _ a1 b1
        have x2 := ih2 _ _ a2 b2
        subst x1 x2
        obtain ⟨p1, q1⟩ := List.getElem?_eq_some_iff.mp e1
        obtain ⟨p2, q2⟩ := List.getElem?_eq_some_iff.mp e2
        have := (List.getElem_inj g.nd).mp (q1.trans q2.symm)
        omega
structure Ops (K : PySem.W.Frag) (H : Hp) (ps : List V) (es : List (Nat × Nat)) : Prop where
  len : ps.length = es.length + 1
  zero : ∃ q, ps[0]? = some (.ref q) ∧ SqT K H q []
  pair : ∀ i l r, es[i]? = some (l, r) → ∃ q, ps[i + 1]? = some (.ref q) ∧ SqT K H q [.int (l : Nat), .int (r : Nat)]
theorem Ops.mono {K : PySem.W.Frag} {H H' : Hp} {ps : List V} {es : List (Nat × Nat)} (e : Tp H H') (o : Ops K H ps es) : Ops K H' ps es :=
  ⟨o.len, let ⟨q, h1, h2⟩ := o.zero; ⟨q, h1, e.sqT h2⟩, fun i l r h => let ⟨q, h1, h2⟩ := o.pair i l r h; ⟨q, h1, e.sqT h2⟩⟩
def PoolA (K : PySem.W.Frag) (C x d a b c : Addr) (H : Hp) (ts : List Tree) : Prop := ∃ (dx : Addr) (es : List (Nat × Nat)) (ps cs : List V),
  H x = some (.ins C dx (pf d a b c)) ∧ H d = some (.dT (kv es 1)) ∧ H a = some (.lst ps) ∧ H b = some (.lst (ts.map fun t => V.int (t.sz : Nat))) ∧ H c = some (.lst cs) ∧ a ≠ b ∧ a ≠ c ∧ b ≠ c ∧ Good es ts ∧ Ops K H ps es ∧ DpAll K H cs (ts.map Tree.d)
/-- all but the pool's own objects stays -/
def Ex4 (d a b c : Addr) (H H' : Hp) : Prop := ∀ q o, H q = some o → q ≠ d → q ≠ a → q ≠ b → q ≠ c → H' q = some o
theorem Ex4.trans {d a b c : Addr} {H H1 H2 : Hp} (e : Ex4 d a b c H H1) (e' : Ex4 d a b c H1 H2) : Ex4 d a b c H H2 := fun q o h h1 h2 h3 h4 => e' q o (e q o h h1 h2 h3 h4) h1 h2 h3 h4
theorem Ex4.same {d a b c : Addr} {H H' : Hp} (e : Same H H') : Ex4 d a b c H H' := fun q o h _ _ _ _ => e q o h
theorem Ex4.refl {d a b c : Addr} {H : Hp} : Ex4 d a b c H H := fun _ _ h _ _ _ _ => h
theorem PoolA.same {K : PySem.W.Frag} {C x d a b c : Addr} {H H' : Hp} {ts : List Tree} (e : Same H H') (p : PoolA K C x d a b c H ts) : PoolA K C x d a b c H' ts := by
  obtain ⟨dx, es, ps, cs, h1, h2, h3, h4, h5, n1, n2, n3, g, o, dd⟩ := p
  exact ⟨dx, es, ps, cs, e _ _ h1, e _ _ h2, e _ _ h3, e _ _ h4, e _ _ h5, n1, n2, n3, g, o.mono (Tp.same e), dp_sameAll e _ dd⟩
theorem PoolA.tp {K : PySem.W.Frag} {C x d a b c : Addr} {H H' : Hp} {ts : List Tree} (p : PoolA K C x d a b c H ts) (e : Ex4 d a b c H H') : Tp H H' := by
  obtain ⟨dx, es, ps, cs, h1, h2, h3, h4, h5, _⟩ := p
  intro q xs h
  have k : ∀ o, H q = some o → (∀ kvs, o ≠ .dT kvs) → (∀ ys, o ≠ .lst ys) → H' q = some o := fun o ho k1 k2 =>
    e q o ho (fun z => k1 _ (Option.some.inj (ho.symm.trans (z ▸ h2)))) (fun z => k2 _ (Option.some.inj (ho.symm.trans (z ▸ h3)))) (fun z => k2 _ (Option.some.inj (ho.symm.trans (z ▸ h4)))) (fun z => k2 _ (Option.some.inj (ho.symm.trans (z ▸ h5))))
  rcases h with h | ⟨o, h⟩
  · exact .inl (k _ h (fun _ z => by cases z) (fun _ z => by cases z))
  · exact .inr ⟨o, k _ h (fun _ z => by cases z) (fun _ z => by cases z)⟩
def Pre (ts ts' : List Tree) : Prop := ∀ (i : Nat) (t : Tree), ts[i]? = some t → ts'[i]? = some t
theorem Pre.trans {a b c : List Tree} (h : Pre a b) (h' : Pre b c) : Pre a c := fun i t e => h' i t (h i t e)
structure PoolT (K : PySem.W.Frag) (mg : Str → Option Value) (C : Addr) : Prop where
  cl : Cls K C
  n1 : NoAttr K C "numbers"
  n2 : NoAttr K C "pairs"
  n3 : NoAttr K C "sizes"
  n4 : NoAttr K C "terms"
  mgC : mg "Pool" = some (.ref C)
def spPInit (K : PySem.W.Frag) (C : Addr) : Sp := fun vs H Q _ => ∃ (H0 : Hp) (x dx : Addr), vs = [.ref x] ∧ Same H0 H ∧ H0 x = none ∧ H x = some (.ins C dx []) ∧
  ∀ (d a b c : Addr) (H' : Hp), PoolA K C x d a b c H' [.L] → Same H0 H' → H0 d = none → H0 a = none → H0 b = none → H0 c = none → Q .non H'
def spPair (K : PySem.W.Frag) (C : Addr) : Sp := fun vs H Q _ => ∃ (x d a b c : Addr) (l r : Nat) (ts : List Tree) (tl tr : Tree), vs = [.ref x, .int l, .int r] ∧ PoolA K C x d a b c H ts ∧ ts.length ≤ 1000000 ∧ ts[l]? = some tl ∧ ts[r]? = some tr ∧
  ∀ (n : Nat) (ts' : List Tree) (H' : Hp), PoolA K C x d a b c H' ts' → Ex4 d a b c H H' → Pre ts ts' → ts'[n]? = some (.N tl tr) → ts'.length ≤ ts.length + 1 → Q (.int n) H'
def spNum (K : PySem.W.Frag) (C : Addr) (n : Nat) : Sp := fun vs H Q _ => ∃ (x d a b c : Addr) (v : V) (t : Tree) (ts : List Tree), vs = [.ref x, v] ∧ PoolA K C x d a b c H ts ∧ TA K H v t ∧ t.dp < n ∧ n ≤ 40 ∧ ts.length + t.nodes ≤ 1000000 ∧
  ∀ (m : Nat) (ts' : List Tree) (H' : Hp), PoolA K C x d a b c H' ts' → Ex4 d a b c H H' → Pre ts ts' → ts'[m]? = some t → ts'.length ≤ ts.length + t.nodes → Q (.int m) H'
theorem mil {n : Nat} (h : n ≤ 1000000) : n < sizeLine := Nat.lt_of_le_of_lt h (by decide)
/-! ### what the pool tells of a number -/
theorem PoolA.at {K : PySem.W.Frag} {C x d a b c : Addr} {H : Hp} {ts : List Tree} (p : PoolA K C x d a b c H ts) {m : Nat} {t : Tree} (hm : ts[m]? = some t) :
    ∃ (dx : Addr) (ps : List V) (q : Addr) (ops : List V), H x = some (.ins C dx (pf d a b c)) ∧ H a = some (.lst ps) ∧ ps[m]? = some (.ref q) ∧ SqT K H q ops ∧
      match t with
      | .L => ops = []
      | .N tl tr => ∃ l r : Nat, ops = [.int (l : Nat), .int (r : Nat)] ∧ ts[l]? = some tl ∧ ts[r]? = some tr := by
  obtain ⟨dx, es, ps, cs, hx, hd, ha, hb, hc, n1, n2, n3, g, o, dd⟩ := p
  cases m with
  | zero =>
    rw [g.zero] at hm
    cases hm
    obtain ⟨q, h1, h2⟩ := o.zero
    exact ⟨dx, ps, q, [], hx, ha, h1, h2, rfl⟩
  | succ i =>
    have hi : i < es.length := by
      have := (List.getElem?_eq_some_iff.mp hm).1
      have := g.len
      omega
    obtain ⟨tl, tr, h1, h2, h3⟩ := g.pair i es[i].1 es[i].2 (List.getElem?_eq_getElem hi)
    rw [h3] at hm
    cases hm
    obtain ⟨q, h4, h5⟩ := o.pair i es[i].1 es[i].2 (List.getElem?_eq_getElem hi)
    exact ⟨dx, ps, q, _, hx, ha, h4, h5, es[i].1, es[i].2, rfl, h1, h2⟩
theorem ops_L {K : PySem.W.Frag} {H : Hp} {q : Addr} (h : SqT K H q []) : Dp K H (.ref q) (.tuple []) := Dp.tup h .nil
theorem ops_N {K : PySem.W.Frag} {H : Hp} {q : Addr} {l r : Nat} (h : SqT K H q [.int (l : Nat), .int (r : Nat)]) : Dp K H (.ref q) (.tuple [.int (l : Nat), .int (r : Nat)]) := Dp.tup h (.cons (.int _) (.cons (.int _) .nil))
theorem ops_sh (l r : Nat) : SeqAt.shaped (.tuple [.int (l : Nat), .int (r : Nat)]) = true := rfl
theorem ops_ne (l r : Nat) : PyData.eqv (.tuple [.int (l : Nat), .int (r : Nat)]) (.tuple []) = false := rfl
def spSpread (K : PySem.W.Frag) (C : Addr) (n : Nat) : Sp := fun vs H Q _ => ∃ (x d a b c : Addr) (k m : Nat) (ts : List Tree) (tk t : Tree), vs = [.ref x, .int k, .int m] ∧ PoolA K C x d a b c H ts ∧ ts[k]? = some tk ∧ ts[m]? = some t ∧ t.dp < n ∧ ts.length + t.nodes ≤ 1000000 ∧
  ∀ (j : Nat) (ts' : List Tree) (H' : Hp), PoolA K C x d a b c H' ts' → Ex4 d a b c H H' → Pre ts ts' → ts'[j]? = some (t.sub tk) → ts'.length ≤ ts.length + t.nodes → Q (.int j) H'
def Tree.fnc : Tree → Nat
  | .L => 0
  | .N a b => a.fnc + b.fnc + b.fe.nodes
def spFull (K : PySem.W.Frag) (C : Addr) (n : Nat) : Sp := fun vs H Q _ => ∃ (x d a b c : Addr) (m : Nat) (ts : List Tree) (t : Tree), vs = [.ref x, .int m] ∧ PoolA K C x d a b c H ts ∧ ts[m]? = some t ∧ t.dp < n ∧ n ≤ 40 ∧ t.sz ≤ 12 ∧ ts.length + t.fnc ≤ 1000000 ∧
  ∀ (j : Nat) (ts' : List Tree) (H' : Hp), PoolA K C x d a b c H' ts' → Ex4 d a b c H H' → Pre ts ts' → ts'[j]? = some t.fe → ts'.length ≤ ts.length + t.fnc → Q (.int j) H'
/-- the places of a term: a path and the term there -/
def Tree.pl : Tree → List Bool → List (List Bool × Tree)
  | .L, p => [(p, .L)]
  | .N l r, p => (p, .N l r) :: (l.pl (p ++ [false]) ++ r.pl (p ++ [true]))
inductive PlA (K : PySem.W.Frag) (H : Hp) (ts : List Tree) : List V → List (List Bool × Tree) → Prop
  | nil : PlA K H ts [] []
  | cons {q : Addr} {k : Nat} {p : List Bool} {t : Tree} {vs : List V} {ys : List (List Bool × Tree)} : SqT K H q [.str (ptx p), .int (k : Nat)] → ts[k]? = some t → PlA K H ts vs ys → PlA K H ts (.ref q :: vs) ((p, t) :: ys)
theorem PlA.mono {K : PySem.W.Frag} {H H' : Hp} {ts ts' : List Tree} (e : Tp H H') (pr : Pre ts ts') : ∀ {vs : List V} {ys : List (List Bool × Tree)}, PlA K H ts vs ys → PlA K H' ts' vs ys
  | _, _, .nil => .nil
  | _, _, .cons h1 h2 h3 => .cons (e.sqT h1) (pr _ _ h2) (PlA.mono e pr h3)
theorem PlA.app {K : PySem.W.Frag} {H : Hp} {ts : List Tree} : ∀ {vs ws : List V} {ys zs : List (List Bool × Tree)}, PlA K H ts vs ys → PlA K H ts ws zs → PlA K H ts (vs ++ ws) (ys ++ zs)
  | _, _, _, _, .nil, h => h
  | _, _, _, _, .cons h1 h2 h3, h => .cons h1 h2 (PlA.app h3 h)
theorem PlA.len {K : PySem.W.Frag} {H : Hp} {ts : List Tree} : ∀ {vs : List V} {ys : List (List Bool × Tree)}, PlA K H ts vs ys → vs.length = ys.length
  | _, _, .nil => rfl
  | _, _, .cons _ _ h3 => congrArg (· + 1) (PlA.len h3)
theorem Tree.pl_len : ∀ (t : Tree) (p : List Bool), (t.pl p).length = t.nodes
  | .L, _ => rfl
  | .N l r, p => by
    show ((p, Tree.N l r) :: (l.pl (p ++ [false]) ++ r.pl (p ++ [true]))).length = l.nodes + r.nodes + 1
    rw [List.length_cons, List.length_append, pl_len l, pl_len r]
theorem Tree.nodes_sz : ∀ t : Tree, t.nodes + 1 = 2 * t.sz
  | .L => rfl
  | .N l r => by
    have h1 := nodes_sz l
    have h2 := nodes_sz r
    show l.nodes + r.nodes + 1 + 1 = 2 * (l.sz + r.sz)
    omega
def spPlaces (K : PySem.W.Frag) (C : Addr) (n : Nat) : Sp := fun vs H Q _ => ∃ (x d a b c : Addr) (m : Nat) (p : List Bool) (ts : List Tree) (t : Tree), vs = [.ref x, .int m, .str (ptx p)] ∧ PoolA K C x d a b c H ts ∧ ts[m]? = some t ∧ t.dp < n ∧ p.length + n ≤ 100 ∧ t.nodes ≤ 5000 ∧
  ∀ (z : Addr) (ws : List V) (H' : Hp), Same H H' → H z = none → H' z = some (.lst ws) → PlA K H' ts ws (t.pl p) → Q (.ref z) H'
theorem ptx_snoc0 (p : List Bool) : ptx p ++ Str.ofString "0" = ptx (p ++ [false]) := by
  show (⟨(pcs p).toArray ++ #[48]⟩ : Str) = ⟨(pcs (p ++ [false])).toArray⟩
  unfold pcs
  rw [List.map_append]
  congr 1
  apply Array.toList_inj.mp
  simp
theorem ptx_snoc1 (p : List Bool) : ptx p ++ Str.ofString "1" = ptx (p ++ [true]) := by
  show (⟨(pcs p).toArray ++ #[49]⟩ : Str) = ⟨(pcs (p ++ [true])).toArray⟩
  unfold pcs
  rw [List.map_append]
  congr 1
  apply Array.toList_inj.mp
  simp
def spCheckFull (K : PySem.W.Frag) : Sp := fun vs H Q _ => ∃ (v : V) (t : Tree), vs = [v] ∧ TA K H v t ∧ t.sz ≤ 12 ∧ t.dp ≤ 6 ∧ t.fsz ≤ 500 ∧ ∀ H', Same H H' → Q .non H'
def Tree.fpc : Tree → Nat
  | .L => 0
  | .N a b => a.fpc + b.fpc + b.fnc
def ptxs (ps : List (List Bool)) : List V := ps.map fun p => .str (ptx p)
def spPaths (K : PySem.W.Frag) (C : Addr) (n : Nat) : Sp := fun vs H Q _ => ∃ (x d a b c : Addr) (m : Nat) (p : List Bool) (ts : List Tree) (t : Tree), vs = [.ref x, .int m, .str (ptx p)] ∧ PoolA K C x d a b c H ts ∧ ts[m]? = some t ∧ t.dp < n ∧ p.length + n ≤ 60 ∧ t.sz ≤ 12 ∧ t.fsz ≤ 500 ∧ ts.length + t.fpc ≤ 1000000 ∧
  ∀ (z : Addr) (ts' : List Tree) (H' : Hp), PoolA K C x d a b c H' ts' → Ex4 d a b c H H' → Pre ts ts' → ts'.length ≤ ts.length + t.fpc → H z = none → H' z = some (.lst (ptxs (t.fp.map (p ++ ·)))) → Q (.ref z) H'
def spPathsOf (K : PySem.W.Frag) : Sp := fun vs H Q _ => ∃ (v : V) (t : Tree), vs = [v] ∧ TA K H v t ∧ t.sz ≤ 12 ∧ t.dp ≤ 6 ∧ t.fsz ≤ 500 ∧ ∀ (z : Addr) (H' : Hp), Same H H' → H z = none → H' z = some (.lst (ptxs t.fp)) → Q (.ref z) H'
def kept (ys : List (List Bool × Tree)) : List (List Bool) := (ys.filter fun y => !y.2.isL).map (·.1)
theorem kept_app (ys zs : List (List Bool × Tree)) : kept (ys ++ zs) = kept ys ++ kept zs := by
  unfold kept
  rw [List.filter_append, List.map_append]
theorem kept_cons (p : List Bool) (l r : Tree) (ys : List (List Bool × Tree)) : kept ((p, Tree.N l r) :: ys) = p :: kept ys := rfl
theorem kept_pl : ∀ (t : Tree) (p : List Bool), kept (t.pl p) = t.nd.map (p ++ ·)
  | .L, p => rfl
  | .N l r, p => by
    have ea : l.nd.map (fun y => (p ++ [false]) ++ y) = (l.nd.map (false :: ·)).map (p ++ ·) := by
      rw [List.map_map]
      exact List.map_congr_left fun y _ => by simp
    have eb : r.nd.map (fun y => (p ++ [true]) ++ y) = (r.nd.map (true :: ·)).map (p ++ ·) := by
      rw [List.map_map]
      exact List.map_congr_left fun y _ => by simp
    show kept ((p, Tree.N l r) :: (l.pl (p ++ [false]) ++ r.pl (p ++ [true]))) = ([] :: (l.nd.map (false :: ·) ++ r.nd.map (true :: ·))).map (p ++ ·)
    rw [kept_cons, kept_app, kept_pl l, kept_pl r, List.map_cons, List.map_append, List.append_nil, ea, eb]
theorem Tree.nd_len : ∀ t : Tree, t.nd.length + 1 = t.sz
  | .L => rfl
  | .N l r => by
    have h1 := nd_len l
    have h2 := nd_len r
    show ([] :: (l.nd.map (false :: ·) ++ r.nd.map (true :: ·))).length + 1 = l.sz + r.sz
    rw [List.length_cons, List.length_append, List.length_map, List.length_map]
    omega
theorem mul_big {a b n : Nat} (ha : 0 < a) (h : a * b ≤ n) : b ≤ n := Nat.le_trans (Nat.le_mul_of_pos_left b ha) h
theorem Tree.fsz_l {l r : Tree} {n : Nat} (h : (Tree.N l r).fsz ≤ n) : l.fsz ≤ n := by
  have h : (l.fsz + 1) * r.fsz ≤ n := h
  have h1 := r.fsz_pos
  have : l.fsz + 1 ≤ (l.fsz + 1) * r.fsz := Nat.le_mul_of_pos_right _ h1
  omega
theorem Tree.fsz_r {l r : Tree} {n : Nat} (h : (Tree.N l r).fsz ≤ n) : r.fsz ≤ n := mul_big (Nat.succ_pos _) (show (l.fsz + 1) * r.fsz ≤ n from h)
theorem Tree.fp_len : ∀ t : Tree, t.fsz ≤ 500 → t.fp.length + 500 ≤ 500 * t.sz
  | .L, _ => Nat.le_refl _
  | .N l r, h => by
    have h1 := fp_len l (fsz_l h)
    have h2 := fp_len r (fsz_r h)
    have h3 := r.fe.nd_len
    have h4 := fsz_r h
    rw [r.fe_sz] at h3
    show ((l.fp.map (false :: ·) ++ r.fp.map (true :: ·)) ++ r.fe.nd).length + 500 ≤ 500 * (l.sz + r.sz)
    rw [List.length_append, List.length_append, List.length_map, List.length_map]
    omega
theorem Tree.fnc_le : ∀ t : Tree, t.fsz ≤ 500 → t.fnc + 1000 ≤ 1000 * t.sz
  | .L, _ => Nat.le_refl _
  | .N l r, h => by
    have h1 := fnc_le l (fsz_l h)
    have h2 := fnc_le r (fsz_r h)
    have h3 := r.fe.nodes_sz
    have h4 := fsz_r h
    rw [r.fe_sz] at h3
    show l.fnc + r.fnc + r.fe.nodes + 1000 ≤ 1000 * (l.sz + r.sz)
    omega
theorem Tree.fpc_le : ∀ t : Tree, t.fsz ≤ 500 → t.sz ≤ 12 → t.fpc + 12000 ≤ 12000 * t.sz
  | .L, _, _ => Nat.le_refl _
  | .N l r, h, hz => by
    have hz : l.sz + r.sz ≤ 12 := hz
    have h1 := fpc_le l (fsz_l h) (by omega)
    have h2 := fpc_le r (fsz_r h) (by omega)
    have h3 := fnc_le r (fsz_r h)
    show l.fpc + r.fpc + r.fnc + 12000 ≤ 12000 * (l.sz + r.sz)
    omega
theorem PoolA.fresh {K : PySem.W.Frag} {C x d a b c z : Addr} {H : Hp} {ts : List Tree} (p : PoolA K C x d a b c H ts) (h : H z = none) : z ≠ d ∧ z ≠ a ∧ z ≠ b ∧ z ≠ c := by
  obtain ⟨dx, es, ps, cs, hx, hd, ha, hb, hc, _⟩ := p
  exact ⟨(ne_of_none hd h).symm, (ne_of_none ha h).symm, (ne_of_none hb h).symm, (ne_of_none hc h).symm⟩
theorem Ex4.free {K : PySem.W.Frag} {C x d a b c z : Addr} {H H' : Hp} {ts : List Tree} (p : PoolA K C x d a b c H' ts) (e : Ex4 d a b c H H') (h : H' z = none) : H z = none := by
  obtain ⟨n1, n2, n3, n4⟩ := p.fresh h
  cases q : H z with
  | none => rfl
  | some o =>
    rw [e z o q n1 n2 n3 n4] at h
    cases h
theorem Ex4.list {K : PySem.W.Frag} {C x d a b c z : Addr} {H0 H H' : Hp} {ts : List Tree} {o : HO} (p : PoolA K C x d a b c H0 ts) (f : H0 z = none) (e : Ex4 d a b c H H') (h : H z = some o) : H' z = some o := by
  obtain ⟨n1, n2, n3, n4⟩ := p.fresh f
  exact e z o h n1 n2 n3 n4
theorem ptxs_app (ps qs : List (List Bool)) : ptxs (ps ++ qs) = ptxs ps ++ ptxs qs := List.map_append
theorem ptxs_len (ps : List (List Bool)) : (ptxs ps).length = ps.length := List.length_map _
theorem fp_N (l r : Tree) (p : List Bool) : (ptxs (l.fp.map ((p ++ [false]) ++ ·)) ++ ptxs (r.fp.map ((p ++ [true]) ++ ·))) ++ ptxs (kept (r.fe.pl p)) = ptxs ((Tree.N l r).fp.map (p ++ ·)) := by
  have ea : l.fp.map (fun y => (p ++ [false]) ++ y) = (l.fp.map (false :: ·)).map (p ++ ·) := by
    rw [List.map_map]
    exact List.map_congr_left fun y _ => by simp
  have eb : r.fp.map (fun y => (p ++ [true]) ++ y) = (r.fp.map (true :: ·)).map (p ++ ·) := by
    rw [List.map_map]
    exact List.map_congr_left fun y _ => by simp
  show _ = ptxs (((l.fp.map (false :: ·) ++ r.fp.map (true :: ·)) ++ r.fe.nd).map (p ++ ·))
  rw [List.map_append, List.map_append, ptxs_app, ptxs_app, kept_pl, ea, eb]
theorem Tree.dp_sz : ∀ t : Tree, t.dp + 1 ≤ t.sz
  | .L => Nat.le_refl _
  | .N l r => by
    have h1 := dp_sz l
    have h2 := dp_sz r
    show max l.dp r.dp + 1 + 1 ≤ l.sz + r.sz
    omega
section OPN
open PySem.Spec PyProof.Rows
/-! ### t[::-1] -/
section
variable {prog : Program} {w : World} {A : Around} {E : Value → Shared → Prop} {s : Shared}
theorem sliceApplied_rev {sl : Addr} {vs : Value} {n : Nat} {Q : Int × Int × Nat → Shared → Prop} (hs : s.heap.IsSliceOf sl .none .none vs) (ps : IsPart vs (some (-1))) (h : Q ((n : Int) - 1, -1, n) s) : wpAny (model prog w) A (Builtin.Slice.sliceApplied (.ref sl) (pure (n : Int))) Q E s := by
  obtain ⟨os, hos, hcs, hds⟩ := id hs
  unfold Builtin.Slice.sliceApplied Builtin.Slice.sliceFields
  refine wpAny_bind (wpAny_bind (wpAny_field hos hds (x := .none) rfl (wpAny_bind (wpAny_field hos hds (x := .none) rfl (wpAny_bind (wpAny_field hos hds (x := vs) rfl (wpAny_pure ?_)))))))
  refine wpAny_bind (HT.slicePart_ ps ?_)
  show wpAny _ _ (if ((-1 : Int) == 0) = true then _ else _) _ _ s
  rw [if_neg (by decide)]
  refine wpAny_bind (HT.slicePart_ .none (wpAny_bind (HT.slicePart_ .none (wpAny_bind (wpAny_pure ?_)))))
  show wpAny _ _ (pure ((n : Int) - 1, (-1 : Int), Builtin.Slice.slicePlaces ((n : Int) - 1) (-1) (-1))) _ _ s
  have e : Builtin.Slice.slicePlaces ((n : Int) - 1) (-1) (-1) = n := by
    unfold Builtin.Slice.slicePlaces
    have h1 : ¬ ((-1 : Int) > 0) := by decide
    rw [if_neg h1, show (- -1 : Int) = 1 by decide]
    simp only [Int.ediv_one]
    split <;> omega
  rw [e]
  exact wpAny_pure h
theorem pick_rev (xs : Array Value) : ((List.range xs.size).filterMap fun (m : Nat) => xs[(((xs.size : Nat) : Int) - 1 + (m : Int) * -1).toNat]?).toArray = xs.toList.reverse.toArray := by
  congr 1
  rw [← PySem.W.krv_all xs, ← List.filterMap_reverse, ← PySem.W.krv_range, List.filterMap_map]
  have key : ∀ l : List Nat, (∀ m ∈ l, m < xs.size) → l.filterMap (fun (m : Nat) => xs[(((xs.size : Nat) : Int) - 1 + (m : Int) * -1).toNat]?) = l.filterMap ((fun x => xs[x]?) ∘ fun k => xs.size - 1 - k) := by
    intro l
    induction l with
    | nil => intro _; rfl
    | cons a r ih =>
      intro h
      have ha := h a List.mem_cons_self
      rw [List.filterMap_cons, List.filterMap_cons, ih fun m hm => h m (List.mem_cons_of_mem _ hm)]
      have e : (((xs.size : Nat) : Int) - 1 + (a : Int) * -1).toNat = xs.size - 1 - a := by omega
      rw [e]
      rfl
  exact key _ fun m hm => List.mem_range.mp hm
theorem getItem_tuple_rev {t sl : Addr} {items : Array Value} {vs : Value} {Q : Value → Shared → Prop} (ht : IsTup s.heap t items) (hs : s.heap.IsSliceOf sl .none .none vs) (ps : IsPart vs (some (-1)))
    (h : Q (.ref s.heap.objs.size) { s with heap := s.heap.push { cls := .type "tuple", data := .seq items.toList.reverse.toArray } })
    (hsz : items.size ≤ sizeLine) : wpAny (model prog w) A (getItem (.ref t) (.ref sl)) Q E s := by
  have htake : sizeOk (.seq items.toList.reverse.toArray) := by
    show items.toList.reverse.toArray.size ≤ sizeLine
    rw [List.size_toArray, List.length_reverse, Array.length_toList]
    exact hsz
  obtain ⟨os, hos, hcs, hds⟩ := id hs
  have hTs : s.TypeIs (.ref sl) "slice" := ⟨os, hos, hcs⟩
  unfold getItem
  try with_reducible refine wpAny_holding ?_
  first | refine wpAny_bind (wpAny_pure ?_) | skip
  refine wpAny_bind (wpAny_sequenceKey ht.typeIs (by decide) ?_)
  refine wpAny_bind (wpAny_callSpecial?_slot (name := Str.ofString "__getitem__") ht.typeIs PyProof.Rows.slot_tuple_getitem
    (wpAny_call_entry PyProof.Rows.slot_tuple_getitem ht.typeIs entry_tuple_getitem ?_ (args_tuple_getitem _ _)))
  show wpAny _ _ (Builtin.Tuple.tupleItemsOf (.ref t) >>= _) _ _ s
  refine wpAny_bind (tupleItemsOf_ ht ?_)
  refine wpAny_bind (wpAny_typeOf hTs ?_)
  rw [if_pos (by decide)]
  refine wpAny_bind (sliceApplied_rev hs ps ?_)
  have hno : ¬ ((((items.size : Nat) : Int) - 1 == 0 && (-1 : Int) == 1 && items.size == items.size) = true) := by
    intro q
    rw [Bool.and_eq_true, Bool.and_eq_true] at q
    exact absurd q.1.2 (by decide)
  show wpAny _ _ (if (((items.size : Nat) : Int) - 1 == 0 && (-1 : Int) == 1 && items.size == items.size) = true then _ else _) _ _ s
  rw [if_neg hno, pick_rev]
  first
    | exact wpAny_bind (m := Builtin.Tuple.tupleExact _) (wpAny_newObj_type (wpAny_pure ⟨_, rfl, wpAny_pure h⟩) htake)
    | exact wpAny_bind (m := Builtin.Tuple.tupleExact _) (wpAny_newObj_type (wpAny_bind (wpAny_pure (wpAny_pure ⟨_, rfl, wpAny_pure h⟩))) htake)
    | exact wpAny_bind (wpAny_bind (m := Builtin.Tuple.tupleExact _) (wpAny_newObj_type (wpAny_pure (wpAny_pure ⟨_, rfl, wpAny_pure h⟩)) htake))
    | exact wpAny_bind (wpAny_bind (m := Builtin.Tuple.tupleExact _) (wpAny_newObj_type (wpAny_pure ⟨_, rfl, wpAny_pure h⟩) htake))
end
def tRevT (K : PySem.W.Frag) (te : TE) : TE := fun σ H Q => te σ H fun x H1 => ∃ a xs, x = .ref a ∧ SqT K H1 a xs ∧ ∀ p, H1 p = none → Q (.ref p) (upd H1 p (.tup xs.reverse))
theorem pe_revT {X : Cx} {e : Expr} {te : TE} {k : Nat} {p1 p2 p3 pos : Pos} (he : PE X e te) : PE X (.Subscript e (.Slice none none (some (.UnaryOp .USub (.Constant (.int 1) k p1) p2)) p3) pos) (tRevT X.K te) := by
  refine ⟨fun pins s σ H Q I h => ?_⟩
  refine Subscript_ (thn (he.run pins s σ H _ I h) fun v s1 ⟨x, H1, I1, r1, q1⟩ => ?_)
  obtain ⟨a, xs, ex, hx, q⟩ := q1
  subst ex
  cases r1
  have hst : PO X (some (.UnaryOp .USub (.Constant (.int 1) k p1) p2)) (tPart (tUn (rU fun i => .int (-i)) (tC (.int 1)))) := po_some (pe_un un_neg pe_int)
  refine wpAny_Slice (thn (po_none.run pins s1 σ H1 (fun o H2 => o = none ∧ H2 = H1) I1 ⟨rfl, rfl⟩) fun vl s2 ⟨l, H2, I2, pl, el, e2⟩ => ?_)
  subst el e2
  refine thn (po_none.run pins s2 σ H2 (fun o H3 => o = none ∧ H3 = H2) I2 ⟨rfl, rfl⟩) fun vu s3 ⟨u, H3, I3, pu, eu, e3⟩ => ?_
  subst eu e3
  refine thn (hst.run pins s3 σ H3 (fun o H4 => o = some (-1) ∧ H4 = H3) I3 ⟨1, rfl, -1, rfl, rfl, rfl⟩) fun vs s4 ⟨o, H4, I4, ps, eo, e4⟩ => ?_
  subst eo e4
  cases pl
  cases pu
  have I5 : Inv X pins σ H4 { s4 with heap := s4.heap.push { cls := .type "slice", data := .fields #[.none, .none, vs] } } := I4.kept (t' := s4.toks) fun b ob q => Heap.get?_push_of_some _ q
  obtain ⟨its, r, ht, hz⟩ := I5.tuple hx
  have hlen := r.length
  show wpAny (model X.prog X.w) X.A (subscriptTail e (.Slice none none (some (.UnaryOp .USub (.Constant (.int 1) k p1) p2)) p3) (.ref a) (.ref s4.heap.objs.size)) (EP X pins σ Q) X.xe { s4 with heap := s4.heap.push { cls := .type "slice", data := .fields #[.none, .none, vs] } }
  refine tail_any (ops := [.ref a, .ref s4.heap.objs.size]) ht.typeIs (PyProof.Rows.slot_tuple_getitem.lookup) ?_ (by with_unfolding_all rfl)
  refine getItem_tuple_rev ht (Heap.IsSliceOf.new _ .none .none vs) ps ?_ (by rw [List.size_toArray]; omega)
  refine ⟨.ref _, _, I5.laid (t' := s4.toks) (o := .tup xs.reverse) (fun b ob q => Heap.get?_push_of_some _ q) (Nat.le_refl _) ?_, rfl, q _ (I5.hok.fresh (Nat.le_refl _))⟩
  exact ⟨by rw [List.length_reverse]; exact hz, _, r.reverse, IsTup.new _ _⟩
/-! ### comprehensions that map -/
theorem take_snoc {α : Type} {l : List α} {i : Nat} {x : α} (h : l[i]? = some x) : l.take (i + 1) = l.take i ++ [x] := by
  rw [List.take_add_one, h]
  rfl
section
variable {K : PySem.W.Frag} {a : Addr} {xs : List V} {ψ : V → V} {g : TG} {te : TE} {vs : List Nat} {σ : L2.St} {H1 : Hp} {D : Addr} {Qd : Hp → Prop}
theorem lc_mapT (hD : H1 D = none) (hS : SqT K H1 a xs) (hl : xs.length ≤ 10000)
    (hs : ∀ x G (R : V → Hp → Prop), x ∈ xs → Same H1 G → (∀ H4, Same G H4 → R (ψ x) H4) → g x (wipe σ vs) G fun σ2 H2 => wipe σ2 vs = wipe σ vs ∧ te σ2 H2 R)
    (hd : ∀ G, Same H1 G → G D = some (.lst (xs.map ψ)) → Qd G) :
    ∃ W : Nat → Nat → Hp → Prop, (∃ m, W 0 m (upd H1 D (.lst []))) ∧ ∀ i m H, W i m H →
      ((Itt K a).stop i H ∧ Qd H) ∨ ((Itt K a).go i H ∧ ∃ Nx : Hp → Prop, (∀ H', Nx H' → ∃ m', m' < m ∧ W (i + 1) m' H') ∧ ∀ x H', (Itt K a).yld i H x H' → g x (wipe σ vs) H' fun σ2 H2 => wipe σ2 vs = wipe σ vs ∧ tYes σ2 H2 fun b H3 =>
        if b = true then te σ2 H3 fun y H4 => ∃ acc, H4 D = some (.lst acc) ∧ acc.length < sizeLine ∧ Nx (upd H4 D (.lst (acc ++ [y]))) else Nx H3) := by
  refine lc_tup (K := K) (a := a) (xs := xs) (tt := tYes) (fun i G => Same H1 G ∧ G D = some (.lst ((xs.take i).map ψ))) ⟨Same.new hD _, upd_same⟩ (fun i G _ z => (Tp.same z.1).sqT hS) ?_ ?_
  · rintro i x G hi ⟨sm, hl2⟩
    refine hs x G _ (List.mem_of_getElem? hi) sm fun H4 s4 => ⟨_, s4 _ _ hl2, ?_, fun b o z => ?_, ?_⟩
    · have := (List.getElem?_eq_some_iff.mp hi).1
      rw [List.length_map, List.length_take]
      exact Nat.lt_of_lt_of_le (by omega : _ < 10001) (by decide)
    · rw [upd_ne (ne_of_none z hD)]
      exact s4 _ _ (sm _ _ z)
    · rw [upd_same, take_snoc hi, List.map_append]
      rfl
  · rintro G ⟨sm, h⟩
    rw [List.take_of_length_le (Nat.le_refl _)] at h
    exact hd G sm h
theorem lc_mapL (hD : H1 D = none) (hS : SqL K H1 a xs) (hl : xs.length ≤ 10000)
    (hs : ∀ x G (R : V → Hp → Prop), x ∈ xs → Same H1 G → (∀ H4, Same G H4 → R (ψ x) H4) → g x (wipe σ vs) G fun σ2 H2 => wipe σ2 vs = wipe σ vs ∧ te σ2 H2 R)
    (hd : ∀ G, Same H1 G → G D = some (.lst (xs.map ψ)) → Qd G) :
    ∃ W : Nat → Nat → Hp → Prop, (∃ m, W 0 m (upd H1 D (.lst []))) ∧ ∀ i m H, W i m H →
      ((Itl K a).stop i H ∧ Qd H) ∨ ((Itl K a).go i H ∧ ∃ Nx : Hp → Prop, (∀ H', Nx H' → ∃ m', m' < m ∧ W (i + 1) m' H') ∧ ∀ x H', (Itl K a).yld i H x H' → g x (wipe σ vs) H' fun σ2 H2 => wipe σ2 vs = wipe σ vs ∧ tYes σ2 H2 fun b H3 =>
        if b = true then te σ2 H3 fun y H4 => ∃ acc, H4 D = some (.lst acc) ∧ acc.length < sizeLine ∧ Nx (upd H4 D (.lst (acc ++ [y]))) else Nx H3) := by
  refine lc_list (K := K) (a := a) (xs := xs) (tt := tYes) (fun i G => Same H1 G ∧ G D = some (.lst ((xs.take i).map ψ))) ⟨Same.new hD _, upd_same⟩ (fun i G _ z => z.1.seq hS) ?_ ?_
  · rintro i x G hi ⟨sm, hl2⟩
    refine hs x G _ (List.mem_of_getElem? hi) sm fun H4 s4 => ⟨_, s4 _ _ hl2, ?_, fun b o z => ?_, ?_⟩
    · have := (List.getElem?_eq_some_iff.mp hi).1
      rw [List.length_map, List.length_take]
      exact Nat.lt_of_lt_of_le (by omega : _ < 10001) (by decide)
    · rw [upd_ne (ne_of_none z hD)]
      exact s4 _ _ (sm _ _ z)
    · rw [upd_same, take_snoc hi, List.map_append]
      rfl
  · rintro G ⟨sm, h⟩
    rw [List.take_of_length_le (Nat.le_refl _)] at h
    exact hd G sm h
theorem lc_mapRT (hD : H1 D = none) (hS : SqT K H1 a xs) (hl : xs.length ≤ 10000)
    (hs : ∀ x G (R : V → Hp → Prop), x ∈ xs → Same H1 G → (∀ H4, Same G H4 → R (ψ x) H4) → g x (wipe σ vs) G fun σ2 H2 => wipe σ2 vs = wipe σ vs ∧ te σ2 H2 R)
    (hd : ∀ G, Same H1 G → G D = some (.lst (xs.reverse.map ψ)) → Qd G) :
    ∃ W : Nat → Nat → Hp → Prop, (∃ m, W 0 m (upd H1 D (.lst []))) ∧ ∀ i m H, W i m H →
      ((RT.ItvT K a xs.length).stop i H ∧ Qd H) ∨ ((RT.ItvT K a xs.length).go i H ∧ ∃ Nx : Hp → Prop, (∀ H', Nx H' → ∃ m', m' < m ∧ W (i + 1) m' H') ∧ ∀ x H', (RT.ItvT K a xs.length).yld i H x H' → g x (wipe σ vs) H' fun σ2 H2 => wipe σ2 vs = wipe σ vs ∧ tYes σ2 H2 fun b H3 =>
        if b = true then te σ2 H3 fun y H4 => ∃ acc, H4 D = some (.lst acc) ∧ acc.length < sizeLine ∧ Nx (upd H4 D (.lst (acc ++ [y]))) else Nx H3) := by
  refine ⟨fun i m G => m = xs.length - i ∧ i ≤ xs.length ∧ Same H1 G ∧ G D = some (.lst ((xs.reverse.take i).map ψ)), ⟨_, rfl, Nat.zero_le _, Same.new hD _, upd_same⟩, ?_⟩
  rintro i m G ⟨rfl, hi, sm, hl2⟩
  rcases Nat.lt_or_ge i xs.length with lt | ge
  · have hS' := (Tp.same sm).sqT hS
    have lt' : xs.length - 1 - i < xs.length := by omega
    have hx : xs[xs.length - 1 - i]? = some xs[xs.length - 1 - i] := List.getElem?_eq_getElem lt'
    have hr : xs.reverse[i]? = some xs[xs.length - 1 - i] := by rw [List.getElem?_reverse lt]; exact hx
    refine .inr ⟨⟨lt, xs, _, hS', hx⟩, fun G => Same H1 G ∧ G D = some (.lst ((xs.reverse.take (i + 1)).map ψ)), fun H' z => ⟨_, (by omega : xs.length - (i + 1) < xs.length - i), rfl, by omega, z.1, z.2⟩, ?_⟩
    rintro x G' ⟨rfl, hy⟩
    have ex := (hy xs hS').symm.trans hx
    cases ex
    refine hs _ G' _ (List.getElem_mem lt') sm fun H4 s4 => ⟨_, s4 _ _ hl2, ?_, fun b o z => ?_, ?_⟩
    · rw [List.length_map, List.length_take, List.length_reverse]
      exact Nat.lt_of_lt_of_le (by omega : _ < 10001) (by decide)
    · rw [upd_ne (ne_of_none z hD)]
      exact s4 _ _ (sm _ _ z)
    · rw [upd_same, take_snoc hr, List.map_append]
      rfl
  · refine .inl ⟨ge, hd G sm ?_⟩
    rw [hl2, List.take_of_length_le (by rw [List.length_reverse]; exact ge)]
end
/-! ### words -/
def ab (n : Int) : Int := if n < 0 then -n else n
def isLet (n : Int) : Bool := decide (n ≠ 0) && decide (ab n ≤ 40)
def okW (ns : List Int) : Bool := decide (ns.length ≤ 300) && ns.all isLet
def inv (ns : List Int) : List Int := ns.reverse.map fun n => -n
def sgn (m l : Int) : Int := if 0 < l then m else -m
def shf (k : Int) (ns : List Int) : List Int := ns.map fun n => sgn (ab n + k) n
abbrev WT (K : PySem.W.Frag) (H : Hp) (a : Addr) (ns : List Int) : Prop := SqT K H a (ns.map V.int)
theorem cat_ok {K : PySem.W.Frag} {H : Hp} {a b : Addr} {xs ys : List V} {Q : VK} (ha : SqT K H a xs) (hb : SqT K H b ys) (hl : xs.length + ys.length ≤ sizeLine) (q : ∀ p H', Same H H' → SqT K H' p (xs ++ ys) → Q (.ref p) H') : rCatA K (.ref a) (.ref b) H Q := by
  refine ⟨a, b, xs, ys, rfl, rfl, ha, hb, hl, fun e => ?_, fun _ e => ?_, fun _ _ p np => ?_⟩
  · subst e
    exact q b H (Same.refl _) hb
  · subst e
    exact q a H (Same.refl _) (by rw [List.append_nil]; exact ha)
  · exact q p _ (Same.new np _) (SqT.here upd_same)
def vInt : V → Int
  | .int n => n
  | _ => 0
theorem map_int {ψ : Int → V} (ns : List Int) : (ns.map V.int).map (fun v => ψ (vInt v)) = ns.map ψ := by
  rw [List.map_map]
  rfl
theorem mem_int {ns : List Int} {x : V} (h : x ∈ ns.map V.int) : ∃ n, n ∈ ns ∧ x = .int n := by
  obtain ⟨n, h1, h2⟩ := List.mem_map.mp h
  exact ⟨n, h1, h2.symm⟩
def spLet : Sp := fun vs H Q _ => ∃ n : Int, vs = [.int n] ∧ Q (.bl (isLet n)) H
def spAre (K : PySem.W.Frag) : Sp := fun vs H Q _ => ∃ (a : Addr) (ns : List Int), vs = [.ref a] ∧ WT K H a ns ∧ ns.length ≤ 10000 ∧ ∀ H', Same H H' → Q (.bl (ns.all isLet)) H'
def spChkW (K : PySem.W.Frag) (C : Addr) : Sp := fun vs H Q E => ∃ (a : Addr) (ns : List Int), vs = [.ref a] ∧ WT K H a ns ∧ ns.length ≤ 10000 ∧ (okW ns = true → ∀ H', Same H H' → Q .non H') ∧ (okW ns = false → ∀ H', Same H H' → E (.ref C) none H')
/-- a def over one word that gives a new one -/
def spWW (K : PySem.W.Frag) (φ : List Int → List Int) : Sp := fun vs H Q _ => ∃ (a : Addr) (ns : List Int), vs = [.ref a] ∧ WT K H a ns ∧ ns.length ≤ 10000 ∧ ∀ p H', Same H H' → WT K H' p (φ ns) → Q (.ref p) H'
def spSgn : Sp := fun vs H Q _ => ∃ m l : Int, vs = [.int m, .int l] ∧ Q (.int (sgn m l)) H
def spShf (K : PySem.W.Frag) : Sp := fun vs H Q _ => ∃ (a : Addr) (ns : List Int) (k : Int), vs = [.ref a, .int k] ∧ WT K H a ns ∧ ns.length ≤ 10000 ∧ ∀ p H', Same H H' → WT K H' p (shf k ns) → Q (.ref p) H'
/-- inverse: the word, or the error -/
def spInvE (K : PySem.W.Frag) (C : Addr) : Sp := fun vs H Q E => ∃ (a : Addr) (ns : List Int), vs = [.ref a] ∧ WT K H a ns ∧ ns.length ≤ 10000 ∧ (okW ns = true → ∀ p H', Same H H' → WT K H' p (inv ns) → Q (.ref p) H') ∧ (okW ns = false → ∀ H', Same H H' → E (.ref C) none H')
/-- shifted: the word, or the first error -/
def spShfE (K : PySem.W.Frag) (CW CS : Addr) : Sp := fun vs H Q E => ∃ (a : Addr) (ns : List Int) (k : Int), vs = [.ref a, .int k] ∧ WT K H a ns ∧ ns.length ≤ 10000 ∧ (okW ns = true → 0 ≤ k → k ≤ 20 → (shf k ns).all isLet = true → ∀ p H', Same H H' → WT K H' p (shf k ns) → Q (.ref p) H') ∧
  (okW ns = false → ∀ H', Same H H' → E (.ref CW) none H') ∧ (okW ns = true → ¬ (0 ≤ k ∧ k ≤ 20) → ∀ H', Same H H' → E (.ref CS) none H') ∧ (okW ns = true → 0 ≤ k → k ≤ 20 → (shf k ns).all isLet = false → ∀ H', Same H H' → E (.ref CW) none H')
/-- the law's sign, step by sign -/
def lsg (n : Int) : Int := if 0 < n then 1 else -1
theorem shf_law (k n : Int) : n + k * lsg n = sgn (ab n + k) n := by
  unfold lsg sgn ab
  by_cases h : 0 < n
  · rw [if_pos h, if_pos h, if_neg (by omega), Int.mul_one]
  · rw [if_neg h, if_neg h]
    by_cases h2 : n < 0
    · rw [if_pos h2, Int.mul_neg, Int.mul_one]
      omega
    · rw [if_neg h2, Int.mul_neg, Int.mul_one]
      omega
def spSign : Sp := fun vs H Q _ => ∃ n : Int, vs = [.int n] ∧ Q (.int (lsg n)) H
/-- the law's own shift: a step below 2 ^ 64 -/
def spShfL (K : PySem.W.Frag) : Sp := fun vs H Q _ => ∃ (a : Addr) (ns : List Int) (k : Int), vs = [.ref a, .int k] ∧ WT K H a ns ∧ ns.length ≤ 10000 ∧ -1000 ≤ k ∧ k ≤ 1000 ∧ ∀ p H', Same H H' → WT K H' p (shf k ns) → Q (.ref p) H'
theorem shf_len (k : Int) (ns : List Int) : (shf k ns).length = ns.length := by unfold shf; rw [List.length_map]
theorem inv_len (ns : List Int) : (inv ns).length = ns.length := by unfold inv; rw [List.length_map, List.length_reverse]
structure BltW (mg : Str → Option Value) : Prop where
  abs : mg "abs" = none
  reversed : mg "reversed" = none
  any : mg "any" = none
structure CstW (mg : Str → Option Value) : Prop where
  MAX_LETTER : ∃ t, mg "MAX_LETTER" = some (.int 40 t)
  MAX_LETTERS : ∃ t, mg "MAX_LETTERS" = some (.int 300 t)
end OPN
section WDT
def wD (ns : List Int) : PyData := .tuple (ns.map .int)
theorem dp_ints {K : PySem.W.Frag} {H : Hp} : ∀ ns : List Int, DpAll K H (ns.map V.int) (ns.map PyData.int)
  | [] => .nil
  | n :: ns => .cons (.int n) (dp_ints ns)
theorem dp_wt {K : PySem.W.Frag} {H : Hp} {p : Addr} {ns : List Int} (h : WT K H p ns) : Dp K H (.ref p) (wD ns) := Dp.tup h (dp_ints ns)
theorem lay_ints : ∀ ns : List Int, PyData.canLayAll0 (ns.map .int) = true
  | [] => rfl
  | n :: ns => by
    show (PyData.canLay0 (.int n) && PyData.canLayAll0 (ns.map .int)) = true
    rw [lay_ints ns]
    rfl
theorem depth_ints : ∀ ns : List Int, PyData.depthAll (ns.map .int) ≤ 1
  | [] => Nat.zero_le _
  | n :: ns => by
    have h := depth_ints ns
    have e : (PyData.int n).depth ≤ 1 := by first | exact Nat.le_refl _ | exact Nat.zero_le _
    show max (PyData.int n).depth (PyData.depthAll (ns.map .int)) ≤ 1
    omega
theorem wD_depth (ns : List Int) : (wD ns).depth ≤ 2 := by
  have h := depth_ints ns
  show PyData.depthAll (ns.map .int) + 1 ≤ 2
  omega
theorem wD_shaped (ns : List Int) : SeqAt.shaped (wD ns) = true := by
  have h := wD_depth ns
  unfold SeqAt.shaped
  rw [show (wD ns).canLay0 = PyData.canLayAll0 (ns.map .int) from rfl, lay_ints, decide_eq_true (by omega)]
  rfl
theorem wide_ints : ∀ ns : List Int, wideAll (ns.map .int) = true
  | [] => rfl
  | n :: ns => by
    show (wide (.int n) && wideAll (ns.map .int)) = true
    rw [wide_ints ns]
    rfl
theorem wD_wide {ns : List Int} (h : ns.length ≤ 1000) : wide (wD ns) = true := by
  show (decide ((ns.map PyData.int).length ≤ 1000) && wideAll (ns.map .int)) = true
  rw [List.length_map, decide_eq_true h, wide_ints]
  rfl
/-- the same word twice -/
theorem same_w {K : PySem.W.Frag} {H : Hp} {p q : Addr} {ns : List Int} {Q : VK} {E : XK} (h1 : WT K H p ns) (h2 : WT K H q ns) (hl : ns.length ≤ 1000) (k : ∀ H', Same H H' → Q (.bl true) H') : spSame K 12 [.ref p, .ref q] H Q E :=
  ⟨_, _, wD ns, rfl, dp_wt h1, dp_wt h2, wD_shaped ns, by have := wD_depth ns; omega, wD_wide hl, k⟩
theorem ne_w {K : PySem.W.Frag} {H : Hp} {p q : Addr} {ns : List Int} {Q : VK} (h1 : WT K H p ns) (h2 : WT K H q ns) (k : Q (.bl false) H) : rNeD K (.ref p) (.ref q) H Q := by
  refine ⟨wD ns, wD ns, dp_wt h1, dp_wt h2, wD_shaped ns, wD_shaped ns, ?_⟩
  rw [SeqAt.eqv_refl _ (SeqAt.canLay_of_shaped (wD_shaped ns))]
  exact k
theorem eq_w {K : PySem.W.Frag} {H : Hp} {p q : Addr} {ns : List Int} {Q : VK} (h1 : WT K H p ns) (h2 : WT K H q ns) (k : Q (.bl true) H) : rEqD K (.ref p) (.ref q) H Q := by
  refine ⟨wD ns, wD ns, dp_wt h1, dp_wt h2, wD_shaped ns, wD_shaped ns, ?_⟩
  rw [SeqAt.eqv_refl _ (SeqAt.canLay_of_shaped (wD_shaped ns))]
  exact k
end WDT
theorem Tp.extN {H H' : Hp} (e : LamX.ExtN H H') : Tp H H' := fun b xs h => by
  rcases h with h | ⟨o, h⟩
  · exact .inl (e _ _ h (fun _ => by intro y; cases y))
  · exact .inr ⟨o, e _ _ h (fun _ => by intro y; cases y)⟩
theorem Rng.extN {H H' : Hp} {r : Addr} (e : LamX.ExtN H H') (h : Rng H r) : Rng H' r := by
  obtain ⟨c, ns, i, b, s, h1, h2, h3⟩ := h
  exact ⟨c, ns, i, b, s, e _ _ h1 (fun _ => by intro y; cases y), e _ _ h2 (fun _ => by intro y; cases y), h3⟩
theorem tabs1 {Pt : Addr} {q : Str} {H : Hp} (h : H Pt = some (.tbl #[])) : LamX.Tabs [(Pt, q)] H := fun p hp => by
  rw [List.mem_singleton.mp hp]
  exact ⟨#[], h, by trivial, fun _ _ z => (nomatch z)⟩
/-- an error's word and no field -/
def eD (j : Nat) : PyData := .tuple [.str (en j), .none]
theorem eD_shaped : ∀ j < 20, SeqAt.shaped (eD j) = true := by decide +kernel
theorem eq_e {K : PySem.W.Frag} {H : Hp} {p q : Addr} {j : Nat} {Q : VK} (hj : j < 20) (h1 : SqT K H p [.str (en j), .non]) (h2 : SqT K H q [.str (en j), .non]) (k : Q (.bl true) H) : rEqD K (.ref p) (.ref q) H Q := by
  refine ⟨eD j, eD j, Dp.tup h1 (.cons (.str _) (.cons .non .nil)), Dp.tup h2 (.cons (.str _) (.cons .non .nil)), eD_shaped j hj, eD_shaped j hj, ?_⟩
  rw [SeqAt.eqv_refl _ (SeqAt.canLay_of_shaped (eD_shaped j hj))]
  exact k
/-! ### the word of a term -/
def wd : Tree → List Int
  | .L => []
  | .N l r => ((wd l ++ shf 1 (wd r)) ++ [1]) ++ shf 1 (inv (wd l))
def lwd : Tree → List Int
  | .L => []
  | .N l r => ((lwd l ++ shf 1 (lwd r)) ++ [1]) ++ inv (shf 1 (lwd l))
theorem wd_lenN (l r : Tree) : (wd (.N l r)).length = 2 * (wd l).length + (wd r).length + 1 := by
  show (((wd l ++ shf 1 (wd r)) ++ [1]) ++ shf 1 (inv (wd l))).length = _
  rw [List.length_append, List.length_append, List.length_append, shf_len, shf_len, inv_len, List.length_singleton]
  omega
def wtab : List (List Nat) := [[0, 0, 0, 0, 0, 0, 0, 0, 0, 0, 0, 0, 0], [0, 0, 1, 1, 1, 1, 1, 1, 1, 1, 1, 1, 1], [0, 0, 1, 3, 4, 4, 4, 4, 4, 4, 4, 4, 4], [0, 0, 1, 3, 7, 9, 10, 12, 13, 13, 13, 13, 13], [0, 0, 1, 3, 7, 15, 19, 21, 25, 27, 28, 32, 34], [0, 0, 1, 3, 7, 15, 31, 39, 43, 51, 55, 57, 65], [0, 0, 1, 3, 7, 15, 31, 63, 79, 87, 103, 111, 115]]
def wt (d n : Nat) : Nat := (wtab.getD d []).getD n 0
theorem wt_all : ((List.range 6).all fun d => (List.range 12).all fun a => (List.range 12).all fun b => decide (0 < a → 0 < b → a + b ≤ 12 → 2 * wt d a + wt d b + 1 ≤ wt (d + 1) (a + b))) = true := by decide +kernel
theorem wt_step (d : Nat) (hd : d < 6) (a : Nat) (ha : a < 12) (b : Nat) (hb : b < 12) : 0 < a → 0 < b → a + b ≤ 12 → 2 * wt d a + wt d b + 1 ≤ wt (d + 1) (a + b) := by
  have h1 := List.all_eq_true.mp wt_all d (List.mem_range.mpr hd)
  have h2 := List.all_eq_true.mp h1 a (List.mem_range.mpr ha)
  have h3 := List.all_eq_true.mp h2 b (List.mem_range.mpr hb)
  exact of_decide_eq_true h3
theorem wd_tab : ∀ (d : Nat), d ≤ 6 → ∀ t : Tree, t.dp ≤ d → t.sz ≤ 12 → (wd t).length ≤ wt d t.sz
  | d, _, .L, _, _ => Nat.zero_le _
  | 0, _, .N l r, h, _ => absurd (show max l.dp r.dp + 1 ≤ 0 from h) (by omega)
  | d + 1, hd, .N l r, h, hz => by
    have h : max l.dp r.dp + 1 ≤ d + 1 := h
    have hz : l.sz + r.sz ≤ 12 := hz
    have p1 := l.sz_pos
    have p2 := r.sz_pos
    have h1 := wd_tab d (by omega) l (by omega) (by omega)
    have h2 := wd_tab d (by omega) r (by omega) (by omega)
    have h3 := wt_step d (by omega) l.sz (by omega) r.sz (by omega) p1 p2 hz
    rw [wd_lenN]
    show _ ≤ wt (d + 1) (l.sz + r.sz)
    omega
theorem wt_top : ∀ n < 13, wt 6 n ≤ 115 := by decide +kernel
theorem wd_len {t : Tree} (hd : t.dp ≤ 6) (hz : t.sz ≤ 12) : (wd t).length ≤ 115 := Nat.le_trans (wd_tab 6 (Nat.le_refl _) t hd hz) (wt_top _ (by omega))
theorem ab_pos {n : Int} (h : 0 < n) : ab n = n := if_neg (by omega)
theorem ab_neg {n : Int} (h : n < 0) : ab n = -n := if_pos h
theorem shf_let {k n : Int} (hk : 0 ≤ k) (h : n ≠ 0) : sgn (ab n + k) n ≠ 0 ∧ ab (sgn (ab n + k) n) = ab n + k := by
  unfold sgn
  rcases Int.lt_or_gt_of_ne h with h | h
  · rw [if_neg (by omega), ab_neg h, ab_neg (by omega)]
    omega
  · rw [if_pos h, ab_pos h, ab_pos (by omega)]
    omega
theorem inv_let {n : Int} (h : n ≠ 0) : -n ≠ 0 ∧ ab (-n) = ab n := by
  rcases Int.lt_or_gt_of_ne h with h | h
  · rw [ab_neg h, ab_pos (by omega)]
    omega
  · rw [ab_pos h, ab_neg (by omega)]
    omega
/-- every letter is no 0 and at most m -/
def Lets (m : Int) (ns : List Int) : Prop := ∀ n ∈ ns, n ≠ 0 ∧ ab n ≤ m
theorem Lets.mono {m m' : Int} {ns : List Int} (h : m ≤ m') (l : Lets m ns) : Lets m' ns := fun n hn => ⟨(l n hn).1, Int.le_trans (l n hn).2 h⟩
theorem Lets.app {m : Int} {ns ms : List Int} (h1 : Lets m ns) (h2 : Lets m ms) : Lets m (ns ++ ms) := fun n hn => (List.mem_append.mp hn).elim (h1 n) (h2 n)
theorem Lets.shf {m k : Int} (hk : 0 ≤ k) {ns : List Int} (h : Lets m ns) : Lets (m + k) (shf k ns) := fun n hn => by
  obtain ⟨x, hx, rfl⟩ := List.mem_map.mp hn
  have a := h x hx
  have b := shf_let hk a.1
  exact ⟨b.1, by rw [b.2]; omega⟩
theorem Lets.inv {m : Int} {ns : List Int} (h : Lets m ns) : Lets m (inv ns) := fun n hn => by
  obtain ⟨x, hx, rfl⟩ := List.mem_map.mp hn
  have a := h x (List.mem_reverse.mp hx)
  have b := inv_let a.1
  exact ⟨b.1, by rw [b.2]; exact a.2⟩
theorem Lets.all {m : Int} (hm : m ≤ 40) {ns : List Int} (h : Lets m ns) : ns.all isLet = true := by
  rw [List.all_eq_true]
  intro n hn
  have a := h n hn
  unfold isLet
  rw [decide_eq_true a.1, decide_eq_true (by omega)]
  rfl
theorem okW_of {m : Int} (hm : m ≤ 40) {ns : List Int} (h : Lets m ns) (hl : ns.length ≤ 300) : okW ns = true := by
  unfold okW
  rw [decide_eq_true hl, h.all hm]
  rfl
theorem wd_lets : ∀ t : Tree, Lets t.dp (wd t)
  | .L => fun n hn => by cases hn
  | .N l r => by
    have h1 := wd_lets l
    have h2 := wd_lets r
    have e : ((Tree.N l r).dp : Int) = ((max l.dp r.dp + 1 : Nat) : Int) := rfl
    rw [e]
    refine Lets.app (Lets.app (Lets.app (h1.mono (by omega)) ((h2.shf (by omega)).mono (by omega))) ?_) ((h1.inv.shf (by omega)).mono (by omega))
    intro n hn
    rw [List.mem_singleton.mp hn, ab_pos (by decide)]
    exact ⟨by decide, by omega⟩
theorem shf_inv {k : Int} {ns : List Int} (h : ∀ n ∈ ns, n ≠ 0) : inv (shf k ns) = shf k (inv ns) := by
  unfold inv shf
  rw [← List.map_reverse, List.map_map, List.map_map]
  apply List.map_congr_left
  intro n hn
  have h0 := h n (List.mem_reverse.mp hn)
  show -(sgn (ab n + k) n) = sgn (ab (-n) + k) (-n)
  rw [(inv_let h0).2]
  unfold sgn
  rcases Int.lt_or_gt_of_ne h0 with h | h
  · rw [if_neg (by omega), if_pos (by omega)]
    omega
  · rw [if_pos h, if_neg (by omega)]
theorem lwd_eq : ∀ t : Tree, lwd t = wd t
  | .L => rfl
  | .N l r => by
    show ((lwd l ++ shf 1 (lwd r)) ++ [1]) ++ inv (shf 1 (lwd l)) = ((wd l ++ shf 1 (wd r)) ++ [1]) ++ shf 1 (inv (wd l))
    rw [lwd_eq l, lwd_eq r, shf_inv fun n hn => (wd_lets l n hn).1]
def spWd (K : PySem.W.Frag) (g : Tree → List Int) (n : Nat) : Sp := fun vs H Q _ => ∃ (v : V) (t : Tree), vs = [v] ∧ TA K H v t ∧ t.dp < n ∧ t.dp ≤ 6 ∧ t.sz ≤ 12 ∧ ∀ p H', Same H H' → WT K H' p (g t) → Q (.ref p) H'
theorem spWd_no {K : PySem.W.Frag} {g : Tree → List Int} : ∀ vs H Q E, ¬ spWd K g 0 vs H Q E := fun vs H Q E h => by
  obtain ⟨v, t, _, _, h, _⟩ := h
  omega
/-- word_of: the word, or the error -/
def spWordE (K : PySem.W.Frag) (C : Addr) : Sp := fun vs H Q E => ∃ (v : V) (d : PyData), vs = [v] ∧ NT K H v d ∧ ndD d ≤ 1000 ∧ (∀ t : Tree, d = t.d → t.sz ≤ 12 → t.dp ≤ 6 → ∀ p H', Same H H' → WT K H' p (wd t) → Q (.ref p) H') ∧ (okd d = false → ∀ H', Same H H' → E (.ref C) none H')
theorem wfits {a b : List Int} (h : a.length + b.length ≤ 10000) : (a.map V.int).length + (b.map V.int).length ≤ sizeLine := by
  rw [List.length_map, List.length_map]
  exact Nat.le_trans h (by decide)
theorem cat_w {K : PySem.W.Frag} {H : Hp} {a b : Addr} {ns ms : List Int} {Q : VK} (ha : WT K H a ns) (hb : WT K H b ms) (hl : ns.length + ms.length ≤ 10000) (q : ∀ p H', Same H H' → WT K H' p (ns ++ ms) → Q (.ref p) H') : rCatA K (.ref a) (.ref b) H Q :=
  cat_ok ha hb (wfits hl) fun p H' sm h => q p H' sm (by rw [WT, List.map_append]; exact h)
theorem d_inj : ∀ {t u : Tree}, t.d = u.d → t = u
  | .L, .L, _ => rfl
  | .L, .N _ _, h => by
    have h : PyData.tuple [] = .tuple [_, _] := h
    injection h with h
    cases h
  | .N _ _, .L, h => by
    have h : PyData.tuple [_, _] = .tuple [] := h
    injection h with h
    cases h
  | .N l r, .N l' r', h => by
    have h : PyData.tuple [l.d, r.d] = .tuple [l'.d, r'.d] := h
    injection h with h
    injection h with h1 h2
    injection h2 with h2 _
    rw [d_inj h1, d_inj h2]
/-! ### the draws' state, its list of cells named -/
def RngC (H : Hp) (r c : Addr) : Prop := ∃ (ns : List Int) (i b s : Int), H r = some (.lst [.ref c, .int i, .int b, .int s]) ∧ H c = some (.lst (ns.map V.int)) ∧ c ≠ r ∧ 0 ≤ i ∧ 0 ≤ b ∧ 0 ≤ s ∧ s < 2147483647
theorem Rng.toC {H : Hp} {r : Addr} (h : Rng H r) : ∃ c, RngC H r c := by
  obtain ⟨c, h⟩ := h
  exact ⟨c, h⟩
theorem RngC.rng {H : Hp} {r c : Addr} (h : RngC H r c) : Rng H r := ⟨c, h⟩
theorem RngC.keep {H H' : Hp} {r c : Addr} (h : RngC H r c) (e1 : ∀ o, H r = some o → H' r = some o) (e2 : ∀ o, H c = some o → H' c = some o) : RngC H' r c := by
  obtain ⟨ns, i, b, s, h1, h2, h3⟩ := h
  exact ⟨ns, i, b, s, e1 _ h1, e2 _ h2, h3⟩
theorem RngC.same {H H' : Hp} {r c : Addr} (e : Same H H') (h : RngC H r c) : RngC H' r c := h.keep (e _) (e _)
theorem RngC.lst {H : Hp} {r c : Addr} (h : RngC H r c) : ∃ ys, H r = some (.lst ys) := h.rng.lst
theorem RngC.ne {H : Hp} {r c p : Addr} (h : RngC H r c) (e : H p = none) : p ≠ r ∧ p ≠ c := by
  obtain ⟨ns, i, b, s, h1, h2, h3⟩ := h
  refine ⟨fun z => ?_, fun z => ?_⟩
  · rw [z, h1] at e
    cases e
  · rw [z, h2] at e
    cases e
theorem RngC.set {H : Hp} {r c p : Addr} {o : HO} (h : RngC H r c) (n : p ≠ r ∧ p ≠ c) : RngC (upd H p o) r c :=
  h.keep (fun o e => by rw [upd_ne (Ne.symm n.1)]; exact e) (fun o e => by rw [upd_ne (Ne.symm n.2)]; exact e)
theorem RngC.extN {H H' : Hp} {r c : Addr} (e : LamX.ExtN H H') (h : RngC H r c) : RngC H' r c := by
  obtain ⟨ns, i, b, s, h1, h2, h3⟩ := h
  exact ⟨ns, i, b, s, e _ _ h1 (fun _ => by intro y; cases y), e _ _ h2 (fun _ => by intro y; cases y), h3⟩
theorem RngC.tp {H H' : Hp} {r c : Addr} (R : RngC H r c) (b : But r H H') : Tp H H' := by
  obtain ⟨ys, hy⟩ := R.lst
  exact Tp.but hy b
theorem RngC.tabs {T : List (Addr × Str)} {H H' : Hp} {r c : Addr} (R : RngC H r c) (b : But r H H') (t : LamX.Tabs T H) : LamX.Tabs T H' := by
  obtain ⟨ys, hy⟩ := R.lst
  exact tabs_set t hy b
theorem tabs_same {T : List (Addr × Str)} {H H' : Hp} (e : Same H H') (t : LamX.Tabs T H) : LamX.Tabs T H' := fun p hp => by
  obtain ⟨ps, h1, h2, h3⟩ := t p hp
  refine ⟨ps, e _ _ h1, h2, fun pos cv ec => ?_⟩
  obtain ⟨c, rfl, hc⟩ := h3 pos cv ec
  exact ⟨c, rfl, e _ _ hc⟩
def spDrawC : Sp := fun vs H Q _ => ∃ (r : Addr) (n : Int) (c : Addr), vs = [.ref r, .int n] ∧ RngC H r c ∧ 0 < n ∧ n < 1073741824 ∧ ∀ (v : Int) (H' : Hp), 0 ≤ v → v < n → RngC H' r c → But r H H' → Q (.int v) H'
theorem spDraw_C {vs : List V} {H : Hp} {Q : VK} {E : XK} (h : spDraw vs H Q E) : spDrawC vs H Q E := by
  obtain ⟨r, n, rfl, R, h1, h2, q⟩ := h
  obtain ⟨c, R⟩ := R.toC
  exact ⟨r, n, c, rfl, R, h1, h2, fun v H' v0 v1 R' b' => q v H' v0 v1 R'.rng b'⟩
def spPickC (K : PySem.W.Frag) : Sp := fun vs H Q _ => ∃ (r l c : Addr) (xs : List V), vs = [.ref r, .ref l] ∧ RngC H r c ∧ (SqL K H l xs ∨ SqT K H l xs) ∧ 0 < xs.length ∧ xs.length ≤ 10000 ∧ l ≠ r ∧ ∀ v H', v ∈ xs → RngC H' r c → But r H H' → Q v H'
theorem spPick_C {K : PySem.W.Frag} {vs : List V} {H : Hp} {Q : VK} {E : XK} (h : spPick K vs H Q E) : spPickC K vs H Q E := by
  obtain ⟨r, l, xs, rfl, R, h1, h2, h3, h4, q⟩ := h
  obtain ⟨c, R⟩ := R.toC
  exact ⟨r, l, c, xs, rfl, R, h1, h2, h3, h4, fun v H' hv R' b' => q v H' hv R'.rng b'⟩
def spTermC (K : PySem.W.Frag) (n : Nat) : Sp := fun vs H Q _ => ∃ (r : Addr) (many : Int) (k : Nat) (c : Addr), k < n ∧ vs = [.ref r, .int many, .int (2 ^ k)] ∧ k ≤ 6 ∧ 1 ≤ many ∧ many ≤ 2 ^ k ∧ RngC H r c ∧
  ∀ (v : V) (t : Tree) (H' : Hp), TA K H' v t → (t.sz : Int) = many → t.dp ≤ k → RngC H' r c → But r H H' → Q v H'
theorem spTerm_C {K : PySem.W.Frag} {n : Nat} {vs : List V} {H : Hp} {Q : VK} {E : XK} (h : spTerm K n vs H Q E) : spTermC K n vs H Q E := by
  obtain ⟨r, m, k, hk, e, h1, h2, h3, R, q⟩ := h
  obtain ⟨c, R⟩ := R.toC
  exact ⟨r, m, k, c, hk, e, h1, h2, h3, R, fun v t H' a b d R' b' => q v t H' a b d R'.rng b'⟩
def spAnyC (K : PySem.W.Frag) : Sp := fun vs H Q _ => ∃ (r : Addr) (top : Int) (c : Addr), vs = [.ref r, .int top] ∧ 1 ≤ top ∧ top ≤ 64 ∧ RngC H r c ∧
  ∀ (v : V) (t : Tree) (H' : Hp), TA K H' v t → (t.sz : Int) ≤ top → t.dp ≤ 6 → RngC H' r c → But r H H' → Q v H'
theorem spAny_C {K : PySem.W.Frag} {vs : List V} {H : Hp} {Q : VK} {E : XK} (h : spAny K vs H Q E) : spAnyC K vs H Q E := by
  obtain ⟨r, m, e, h1, h2, R, q⟩ := h
  obtain ⟨c, R⟩ := R.toC
  exact ⟨r, m, c, e, h1, h2, R, fun v t H' a b d R' b' => q v t H' a b d R'.rng b'⟩
/-! ### tuple * int, also where the tuple itself is given back -/
section OPR
open PySem.Spec PyProof.Rows
theorem tuple_mul_same (l : Addr) (items : Array Value) (n : Nat) (dd : Option Addr) (sl : Array (Option Value)) (x : Int) (u : Tok) (c0 : (decide (x < -(2 ^ 63)) || decide (x ≥ 2 ^ 63)) = false) (c1 : (items.isEmpty || x == 1) = true) :
    Meets (Builtin.«tuple.__mul__» ⟨[.ref l, .int x u], []⟩) (fun _ R s => s.heap.get? l = some { cls := .type "tuple", dict := dd, data := .seq items n, slots := sl } ∧ R (.ok (.ret (Value.ref l))) { s with heap := s.heap, toks := s.toks }) :=
  .of_wp fun prog w A R s h => by
    obtain ⟨hp, g, d, tk, os⟩ := s
    obtain ⟨hl, h⟩ := h
    have f1 := AutoSeq1.idx_int
    wp_walk using wpAny_loadPart' hl
    repeat (first
      | (refine wpAny_ite_false (decide_eq_false (by rw [c0]; exact Bool.false_ne_true)) ?_; wp_walk using wpAny_loadPart' hl)
      | (refine wpAny_ite_true (decide_eq_true c1) ?_; wp_walk using wpAny_loadPart' hl))
    exact ⟨_, rfl, h⟩
theorem op_repS {X : Cx} : OpR X (binaryOp .Mult) (fun x y H Q => ∃ l k xs, x = .ref l ∧ y = .int k ∧ SqT X.K H l xs ∧ (xs = [] ∨ k = 1) ∧ 1 ≤ k ∧ k ≤ 1000 ∧ Q (.ref l) H) := by
  intro pins s σ H x y v u Q I rx ry h
  obtain ⟨l, k, xs, rfl, rfl, hT, hne, h1, h2, q⟩ := h
  cases rx
  obtain ⟨t, rfl⟩ := ry
  obtain ⟨its, r, ⟨⟨cls, dd, data, sl⟩, ho, hc, n, hd⟩, hs⟩ := I.tuple hT
  simp only at hc hd
  subst hc hd
  have c0 : (decide (k < -(2 ^ 63)) || decide (k ≥ 2 ^ 63)) = false := by
    rw [decide_eq_false (by omega), decide_eq_false (by omega)] <;> rfl
  have c1 : (its.toArray.isEmpty || k == 1) = true := by
    rcases hne with e | e
    · subst e
      cases r
      rfl
    · rw [e]
      simp
  exact wpAny_binaryOp_repeat_ref (T := "tuple") (U := "int") (by decide) ⟨_, ho, rfl⟩ (fun s' => typeIs_int s' k t) noFill_tuple_mul PySem.F.fills_int_mul PySem.F.slot_int_rmul repeat_tuple PySem.F.slot_int_index.lookup
    (call_meets PySem.F.slot_int_rmul (typeIs_int s k t) PySem.F.entry_int_rmul (PySem.F.args_int_rmul_2 _ _) (int_rmul_tuple k t l its.toArray n dd sl)
      ⟨ho, rfl, ⟨_, ho, rfl⟩, call_meets PySem.F.slot_tuple_mul ⟨_, ho, rfl⟩ PySem.F.entry_tuple_mul (PySem.F.args_tuple_mul_2 _ _) (tuple_mul_same l its.toArray n dd sl k t c0 c1) ⟨ho, ⟨.ref l, H, I, rfl, q⟩⟩⟩)
def rRepA (K : PySem.W.Frag) : R2 := fun x y H Q => ∃ l k xs, x = .ref l ∧ y = .int k ∧ SqT K H l xs ∧ 1 ≤ k ∧ k ≤ 1000 ∧ xs.length ≤ 1000 ∧ ∀ p H', Same H H' → SqT K H' p (List.replicate k.toNat xs).flatten → Q (.ref p) H'
theorem op_repA {X : Cx} : OpR X (binaryOp .Mult) (rRepA X.K) := by
  intro pins s σ H x y v u Q I rx ry h
  obtain ⟨l, k, xs, rfl, rfl, hT, h1, h2, hz, q⟩ := h
  by_cases hx : xs = []
  · refine op_repS pins s σ H _ _ v u Q I rx ry ⟨l, k, xs, rfl, rfl, hT, .inl hx, h1, h2, q l H (Same.refl _) ?_⟩
    have e : (List.replicate k.toNat xs).flatten = xs := by
      rw [hx]
      simp
    rw [e]
    exact hT
  · by_cases hk : k = 1
    · refine op_repS pins s σ H _ _ v u Q I rx ry ⟨l, k, xs, rfl, rfl, hT, .inr hk, h1, h2, q l H (Same.refl _) ?_⟩
      have e : (List.replicate k.toNat xs).flatten = xs := by
        rw [hk]
        simp
      rw [e]
      exact hT
    · exact op_repT pins s σ H _ _ v u Q I rx ry ⟨l, k, xs, rfl, rfl, hT, hx, by omega, h2, hz, fun p np => q p _ (Same.new np _) (SqT.here upd_same)⟩
end OPR
/-- a word repeated -/
def repW (k : Int) (ns : List Int) : List Int := (List.replicate k.toNat ns).flatten
theorem repW_map (k : Int) (ns : List Int) : (List.replicate k.toNat (ns.map V.int)).flatten = (repW k ns).map V.int := by
  unfold repW
  rw [List.map_flatten, List.map_replicate]
theorem repW_len (k : Int) (ns : List Int) : (repW k ns).length = k.toNat * ns.length := by
  unfold repW
  rw [List.length_flatten, List.map_replicate, List.sum_replicate_nat]
theorem repW_mem {k : Int} {ns : List Int} {n : Int} (h : n ∈ repW k ns) : n ∈ ns := by
  unfold repW at h
  obtain ⟨l, h1, h2⟩ := List.mem_flatten.mp h
  rw [List.eq_of_mem_replicate h1] at h2
  exact h2
theorem rep_w {K : PySem.W.Frag} {H : Hp} {a : Addr} {ns : List Int} {k : Int} {Q : VK} (ha : WT K H a ns) (h1 : 1 ≤ k) (h2 : k ≤ 1000) (hl : ns.length ≤ 1000) (q : ∀ p H', Same H H' → WT K H' p (repW k ns) → Q (.ref p) H') : rRepA K (.ref a) (.int k) H Q :=
  ⟨a, k, _, rfl, rfl, ha, h1, h2, by rw [List.length_map]; exact hl, fun p H' sm h => q p H' sm (by rw [WT, ← repW_map]; exact h)⟩
/-! ### words that are drawn -/
theorem Tp.rng {r : Addr} {H H' : Hp} (R : Rng H r) (b : But r H H') : Tp H H' := by
  obtain ⟨ys, hy⟩ := R.lst
  exact Tp.but hy b
def spAnyW (K : PySem.W.Frag) : Sp := fun vs H Q _ => ∃ (r : Addr) (top wide : Int) (c : Addr), vs = [.ref r, .int top, .int wide] ∧ 0 ≤ top ∧ top ≤ 1000 ∧ 1 ≤ wide ∧ wide ≤ 1000 ∧ RngC H r c ∧
  ∀ (p : Addr) (ns : List Int) (H' : Hp), WT K H' p ns → (ns.length : Int) ≤ top → Lets wide ns → RngC H' r c → But r H H' → Q (.ref p) H'
def spBadW (K : PySem.W.Frag) : Sp := fun vs H Q _ => ∃ r c : Addr, vs = [.ref r] ∧ RngC H r c ∧ ∀ (p : Addr) (ns : List Int) (H' : Hp), WT K H' p ns → okW ns = false → ns.length ≤ 400 → RngC H' r c → But r H H' → Q (.ref p) H'
theorem okW_mem {ns : List Int} {n : Int} (h : n ∈ ns) (hb : isLet n = false) : okW ns = false := by
  unfold okW
  have : ns.all isLet = false := by
    rw [List.all_eq_false]
    exact ⟨n, h, by rw [hb]; decide⟩
  rw [this, Bool.and_false]
theorem okW_long {ns : List Int} (h : 300 < ns.length) : okW ns = false := by
  unfold okW
  rw [decide_eq_false (by omega)]
  rfl
theorem inv_inv (ns : List Int) : inv (inv ns) = ns := by
  unfold inv
  rw [← List.map_reverse, List.map_map, List.reverse_reverse]
  have e : ((fun n : Int => -n) ∘ fun n => -n) = id := by
    funext n
    exact Int.neg_neg n
  rw [e, List.map_id]
theorem okW_inv {m : Int} (hm : m ≤ 40) {ns : List Int} (h : Lets m ns) (hl : ns.length ≤ 300) : okW (inv ns) = true := okW_of hm h.inv (by rw [inv_len]; exact hl)
theorem shf_all {k : Int} (hk : 0 ≤ k) {ns : List Int} (h : Lets 40 ns) : (shf k ns).all isLet = !(ns.any fun n => decide (40 < ab n + k)) := by
  induction ns with
  | nil => rfl
  | cons n ns ih =>
    have h1 := h n List.mem_cons_self
    have h2 := ih fun x hx => h x (List.mem_cons_of_mem _ hx)
    have h3 := shf_let hk h1.1
    show (isLet (sgn (ab n + k) n) && (shf k ns).all isLet) = !(decide (40 < ab n + k) || ns.any fun n => decide (40 < ab n + k))
    rw [h2, Bool.not_or]
    congr 1
    unfold isLet
    rw [decide_eq_true h3.1, h3.2, Bool.true_and]
    by_cases z : ab n + k ≤ 40
    · rw [decide_eq_true z, decide_eq_false (by omega)]
      rfl
    · rw [decide_eq_false z, decide_eq_true (by omega)]
      rfl
def vD (d : PyData) : PyData := .tuple [.str ("value" : Str), d]
theorem vD_shaped (ns : List Int) : SeqAt.shaped (vD (wD ns)) = true := by
  have h := wD_depth ns
  have hs := wD_shaped ns
  have e1 : (vD (wD ns)).canLay0 = (PyData.canLay0 (.str ("value" : Str)) && (PyData.canLay0 (wD ns) && true)) := rfl
  have e2 : (vD (wD ns)).depth = max (PyData.depth (.str ("value" : Str))) (max (wD ns).depth 0) + 1 := rfl
  have e3 : PyData.depth (.str ("value" : Str)) ≤ 1 := by first | exact Nat.le_refl _ | exact Nat.zero_le _
  unfold SeqAt.shaped
  rw [e1, SeqAt.canLay_of_shaped hs, decide_eq_true (by omega)]
  decide +kernel
theorem vD_wide {ns : List Int} (h : ns.length ≤ 1000) : wide (vD (wD ns)) = true := by
  show (decide (2 ≤ 1000) && (true && (wide (wD ns) && true))) = true
  rw [wD_wide h]
  decide
theorem vD_depth (ns : List Int) : (vD (wD ns)).depth < 12 := by
  have h := wD_depth ns
  have e2 : (vD (wD ns)).depth = max (PyData.depth (.str ("value" : Str))) (max (wD ns).depth 0) + 1 := rfl
  have e3 : PyData.depth (.str ("value" : Str)) ≤ 1 := by first | exact Nat.le_refl _ | exact Nat.zero_le _
  omega
theorem dp_vD {K : PySem.W.Frag} {H : Hp} {q p : Addr} {ns : List Int} (h : SqT K H q [.str ("value" : Str), .ref p]) (w : WT K H p ns) : Dp K H (.ref q) (vD (wD ns)) := Dp.tup h (.cons (.str _) (.cons (dp_wt w) .nil))
theorem dp_eD {K : PySem.W.Frag} {H : Hp} {q : Addr} {j : Nat} (h : SqT K H q [.str (en j), .non]) : Dp K H (.ref q) (eD j) := Dp.tup h (.cons (.str _) (.cons .non .nil))
theorem eD_wide (j : Nat) : wide (eD j) = true := rfl
theorem eD_depth : ∀ j < 20, (eD j).depth < 12 := by decide +kernel
section OPL
open PySem.Spec PyProof.Rows
/-! ### a lambda whose only parameter has a written int for default, and is not read -/
structure LamSD (N : List Str) (sc scope : Scope) : Prop where
  kind : scope.kind = .function
  co : scope.isCoroutine = false
  gen : scope.isGenerator = false
  own : ∀ y ∈ scope.names, y.2 ≠ .cell ∧ (y.2 = .local → y.1 ∉ N)
  free : ∀ y ∈ scope.names, y.2 = .free → sc.names.lookup y.1 = some .cell ∨ sc.names.lookup y.1 = some .free
def lamSDB (N : List Str) (sc scope : Scope) : Bool :=
  decide (scope.kind = .function) && !scope.isCoroutine && !scope.isGenerator && scope.names.all fun y => !decide (y.2 = .cell) && (!decide (y.2 = .local) || !decide (y.1 ∈ N)) && (!decide (y.2 = .free) || decide (sc.names.lookup y.1 = some .cell) || decide (sc.names.lookup y.1 = some .free))
theorem lamSD_by {N : List Str} {sc scope : Scope} (h : lamSDB N sc scope = true) : LamSD N sc scope := by
  unfold lamSDB at h
  simp only [Bool.and_eq_true, Bool.or_eq_true, Bool.not_eq_true', decide_eq_true_eq, decide_eq_false_iff_not, List.all_eq_true] at h
  obtain ⟨⟨⟨h1, h2⟩, h3⟩, h4⟩ := h
  refine ⟨h1, h2, h3, fun y hy => ⟨(h4 y hy).1.1, fun e => ?_⟩, fun y hy e => ?_⟩
  · rcases (h4 y hy).1.2 with z | z
    · exact absurd e z
    · exact z
  · rcases (h4 y hy).2 with (z | z) | z
    · exact absurd e z
    · exact .inl z
    · exact .inr z
theorem LamSD.has {X : Cx} {N : List Str} {scope : Scope} (L : LamSD N X.env.scope scope) (ok : X.Ok) : ∀ y ∈ scope.names, y.2 = .free → ∃ c, X.env.cells.lookup y.1 = some c := fun y hy e => by
  rcases L.free y hy e with k | k
  · exact ok.has _ (.inl k)
  · exact ok.has _ (.inr k)
section
variable {X : Cx} {pins : List (Addr × Obj)} {σ : L2.St} {H HZ : Hp} {s s1 : Shared}
theorem lam_startD {A : Around} {outer : List Env} {E : XK} {scope : Scope} {f c' : Addr} {h₁ : Heap} {tk : Nat} {mb : Str → Option Value} (I : Inv X pins σ H s) (L : LamSD X.N X.env.scope scope) (e0 : Env0 X.prog X.w X.K X.mg X.base A outer s1 HZ) (hd : A.handled = none)
    (un : Un (frs X.stack) [] H HZ s.heap s1.heap) (hns : h₁.Ns s1.heap.objs.size mb) (kp : ∀ b o, s1.heap.get? b = some o → h₁.get? b = some o) :
    Inv (LamX.lamCx X A outer s1 HZ E scope f c') [] σ HZ { s1 with heap := h₁, toks := tk } := by
  have hfree := L.has I.ok
  have cm : ∀ {y c}, (cloFrom X.env.cells scope.names []).lookup y = some c → X.env.cells.lookup y = some c := fun {y c} e => by
    rcases cloFrom_mem (PySem.mem_of_lookup e) with hm | ⟨h1, h2⟩
    · cases hm
    · obtain ⟨c1, hc⟩ := hfree _ h1 rfl
      have hc : X.env.cells.lookup y = some c1 := hc
      have e2 : c = c1 := by
        rw [h2, hc] <;> rfl
      rw [e2]
      exact hc
  have look : ∀ {y}, scope.names.lookup y = some .free → ∃ c, (cloFrom X.env.cells scope.names []).lookup y = some c := fun {y} hl => by
    have hy : (y, NameKind.free) ∈ scope.names := PySem.mem_of_lookup hl
    exact mem_lookup (cloFrom_has (cells := X.env.cells) (acc := []) hy)
  have cellK : ∀ {c : Addr} {v : Option Value}, H c = none → s.heap.IsCell c v → h₁.IsCell c v := fun {c v} n ⟨o, ho, hd⟩ => by
    obtain ⟨sl, q⟩ := un.any ho n (by simp)
    exact ⟨_, kp _ _ q, hd⟩
  have noA : ∀ b : Addr, b ∉ (LamX.lamCx X A outer s1 HZ E scope f c').ex := fun b z => absurd (show b ∈ ([] : List Addr) from z) (by simp)
  refine ⟨⟨e0.mod, L.kind, rfl, rfl, Nat.le_refl _, fun y z c e1 e2 => I.ok.inj y z c (cm e1) (cm e2), fun y hy => ?_, fun y c z _ => ?_, fun _ => hd, Around.frames_deeper e0.frames, .inr ⟨rfl, rfl⟩, fun b z => absurd z (noA b), e0.bs, e0.bsz, fun b _ _ => noA b,
      fun b z => absurd z (noA b), e0.funs, e0.frf⟩,
    rfl, e0.bare, Un.kept kp, ⟨_, hns, fun i y v e1 e2 e3 => ?_⟩, fun y c e => ?_, e0.hok.fresh (Nat.le_refl _), fun y c e => ?_, fun q hq => absurd (show q ∈ ([] : List (Addr × Obj)) ++ [] from hq) (by simp), e0.hok.kept kp, I.len⟩
  · have hy : scope.names.lookup y = some .cell ∨ scope.names.lookup y = some .free := hy
    rcases hy with hy | hy
    · exact absurd rfl (L.own _ (PySem.mem_of_lookup hy)).1
    · exact look hy
  · have z : false = true := z
    cases z
  · have e3 : Vis scope y := e3
    have e1' : X.N[i]? = some y := e1
    rcases e3 with k | k | k
    · exact absurd (List.mem_of_getElem? e1') ((L.own _ (PySem.mem_of_lookup k)).2 rfl)
    · exact absurd rfl (L.own _ (PySem.mem_of_lookup k)).1
    · obtain ⟨m, hn, hl⟩ := I.loc
      have hvis : Vis X.env.scope y := (L.free _ (PySem.mem_of_lookup k) rfl).elim (fun k => .inr (.inl k)) (fun k => .inr (.inr k))
      obtain ⟨w', r, q⟩ := hl i y v e1 e2 hvis
      obtain ⟨c2, h2⟩ := look k
      refine ⟨w', r, .inr ⟨.inr k, c2, h2, ?_⟩⟩
      have c1 := cm h2
      rcases q with ⟨k', _⟩ | ⟨_, c3, e', z⟩
      · have k' : X.env.scope.names.lookup y = some .local := k'
        rcases L.free _ (PySem.mem_of_lookup k) rfl with k2 | k2 <;> rw [show X.env.scope.names.lookup y = _ from k2] at k' <;> cases k'
      · rw [c1] at e'
        cases e'
        exact cellK (I.freeC y _ c1) z
  · obtain ⟨w', z⟩ := I.cell y c (cm e)
    exact ⟨w', cellK (I.freeC y c (cm e)) z⟩
  · obtain ⟨v, o, ho, hd⟩ := I.cell y c (cm e)
    exact un.free c o ho (I.freeC y c (cm e)) (by simp)
theorem lam_makeD {T : List (Addr × Str)} {c P : Addr} {params : Arguments} {body : Expr} {scope : Scope} {pos pz : Pos} {z : Int} {jz : Nat} {Q : Value → Shared → Prop} (I : Inv X pins σ H s) (TB : LamX.TabB X.base X.mg c P) (hcode : X.env.code = .ref c)
    (hm : (P, X.env.qual ++ "<lambda>") ∈ T) (hu : ∀ p ∈ T, p.1 = P → p.2 = X.env.qual ++ "<lambda>") (hT : LamX.Tabs T H) (hd1 : params.defaults = [.Constant (.int z) jz pz]) (hk0 : params.kw_defaults = []) (hfree : ∀ y ∈ scope.names, y.2 = .free → ∃ c, X.env.cells.lookup y.1 = some c)
    (h : ∀ (f c' T0 : Addr) (u doc pm ctv : Value) (H1 : Hp) (s' : Shared), Inv X pins σ H1 s' → LamX.ExtN H H1 → LamX.Tabs T H1 →
      s'.heap.get? f = some (PySem.W.kdv_obj "<lambda>" (X.env.qual ++ "<lambda>") params (.expr body) scope (cloFrom X.env.cells scope.names []) (.ref T0) doc pm c' ctv) → H1 f = none → f ∉ frs X.stack → s'.heap.get? T0 = some (PySem.W.kdv_tup [u]) → H1 T0 = none → T0 ∉ frs X.stack → H1 c' = some (LamX.CodeO c' (X.env.qual ++ "<lambda>")) → Q (.ref f) s') :
    wpAny (model X.prog X.w) X.A (eval (.Lambda params body scope pos) X.env) Q X.xe s := by
  refine PySem.W.kdv_lam (by rw [hd1]; rfl) hk0 ?_
  rw [hd1]
  refine PySem.W.kdv_all1 (thn (pe_int.run pins s σ H (fun v H' => v = .int z ∧ H' = H) I ⟨rfl, rfl⟩) fun u s0 ⟨v, H0, I0, r0, ev, eH⟩ => PySem.W.kdv_all0 ?_)
  subst ev eH
  rw [makeFunction_eq]
  simp only [List.zip_nil_right, List.filterMap_nil, List.isEmpty_nil, if_true, pure_bind, List.isEmpty_cons, Bool.false_eq_true, if_false]
  refine wpAny_bind (wpAny_newTextTuple ?_)
  obtain ⟨ps, hP, ht, ha⟩ := hT _ hm
  have I2 : Inv X pins σ H0 { s0 with heap := s0.heap.push (PySem.W.kdv_tup [u]) } := I0.kept (t' := s0.toks) fun b o e => Heap.get?_push_of_some _ e
  have hT0 : (s0.heap.push (PySem.W.kdv_tup [u])).get? s0.heap.objs.size = some (PySem.W.kdv_tup [u]) := Heap.get?_push_size _ rfl
  have hT0n : H0 s0.heap.objs.size = none := I0.hok.fresh (Nat.le_refl _)
  have bP : (s0.heap.push (PySem.W.kdv_tup [u])).BuiltinsAt X.mg P := TB.bm.keeps I2.bk
  have hP' : (s0.heap.push (PySem.W.kdv_tup [u])).get? P = some { cls := .none, data := .fields ps } := I2.hok P _ hP
  have nofr : ∀ f, s0.heap.objs.size ≤ f → f ∉ frs X.stack := fun f hf z => by
    rcases List.mem_cons.mp (I0.stkSub _ z) with e | e
    · have h1 := I0.lt
      rw [← e] at h1
      exact Nat.lt_irrefl _ (Nat.lt_of_lt_of_le h1 hf)
    · exact I0.nofs hf e
  have sz2 : s0.heap.objs.size ≤ (s0.heap.push (PySem.W.kdv_tup [u])).objs.size := by rw [Heap.size_push]; omega
  have ltT : s0.heap.objs.size < (s0.heap.push (PySem.W.kdv_tup [u])).objs.size := by rw [Heap.size_push]; omega
  have nTP : s0.heap.objs.size ≠ P := fun z => by
    rw [← z, hT0n] at hP
    cases hP
  cases hc : codeAmong pos ps.toList with
  | none =>
    refine PySem.W.kdv_makeTail (s := { s0 with heap := s0.heap.push (PySem.W.kdv_tup [u]) }) (mg := X.mg) (c := c) (P := P) (ps := ps) (closure_ok hfree) I2.ok.glob (I2.mod.glob.keeps I2.bk) hcode (TB.code.keeps I2.bk) hP' ht hc TB.gP bP fun c' ctv doc h' tk hx hge hlt hrec htb => ?_
    obtain ⟨c2, oc, vs, t, e2, hoc, hd, hv⟩ := hrec
    cases e2
    have hsz : (s0.heap.push (PySem.W.kdv_tup [u])).objs.size ≤ h'.objs.size := Nat.le_trans hge (Nat.le_of_lt hlt)
    have nC : H0 c' = none := I2.hok.fresh hge
    have I1 := LamX.inv_table (t' := tk) (more := #[rawInt pos.line, rawInt pos.col, .ref c']) (h' := h'.push (PySem.W.kdv_obj "<lambda>" (X.env.qual ++ "<lambda>") params (.expr body) scope (cloFrom X.env.cells scope.names []) (.ref s0.heap.objs.size) doc ((X.mg "__name__").getD .none) c' ctv)) I2 hP
      (fun b o hb e => Heap.get?_push_of_some _ (hx b o hb e)) (Heap.get?_push_of_some _ htb) hge ⟨oc, vs, t, Heap.get?_push_of_some _ hoc, hd, hv⟩
    have hE : LamX.ExtN H0 (upd (upd H0 P (.tbl (ps ++ #[rawInt pos.line, rawInt pos.col, .ref c']))) c' (LamX.CodeO c' (X.env.qual ++ "<lambda>"))) := fun b o e n => by
      rw [upd_ne (ne_of_none e nC), upd_ne (fun z => n ps (Option.some.inj (e.symm.trans (by rw [z]; exact hP))))]
      exact e
    have eL : (ps ++ #[rawInt pos.line, rawInt pos.col, .ref c']).toList = ps.toList ++ [rawInt pos.line, rawInt pos.col, .ref c'] := by simp
    have nTc : s0.heap.objs.size ≠ c' := Nat.ne_of_lt (Nat.lt_of_lt_of_le ltT hge)
    refine h h'.objs.size c' s0.heap.objs.size u doc ((X.mg "__name__").getD .none) ctv _ _ I1 hE (fun p hp => ?_) (Heap.get?_push_size _ rfl) ?_ (nofr _ (Nat.le_trans sz2 hsz)) (Heap.get?_push_of_some _ (hx _ _ nTP hT0)) ?_ (nofr _ (Nat.le_refl _)) upd_same
    · by_cases hb : p.1 = P
      · rw [hu p hp hb, hb]
        refine ⟨_, by rw [upd_ne (ne_of_none hP nC), upd_same], by rw [eL]; exact PySem.TriplesOk_snoc _ _ _ _ ht, fun p' cv hcv => ?_⟩
        rw [eL] at hcv
        rcases LamX.among_app _ ht hcv with z | z
        · obtain ⟨c0, e1, e2⟩ := ha p' cv z
          exact ⟨c0, e1, hE _ _ e2 LamX.codeO_ne⟩
        · exact ⟨c', z, upd_same⟩
      · obtain ⟨ps', a1, a2, a3⟩ := hT p hp
        refine ⟨ps', by rw [upd_ne (ne_of_none a1 nC), upd_ne hb]; exact a1, a2, fun p' cv hcv => ?_⟩
        obtain ⟨c0, e1, e2⟩ := a3 p' cv hcv
        exact ⟨c0, e1, hE _ _ e2 LamX.codeO_ne⟩
    · have n1 : h'.objs.size ≠ c' := Nat.ne_of_gt hlt
      have n2 : h'.objs.size ≠ P := Nat.ne_of_gt (Nat.lt_of_lt_of_le (Heap.lt_size hP') hsz)
      rw [upd_ne n1, upd_ne n2]
      exact I2.hok.fresh hsz
    · rw [upd_ne nTc, upd_ne nTP]
      exact hT0n
  | some cv =>
    obtain ⟨c', e, hco⟩ := ha pos cv hc
    subst e
    refine PySem.W.kdv_makeTailHit (s := { s0 with heap := s0.heap.push (PySem.W.kdv_tup [u]) }) (mg := X.mg) (c := c) (P := P) (ps := ps) (closure_ok hfree) I2.ok.glob (I2.mod.glob.keeps I2.bk) hcode (TB.code.keeps I2.bk) hP' ht hc bP fun ctv doc h' tk hx hsz => ?_
    have I1 : Inv X pins σ H0 { s0 with heap := h'.push (PySem.W.kdv_obj "<lambda>" (X.env.qual ++ "<lambda>") params (.expr body) scope (cloFrom X.env.cells scope.names []) (.ref s0.heap.objs.size) doc ((X.mg "__name__").getD .none) c' ctv), toks := tk } := I2.kept fun b o e => Heap.get?_push_of_some _ (hx b o e)
    exact h h'.objs.size c' s0.heap.objs.size u doc ((X.mg "__name__").getD .none) ctv H0 _ I1 (LamX.ExtN.refl H0) hT (Heap.get?_push_size _ rfl) (I2.hok.fresh hsz) (nofr _ (Nat.le_trans sz2 hsz)) (Heap.get?_push_of_some _ (hx _ _ hT0)) hT0n (nofr _ (Nat.le_refl _)) hco
theorem pe_actD {CXg : CXT} {Eg : XK} {Ng : List Str} {qg : Str} {sg : Scope} {g f c T0 : Addr} {u doc cdg pm ctv : Value} {params : Arguments} {body : Expr} {scope : Scope} {k i : Nat} {a a0 : Str} {pn : List (Addr × Obj)} {xe : Value → Shared → Prop} {W : WX} {E : L2.St → XK} {tb : XK → TE} {p1 p2 : Pos}
    (I : Inv X pins σ H s) (L : LamSD X.N X.env.scope scope) (hf : s.heap.get? f = some (PySem.W.kdv_obj "<lambda>" (X.env.qual ++ "<lambda>") params (.expr body) scope (cloFrom X.env.cells scope.names []) (.ref T0) doc pm c ctv)) (hfn : H f = none) (hfr : f ∉ frs X.stack)
    (hT0 : s.heap.get? T0 = some (PySem.W.kdv_tup [u])) (hTn : H T0 = none) (hTr : T0 ∉ frs X.stack) (hl0 : scope.names.lookup a0 = some .local)
    (hbind : ∀ (q : Str) (cl : List (Str × Addr)) (dV doc pm cv ctv : Value), ∃ k, bindArgs (PySem.W.kdv_fn "<lambda>" q params (.expr body) scope cl dV doc pm cv ctv) ⟨[], []⟩ = seqItems? dV >>= k ∧ ∀ u, k (some #[u]) = pure [(a0, u)])
    (tk : L2C.Takes ((cxOf CXg X.prog X.w X.K X.mg X.base Ng qg sg g cdg X.A X.stack s H Eg).tr pn xe) W) (hW : ∀ cls d σ2 H2, E σ2 cls d H2 → W cls d σ2 H2) (hr : Room (k + 1) (X.A.deeper (envOfC qg sg s.heap.objs.size g cdg)))
    (hbody : ∀ (A : Around) (outer : List Env) (s : Shared) (H : Hp) (E : XK), Room k (A.deeper (LamX.lamEnv X scope s.heap.objs.size f c)) → PE (lamCxN X A outer s H E scope f c) body (tb E))
    (hN : Ng[i]? = some a) (hv : Vis sg a) (hd : (a == ("__debug__" : Str)) = false := by decide) (hcd : (a == ("__classdict__" : Str)) = false := by decide) :
    PE ((cxOf CXg X.prog X.w X.K X.mg X.base Ng qg sg g cdg X.A X.stack s H Eg).tr pn xe) (.Call (.Name a p1) [] [] p2) (fun σZ HZ Q => σZ[i]? = some (some (.ref f)) ∧ HZ c = some (LamX.CodeO c (X.env.qual ++ "<lambda>")) ∧ tb (E σZ) σ HZ Q) := by
  refine ⟨fun pz sz σz Hz Q Iz ⟨hs, hc, y⟩ => ?_⟩
  refine wpAny_Call_Name_kw (thn ((pe_var (pos := p1) (i := i) hN hv hd hcd).run pz sz σz Hz (fun v H1 => v = .ref f ∧ H1 = Hz) Iz ⟨.ref f, hs, rfl, rfl⟩) fun u' s1 ⟨v, H1, I1, r1, ev, eH⟩ => ?_)
  subst ev eH
  cases (show u' = Value.ref f from r1)
  have of1 := I1.base.keep f _ hf hfn hfr (fun z => nomatch (show f ∈ ([] : List Addr) from z))
  have oT1 := I1.base.keep T0 _ hT0 hTn hTr (fun z => nomatch (show T0 ∈ ([] : List Addr) from z))
  refine PySem.W.callWith_F0 ⟨_, _, _, _, of1⟩ ?_
  obtain ⟨⟨oc, vs, t, hoc, hdc, hvc⟩, _, _⟩ := I1.hok c _ hc
  have run : codeAny (model X.prog X.w) (X.A.deeper (envOfC qg sg s.heap.objs.size g cdg)) (.call (.ref f) ⟨[], []⟩) (CR (L2C.CX X.prog X.w) (envOfC qg sg s.heap.objs.size g cdg :: X.stack) X.prog X.w H1 s1 Q (E σz)) s1 := by
    obtain ⟨kk, hb1, hb2⟩ := hbind (X.env.qual ++ "<lambda>") (cloFrom X.env.cells scope.names []) (.ref T0) doc pm (.ref c) ctv
    have hB : BindsTo s1 (PySem.W.kdv_fn "<lambda>" (X.env.qual ++ "<lambda>") params (.expr body) scope (cloFrom X.env.cells scope.names []) (.ref T0) doc pm (.ref c) ctv) ⟨[], []⟩ [(a0, u)] := BindsTo.of_defaults rfl oT1 rfl hb1 (hb2 u)
    refine PySem.W.kla_callFunE hr.depth of1 rfl L.co L.gen rfl ⟨c, oc, vs, t, rfl, hoc, hdc, hvc⟩ (hB _ _ _ _ ?_)
    refine wpAny_newFunctionEnv (fun y hy => (L.own y hy).1) (fun y hy => by rw [List.mem_singleton.mp hy]; exact hl0) (fun g1 hns hsb => ⟨I1.nolimit.fresh _ hsb, ?_⟩) L.kind
    have kp : ∀ b o, s1.heap.get? b = some o → g1.get? b = some o := fun b o e => hsb.extBut b o (Nat.ne_of_lt (Heap.lt_size e)) (Heap.get?_push_of_some _ e)
    have J := lam_startD (E := E σz) (f := f) (c' := c) (tk := s1.toks + ([(a0, u)] : List (Str × Value)).length) I L I1.env0 hr.hd I1.base hns kp
    refine PySem.W.kla_codeExpr (wpAny_mono ((hbody _ _ s1 H1 (E σz) (hr.deeper _)).run [] _ _ H1 Q (J.wish _) y) (fun v s3 ⟨w3, H3, J3, rv, q⟩ => ⟨w3, H3, J3.os, J3.bare, J3.base, J3.hok, rv, q⟩) fun e s3 z => z)
  refine wpAny_call (codeAny_mono run fun rs s2 hq => ?_)
  cases rs with
  | error e => exact tk e s2 (L2C.XE.of_call I1 (fun cls d H' h => hW cls d σz H' h) hq)
  | ok fl =>
    cases fl with
    | ret u => exact I1.after hq
    | next => exact False.elim hq
    | brk => exact False.elim hq
    | cont => exact False.elim hq
end
theorem pe_lamD {X : Cx} {T : List (Addr × Str)} {TT : (XK → Hp → VK → Prop) → Hp → VK → Prop} {x a a0 : Str} {g c P : Addr} {k : Nat} {pg : Arguments} {bg : List Stmt} {sg : Scope} {dV kV doc pm cdv ct oc : Value} {an od : Option Addr} {osl : Array (Option Value)} {Ng : List Str}
    {params : Arguments} {body : Expr} {scope : Scope} {t : XK → TE} {p lpos pos pz : Pos} {z : Int} {jz : Nat} (hg : Gl X x) (hm : X.mg x = some (.ref g)) (hk : PySem.W.keepIn X.K (.ref g) = true)
    (lk : X.K.lookup g = some ⟨oc, od, .func (PySem.W.fnOf x x pg bg sg dV kV doc pm an cdv ct), osl⟩) (hcg : PySem.W.codeIn X.K cdv x = true) (hb : Binds X.K (PySem.W.fnOf x x pg bg sg dV kV doc pm an cdv ct) [a] []) (Sg : FnScope Ng [a] sg) (hNg : Ng[0]? = some a) (hva : Vis sg a)
    (hG : GivesN X Ng x sg g cdv bg a (X.env.qual ++ "<lambda>") TT) (TB : LamX.TabB X.base X.mg c P) (hcode : X.env.code = .ref c) (hmT : (P, X.env.qual ++ "<lambda>") ∈ T) (hu : ∀ p ∈ T, p.1 = P → p.2 = X.env.qual ++ "<lambda>") (hr : Room (k + 2) X.A) (k40 : 40 ≤ k + 1) (L : LamSD X.N X.env.scope scope) (hd1 : params.defaults = [.Constant (.int z) jz pz]) (hk0 : params.kw_defaults = []) (hl0 : scope.names.lookup a0 = some .local)
    (hbind : ∀ (q : Str) (cl : List (Str × Addr)) (dV doc pm cv ctv : Value), ∃ k, bindArgs (PySem.W.kdv_fn "<lambda>" q params (.expr body) scope cl dV doc pm cv ctv) ⟨[], []⟩ = seqItems? dV >>= k ∧ ∀ u, k (some #[u]) = pure [(a0, u)])
    (hbody : ∀ (A : Around) (outer : List Env) (s : Shared) (H : Hp) (E : XK) (f c2 : Addr), Room k (A.deeper (LamX.lamEnv X scope s.heap.objs.size f c2)) → PE (lamCxN X A outer s H E scope f c2) body (t E))
    (hdb : (x == ("__debug__" : Str)) = false := by decide) (hd : (a == ("__debug__" : Str)) = false := by decide) (hcd : (a == ("__classdict__" : Str)) = false := by decide) :
    PE X (.Call (.Name x p) [.Lambda params body scope lpos] [] pos) (LamX.tLam T TT t) := by
  refine ⟨fun pins s σ H Q I ⟨hT, y⟩ => ?_⟩
  refine wpAny_Call_Name_kw (ld_glob I hg hm (PySem.W.callWith_K (h₀ := X.base) I.ok.mod.kin hk ?_ (by rfl) (by rfl)) hdb)
  show wpAny _ _ (spliced ((false, eval (.Lambda params body scope lpos) X.env) :: backTo pos (starEach [] X.env))) _ _ s
  refine Calls.spliced_cons (lam_makeD I TB hcode hmT hu hT hd1 hk0 (L.has I.ok) fun f c2 T0 u doc2 pm2 ctv H1 s1 I1 eN T1 hf hfn hfr hT0 hTn hTr hco => Calls.spliced_nil ⟨I1.kIn, ?_⟩)
  have run : codeAny (model X.prog X.w) X.A (.call (.ref g) ⟨[.ref f], []⟩) (CR CX0 X.stack X.prog X.w H1 s1 Q E0) s1 := by
    refine LamX.run_ofS (N := Ng) (ps := [a]) (us := [.ref f]) (vs := [.ref f]) lk hcg Sg hr I1.env0 (hb s1 [.ref f] I1.kIn rfl) (.cons rfl .nil) rfl fun hr2 => ?_
    obtain ⟨t2, ht2, hq2⟩ := hG _ f c2 s1 H1 Q (fun E H' Q' => t E σ H' Q') hr2 k40 (fun W pn xe E p1 p2 tk hW => pe_actD (i := 0) I1 L hf hfn hfr hT0 hTn hTr hl0 hbind tk hW hr2 (fun A outer s H E hr3 => hbody A outer s H E f c2 hr3) hNg hva hd hcd) hco (y H1 eN T1)
    exact ⟨t2, ht2.nox, hq2⟩
  refine wpAny_call (codeAny_mono run fun rs s2 hq => ?_)
  cases rs with
  | error e => exact (show False from hq).elim
  | ok fl =>
    cases fl with
    | ret u => exact I1.after hq
    | next => exact False.elim hq
    | brk => exact False.elim hq
    | cont => exact False.elim hq
end OPL
/-! ### paths -/
section OPP
open PySem.Spec PyProof.Rows
theorem op_mulS {X : Cx} : OpR X (binaryOp .Mult) (fun x y H Q => ∃ (z : Str) (n : Int), x = .str z ∧ y = .int n ∧ MulOk z n ∧ Q (.str (Txt.mul z n)) H) := by
  intro pins s σ H x y v u Q I rx ry h
  obtain ⟨z, n, rfl, rfl, ok, q⟩ := h
  obtain ⟨t1, rfl⟩ := rx
  obtain ⟨t2, rfl⟩ := ry
  exact SB.mul ok fun t' k => ⟨.str _, H, I.tok k, ⟨t', rfl⟩, q⟩
end OPP
def okp (z : Str) : Bool := decide (z.length ≤ 60) && decide (V.str (Txt.stripChars z (Str.ofString "01")) = V.str (Str.ofString ""))
theorem pcs_goes : ∀ p : List Bool, (pcs p).takeWhile (Str.ofString "01").cps.contains = pcs p
  | [] => rfl
  | true :: p => by
    show (49 :: pcs p).takeWhile _ = 49 :: pcs p
    rw [List.takeWhile_cons, if_pos (by decide +kernel), pcs_goes p]
  | false :: p => by
    show (48 :: pcs p).takeWhile _ = 48 :: pcs p
    rw [List.takeWhile_cons, if_pos (by decide +kernel), pcs_goes p]
theorem strip_ptx (p : List Bool) : Txt.stripChars (ptx p) (Str.ofString "01") = Str.ofString "" := by
  have e1 : stripLo (Str.ofString "01").cps.contains true (ptx p) = p.length := by
    show ((ptx p).cps.toList.takeWhile _).length = p.length
    rw [ptx_cps, pcs_goes]
    exact List.length_map _
  have e2 : stripHi (Str.ofString "01").cps.contains true (ptx p) p.length = p.length := by
    show (ptx p).length - (((ptx p).cps.toList.drop p.length).reverse.takeWhile _).length = p.length
    have : (ptx p).cps.toList.drop p.length = [] := by
      rw [ptx_cps]
      exact List.drop_eq_nil_of_le (Nat.le_of_eq (List.length_map _))
    rw [this, ptx_len]
    rfl
  cases p with
  | nil => decide +kernel
  | cons b p =>
    show (if stripSame (Str.ofString "01").cps.contains true true (ptx (b :: p)) = true then _ else stripped (Str.ofString "01").cps.contains true true (ptx (b :: p))) = _
    have no : ¬ stripSame (Str.ofString "01").cps.contains true true (ptx (b :: p)) = true := by
      unfold stripSame
      rw [e1, e2]
      intro z
      rw [Bool.and_eq_true] at z
      have z1 : (b :: p).length = 0 := eq_of_beq z.1
      cases z1
    rw [if_neg no]
    unfold stripped
    rw [e1, e2]
    show (⟨(ptx (b :: p)).cps.extract (b :: p).length (b :: p).length⟩ : Str) = ⟨#[]⟩
    congr 1
    simp
    omega
theorem okp_ptx {p : List Bool} (h : p.length ≤ 60) : okp (ptx p) = true := by
  unfold okp
  rw [ptx_len, strip_ptx, decide_eq_true h, decide_eq_true rfl]
  rfl
def spChkP (C : Addr) : Sp := fun vs H Q E => ∃ z : Str, vs = [.str z] ∧ z.length ≤ 1000 ∧ (okp z = true → Q .non H) ∧ (okp z = false → E (.ref C) none H)
/-- what a path asks of a term -/
def PathW (CP CN : Addr) (z : Str) (t : Tree) (E : XK) (H : Hp) (R : Tree → Prop) : Prop := (okp z = false ∧ ∀ H', Same H H' → E (.ref CP) none H') ∨
  ∃ p : List Bool, z = ptx p ∧ p.length ≤ 60 ∧ (t.st p = none → ∀ H', Same H H' → E (.ref CN) none H') ∧ ∀ u, t.st p = some u → R u
def spAlong (K : PySem.W.Frag) (C CP CN : Addr) : Sp := fun vs H Q E => ∃ (x d a b c : Addr) (m : Nat) (z : Str) (ts : List Tree) (t : Tree), vs = [.ref x, .int m, .str z] ∧ z.length ≤ 1000 ∧ PoolA K C x d a b c H ts ∧ ts[m]? = some t ∧
  PathW CP CN z t E H fun u => ∀ (l : Addr) (ms : List V) (k : Nat) (H' : Hp), Same H H' → H l = none → H' l = some (.lst (ms ++ [.int (k : Int)])) → ts[k]? = some u → Q (.ref l) H'
def spSubT (K : PySem.W.Frag) (CI CP CN : Addr) : Sp := fun vs H Q E => ∃ (v : V) (d : PyData) (z : Str), vs = [v, .str z] ∧ z.length ≤ 1000 ∧ NT K H v d ∧ ndD d ≤ 1000 ∧ (okd d = false → ∀ H', Same H H' → E (.ref CI) none H') ∧
  ∀ t : Tree, d = t.d → t.sz ≤ 12 → t.dp ≤ 6 → PathW CP CN z t E H fun u => ∀ (x : V) (H' : Hp), Same H H' → TA K H' x u → Q x H'
def Tree.pts : Tree → List Bool → List (List Bool)
  | .L, p => [p]
  | .N l r, p => ([p] ++ l.pts (p ++ [false])) ++ r.pts (p ++ [true])
theorem Tree.pts_len : ∀ (t : Tree) (p : List Bool), (t.pts p).length = t.nodes
  | .L, p => rfl
  | .N l r, p => by
    show (([p] ++ l.pts (p ++ [false])) ++ r.pts (p ++ [true])).length = l.nodes + r.nodes + 1
    rw [List.length_append, List.length_append, pts_len l, pts_len r, List.length_singleton]
    omega
theorem Tree.pts_le : ∀ (t : Tree) (p q : List Bool), q ∈ t.pts p → q.length ≤ p.length + t.dp
  | .L, p, q, h => by
    rw [List.mem_singleton.mp h]
    exact Nat.le_add_right _ _
  | .N l r, p, q, h => by
    have h : q ∈ ([p] ++ l.pts (p ++ [false])) ++ r.pts (p ++ [true]) := h
    show q.length ≤ p.length + (max l.dp r.dp + 1)
    rcases List.mem_append.mp h with h | h
    · rcases List.mem_append.mp h with h | h
      · rw [List.mem_singleton.mp h]
        omega
      · have := pts_le l _ _ h
        rw [List.length_append, List.length_singleton] at this
        omega
    · have := pts_le r _ _ h
      rw [List.length_append, List.length_singleton] at this
      omega
theorem Tree.pts_pos (t : Tree) (p : List Bool) : 0 < (t.pts p).length := by
  rw [pts_len]
  cases t <;> exact Nat.succ_pos _
def spPts (K : PySem.W.Frag) (n : Nat) : Sp := fun vs H Q _ => ∃ (v : V) (t : Tree) (p : List Bool), vs = [v, .str (ptx p)] ∧ TA K H v t ∧ t.dp < n ∧ n ≤ 30 ∧ t.nodes ≤ 1000 ∧ p.length + t.dp ≤ 60 ∧ ∀ (l : Addr) (H' : Hp), Same H H' → H l = none → H' l = some (.lst (ptxs (t.pts p))) → Q (.ref l) H'
def spAnyP (K : PySem.W.Frag) : Sp := fun vs H Q _ => ∃ (r c : Addr) (v : V) (t : Tree), vs = [.ref r, v] ∧ RngC H r c ∧ TA K H v t ∧ t.dp ≤ 6 ∧ t.sz ≤ 12 ∧ ∀ (p : List Bool) (H' : Hp), p.length ≤ 8 → RngC H' r c → But r H H' → Q (.str (ptx p)) H'
def spBadP : Sp := fun vs H Q _ => ∃ r c : Addr, vs = [.ref r] ∧ RngC H r c ∧ ∀ (z : Str) (H' : Hp), okp z = false → z.length ≤ 1000 → RngC H' r c → But r H H' → Q (.str z) H'
def spStN (K : PySem.W.Frag) : Sp := fun vs H Q _ => ∃ (v : V) (t : Tree) (p : List Bool), vs = [v, .str (ptx p)] ∧ TA K H v t ∧ t.dp ≤ 60 ∧ (t.st p = none → ∀ H', Same H H' → Q .non H') ∧ ∀ u, t.st p = some u → ∀ (x : V) (H' : Hp), TA K H' x u → Same H H' → Q x H'
theorem ptx_nil : Str.ofString "" = ptx [] := rfl
theorem ptx_cut1 (p : List Bool) : cutS (ptx p) none (some 1) = ptx (p.take 1) := by
  unfold cutS
  rw [ptx_cps, ptx_len, HT.sIx_none, show HT.sIx p.length p.length (some 1) = min 1 p.length from HT.sIx_nat _ _ 1]
  cases p with
  | nil => rfl
  | cons b p =>
    have e : min 1 (b :: p).length = 1 := by
      rw [List.length_cons]
      omega
    rw [e]
    rfl
theorem ptx_11 (p : List Bool) : ptx p ++ Str.ofString "11" = ptx (p ++ [true, true]) := by
  show (⟨(pcs p).toArray ++ #[49, 49]⟩ : Str) = ⟨(pcs (p ++ [true, true])).toArray⟩
  congr 1
  apply Array.toList_inj.mp
  unfold pcs
  simp
def tvD (t : Tree) : PyData := .tuple [.str ("value" : Str), t.d]
theorem tvD_shaped {t : Tree} (h : t.dp ≤ 20) : SeqAt.shaped (tvD t) = true := by
  have e1 : (tvD t).canLay0 = (PyData.canLay0 (.str ("value" : Str)) && (PyData.canLay0 t.d && true)) := rfl
  have e2 : (tvD t).depth = max (PyData.depth (.str ("value" : Str))) (max t.d.depth 0) + 1 := rfl
  have e3 : PyData.depth (.str ("value" : Str)) ≤ 1 := by first | exact Nat.le_refl _ | exact Nat.zero_le _
  have e4 := t.d_depth
  unfold SeqAt.shaped
  rw [e1, t.d_lay, decide_eq_true (by omega)]
  decide +kernel
theorem tvD_depth {t : Tree} (h : t.dp ≤ 6) : (tvD t).depth < 12 := by
  have e2 : (tvD t).depth = max (PyData.depth (.str ("value" : Str))) (max t.d.depth 0) + 1 := rfl
  have e3 : PyData.depth (.str ("value" : Str)) ≤ 1 := by first | exact Nat.le_refl _ | exact Nat.zero_le _
  have e4 := t.d_depth
  omega
theorem tree_wide7 : ∀ t : Tree, wide t.d = true
  | .L => rfl
  | .N l r => by
    show (decide (2 ≤ 1000) && (wide l.d && (wide r.d && true))) = true
    rw [tree_wide7 l, tree_wide7 r]
    decide
theorem tvD_wide (t : Tree) : wide (tvD t) = true := by
  show (decide (2 ≤ 1000) && (true && (wide t.d && true))) = true
  rw [tree_wide7]
  decide
theorem dp_tvD {K : PySem.W.Frag} {H : Hp} {q : Addr} {x : V} {t : Tree} (h : SqT K H q [.str ("value" : Str), x]) (w : TA K H x t) : Dp K H (.ref q) (tvD t) := Dp.tup h (.cons (.str _) (.cons w .nil))
/-! ### steps of both kinds -/
def Tree.eqb : Tree → Tree → Bool
  | .L, .L => true
  | .N a b, .N c d => a.eqb c && b.eqb d
  | .L, .N _ _ => false
  | .N _ _, .L => false
theorem Tree.eqb_eq : ∀ {a b : Tree}, a.eqb b = true → a = b
  | .L, .L, _ => rfl
  | .N a b, .N c d, h => by
    have h : (a.eqb c && b.eqb d) = true := h
    rw [Bool.and_eq_true] at h
    rw [eqb_eq h.1, eqb_eq h.2]
  | .L, .N _ _, h => by cases h
  | .N _ _, .L, h => by cases h
theorem Tree.eqb_refl : ∀ a : Tree, a.eqb a = true
  | .L => rfl
  | .N a b => by
    show (a.eqb a && b.eqb b) = true
    rw [eqb_refl a, eqb_refl b]
    rfl
theorem Tree.eqvT : ∀ a b : Tree, PyData.eqv a.d b.d = a.eqb b
  | .L, .L => rfl
  | .L, .N _ _ => rfl
  | .N _ _, .L => rfl
  | .N a b, .N c d => by
    show (PyData.eqv a.d c.d && (PyData.eqv b.d d.d && true)) = (a.eqb c && b.eqb d)
    rw [eqvT a c, eqvT b d, Bool.and_true]
def Tree.ct0 : Tree → Option Tree
  | .N (.N a b) (.N a' c) => if a.eqb a' = true then some (.N a (.N b c)) else none
  | .N .L _ => none
  | .N (.N _ _) .L => none
  | .L => none
def Tree.r0 (on : Bool) (t : Tree) : Option Tree := if on = true then t.ex0 else t.ct0
def Tree.rwt (on : Bool) (t : Tree) (p : List Bool) : Option Tree := (t.st p).bind fun u => (u.r0 on).bind fun u' => t.rp p u'
theorem Tree.rp_some (x : Tree) : ∀ (t : Tree) (p : List Bool) (u : Tree), t.st p = some u → ∃ t', t.rp p x = some t'
  | t, [], u, _ => ⟨x, t.rp_nil x⟩
  | .L, _ :: _, _, h => by cases h
  | .N l r, false :: p, u, h => by
    obtain ⟨l', e⟩ := rp_some x l p u h
    refine ⟨.N l' r, ?_⟩
    show (l.rp p x).map (fun l' => Tree.N l' r) = _
    rw [e]
    rfl
  | .N l r, true :: p, u, h => by
    obtain ⟨r', e⟩ := rp_some x r p u h
    refine ⟨.N l r', ?_⟩
    show (r.rp p x).map (fun r' => Tree.N l r') = _
    rw [e]
    rfl
/-- what holds of a subterm and of what stands in its place -/
theorem Tree.rp_rel {R : Tree → Tree → Prop} (hl : ∀ a a' b, R a a' → R (.N a b) (.N a' b)) (hr : ∀ a b b', R b b' → R (.N a b) (.N a b')) : ∀ (t : Tree) (p : List Bool) (u x t' : Tree), t.st p = some u → t.rp p x = some t' → R u x → R t t'
  | t, [], u, x, t', h1, h2, h3 => by
    rw [st_nil] at h1
    rw [rp_nil] at h2
    cases h1
    cases h2
    exact h3
  | .L, _ :: _, _, _, _, h, _, _ => by cases h
  | .N l r, false :: p, u, x, t', h1, h2, h3 => by
    have h2 : (l.rp p x).map (fun l' => Tree.N l' r) = some t' := h2
    cases e : l.rp p x with
    | none => rw [e] at h2; cases h2
    | some l' =>
      rw [e] at h2
      cases h2
      exact hl _ _ _ (rp_rel hl hr l p u x l' h1 e h3)
  | .N l r, true :: p, u, x, t', h1, h2, h3 => by
    have h2 : (r.rp p x).map (fun r' => Tree.N l r') = some t' := h2
    cases e : r.rp p x with
    | none => rw [e] at h2; cases h2
    | some r' =>
      rw [e] at h2
      cases h2
      exact hr _ _ _ (rp_rel hl hr r p u x r' h1 e h3)
theorem Tree.rwt_parts {on : Bool} {t t' : Tree} {p : List Bool} (h : t.rwt on p = some t') : ∃ u u', t.st p = some u ∧ u.r0 on = some u' ∧ t.rp p u' = some t' := by
  unfold rwt at h
  cases e : t.st p with
  | none => rw [e] at h; cases h
  | some u =>
    rw [e] at h
    have h : (u.r0 on).bind (fun u' => t.rp p u') = some t' := h
    cases e2 : u.r0 on with
    | none => rw [e2] at h; cases h
    | some u' =>
      rw [e2] at h
      exact ⟨u, u', rfl, e2, h⟩
theorem Tree.r0_ind {R : Tree → Tree → Prop} (he : ∀ a b c, R (.N a (.N b c)) (.N (.N a b) (.N a c))) (hc : ∀ a b c, R (.N (.N a b) (.N a c)) (.N a (.N b c))) : ∀ (on : Bool) (u u' : Tree), u.r0 on = some u' → R u u'
  | true, .N a (.N b c), u', h => by
    have h : some (Tree.N (.N a b) (.N a c)) = some u' := h
    cases h
    exact he a b c
  | true, .N a .L, u', h => by
    have h : (none : Option Tree) = some u' := h
    cases h
  | true, .L, u', h => by
    have h : (none : Option Tree) = some u' := h
    cases h
  | false, .N (.N a b) (.N a' c), u', h => by
    have h : (if a.eqb a' = true then some (Tree.N a (.N b c)) else none) = some u' := h
    by_cases e : a.eqb a' = true
    · rw [if_pos e] at h
      cases h
      rw [← eqb_eq e]
      exact hc a b c
    · rw [if_neg e] at h
      cases h
  | false, .N .L r, u', h => by
    have h : (none : Option Tree) = some u' := h
    cases h
  | false, .N (.N a b) .L, u', h => by
    have h : (none : Option Tree) = some u' := h
    cases h
  | false, .L, u', h => by
    have h : (none : Option Tree) = some u' := h
    cases h
/-- a relation that the steps keep -/
theorem Tree.rwt_ind {R : Tree → Tree → Prop} (he : ∀ a b c, R (.N a (.N b c)) (.N (.N a b) (.N a c))) (hc : ∀ a b c, R (.N (.N a b) (.N a c)) (.N a (.N b c))) (hl : ∀ a a' b, R a a' → R (.N a b) (.N a' b)) (hr : ∀ a b b', R b b' → R (.N a b) (.N a b')) {on : Bool} {t t' : Tree} {p : List Bool} (h : t.rwt on p = some t') : R t t' := by
  obtain ⟨u, u', h1, h2, h3⟩ := rwt_parts h
  exact rp_rel hl hr t p u u' t' h1 h3 (r0_ind he hc on u u' h2)
theorem Tree.rwt_dp {on : Bool} {t t' : Tree} {p : List Bool} (h : t.rwt on p = some t') : t'.dp ≤ t.dp + 1 := by
  refine rwt_ind (R := fun a b => b.dp ≤ a.dp + 1) ?_ ?_ ?_ ?_ h
  · intro a b c
    show max (max a.dp b.dp + 1) (max a.dp c.dp + 1) + 1 ≤ max a.dp (max b.dp c.dp + 1) + 1 + 1
    omega
  · intro a b c
    show max a.dp (max b.dp c.dp + 1) + 1 ≤ max (max a.dp b.dp + 1) (max a.dp c.dp + 1) + 1 + 1
    omega
  · intro a a' b h
    show max a'.dp b.dp + 1 ≤ max a.dp b.dp + 1 + 1
    omega
  · intro a b b' h
    show max a.dp b'.dp + 1 ≤ max a.dp b.dp + 1 + 1
    omega
theorem Tree.rwt_len {on : Bool} {t t' : Tree} {p : List Bool} (h : t.rwt on p = some t') : p.length ≤ t.dp := by
  obtain ⟨u, u', h1, _⟩ := rwt_parts h
  have := st_len t p u h1
  omega
inductive Stp : Tree → Tree → Prop
  | refl (t : Tree) : Stp t t
  | step {t u v : Tree} {on : Bool} {p : List Bool} : Stp t u → u.rwt on p = some v → Stp t v
theorem Stp.ind {R : Tree → Tree → Prop} (h0 : ∀ t, R t t) (h2 : ∀ a b c, R a b → R b c → R a c) (he : ∀ a b c, R (.N a (.N b c)) (.N (.N a b) (.N a c))) (hc : ∀ a b c, R (.N (.N a b) (.N a c)) (.N a (.N b c))) (hl : ∀ a a' b, R a a' → R (.N a b) (.N a' b)) (hr : ∀ a b b', R b b' → R (.N a b) (.N a b')) {t u : Tree} (h : Stp t u) : R t u := by
  induction h with
  | refl => exact h0 _
  | step _ h2' ih => exact h2 _ _ _ ih (Tree.rwt_ind he hc hl hr h2')
def spR0 (K : PySem.W.Frag) (on : Bool) : Sp := fun vs H Q _ => ∃ (v : V) (t : Tree), vs = [v] ∧ TA K H v t ∧ t.dp ≤ 60 ∧ (t.r0 on = none → ∀ H', Same H H' → Q .non H') ∧ ∀ u, t.r0 on = some u → ∀ (x : V) (H' : Hp), TA K H' x u → Same H H' → Q x H'
def spRwN (K : PySem.W.Frag) (n : Nat) : Sp := fun vs H Q _ => ∃ (v : V) (t : Tree) (p : List Bool) (on : Bool), vs = [v, .str (ptx p), .bl on] ∧ TA K H v t ∧ t.dp ≤ 60 ∧ p.length < n ∧ n ≤ 62 ∧ (t.rwt on p = none → ∀ H', Same H H' → Q .non H') ∧ ∀ u, t.rwt on p = some u → ∀ (x : V) (H' : Hp), TA K H' x u → Same H H' → Q x H'
def spFits (K : PySem.W.Frag) : Sp := fun vs H Q _ => ∃ (v : V) (t : Tree) (top : Int), vs = [v, .int top] ∧ TA K H v t ∧ t.dp ≤ 8 ∧ (∀ H', Same H H' → (t.sz : Int) ≤ top → t.dp ≤ 6 → Q (.bl true) H') ∧ ∀ H', Same H H' → Q (.bl false) H'
def StepAt (K : PySem.W.Frag) (H : Hp) (t : Tree) (v : V) : Prop := ∃ (q : Addr) (p : List Bool) (on : Bool) (t' : Tree), v = .ref q ∧ SqT K H q [.str (ptx p), .bl on] ∧ t.rwt on p = some t'
theorem StepAt.tp {K : PySem.W.Frag} {H H' : Hp} {t : Tree} {v : V} (e : Tp H H') (h : StepAt K H t v) : StepAt K H' t v := by
  obtain ⟨q, p, on, t', h1, h2, h3⟩ := h
  exact ⟨q, p, on, t', h1, e.sqT h2, h3⟩
def spStps (K : PySem.W.Frag) : Sp := fun vs H Q _ => ∃ (v : V) (t : Tree), vs = [v] ∧ TA K H v t ∧ t.dp ≤ 8 ∧ t.nodes ≤ 400 ∧ ∀ (l : Addr) (xs : List V) (H' : Hp), Same H H' → H l = none → H' l = some (.lst xs) → xs.length ≤ 1000 → (∀ x ∈ xs, StepAt K H' t x) → Q (.ref l) H'
def spRwd (K : PySem.W.Frag) : Sp := fun vs H Q _ => ∃ (r c : Addr) (v : V) (t : Tree) (turns top : Int), vs = [.ref r, v, .int turns, .int top] ∧ RngC H r c ∧ TA K H v t ∧ t.dp ≤ 6 ∧ t.sz ≤ 12 ∧ 0 ≤ turns ∧ turns ≤ 1000 ∧ top ≤ 12 ∧
  ∀ (x : V) (t' : Tree) (H' : Hp), TA K H' x t' → Stp t t' → t'.dp ≤ 6 → t'.sz ≤ 12 → (t' = t ∨ (t'.sz : Int) ≤ top) → RngC H' r c → But r H H' → Q x H'
/-! ### steps by numbers -/
theorem PoolA.inj {K : PySem.W.Frag} {C x d a b c : Addr} {H : Hp} {ts : List Tree} (p : PoolA K C x d a b c H ts) {t : Tree} {i j : Nat} (h1 : ts[i]? = some t) (h2 : ts[j]? = some t) : i = j := by
  obtain ⟨dx, es, ps, cs, _, _, _, _, _, _, _, _, g, _⟩ := p
  exact g.inj t i j h1 h2
theorem Tree.st_app : ∀ (t : Tree) (p q : List Bool), t.st (p ++ q) = (t.st p).bind fun u => u.st q
  | t, [], q => by rw [st_nil]; rfl
  | .L, b :: p, q => by cases b <;> rfl
  | .N l r, false :: p, q => st_app l p q
  | .N l r, true :: p, q => st_app r p q
def spPR (K : PySem.W.Frag) (C : Addr) (on : Bool) : Sp := fun vs H Q _ => ∃ (x d a b c : Addr) (m : Nat) (ts : List Tree) (t : Tree), vs = [.ref x, .int m] ∧ PoolA K C x d a b c H ts ∧ ts.length ≤ 900000 ∧ ts[m]? = some t ∧ t ≠ .L ∧ (t.r0 on = none → ∀ H', Same H H' → Q .non H') ∧
  ∀ u, t.r0 on = some u → ∀ (n : Nat) (ts' : List Tree) (H' : Hp), PoolA K C x d a b c H' ts' → Ex4 d a b c H H' → Pre ts ts' → ts'[n]? = some u → ts'.length ≤ ts.length + 3 → Q (.int n) H'
def spPW (K : PySem.W.Frag) (C : Addr) : Sp := fun vs H Q _ => ∃ (x d a b c : Addr) (m : Nat) (on : Bool) (ts : List Tree) (t : Tree), vs = [.ref x, .int m, .bl on] ∧ PoolA K C x d a b c H ts ∧ ts.length ≤ 900000 ∧ ts[m]? = some t ∧ (t.r0 on = none → ∀ H', Same H H' → Q .non H') ∧
  ∀ u, t.r0 on = some u → ∀ (n : Nat) (ts' : List Tree) (H' : Hp), PoolA K C x d a b c H' ts' → Ex4 d a b c H H' → Pre ts ts' → ts'[n]? = some u → ts'.length ≤ ts.length + 3 → Q (.int n) H'
abbrev jV (x : Nat) : V := V.int (x : Int)
def spAl8 (K : PySem.W.Frag) (C CP CN : Addr) : Sp := fun vs H Q E => ∃ (x d a b c : Addr) (m : Nat) (z : Str) (ts : List Tree) (t : Tree), vs = [.ref x, .int m, .str z] ∧ z.length ≤ 1000 ∧ PoolA K C x d a b c H ts ∧ ts[m]? = some t ∧
  ((okp z = false ∧ ∀ H', Same H H' → E (.ref CP) none H') ∨ ∃ p, z = ptx p ∧ p.length ≤ 60 ∧ (t.st p = none → ∀ H', Same H H' → E (.ref CN) none H') ∧
    ∀ u, t.st p = some u → ∀ (l : Addr) (ks : List Nat) (H' : Hp), Same H H' → H l = none → H' l = some (.lst (ks.map jV)) → ks.length = p.length + 1 → (∀ j u', j ≤ p.length → t.st (p.take j) = some u' → ∃ k, ks[j]? = some k ∧ ts[k]? = some u') → Q (.ref l) H')
def spRA (K : PySem.W.Frag) (C CP CN CR : Addr) : Sp := fun vs H Q E => ∃ (x d a b c : Addr) (m : Nat) (z : Str) (on : Bool) (ts : List Tree) (t : Tree), vs = [.ref x, .int m, .str z, .bl on] ∧ z.length ≤ 1000 ∧ PoolA K C x d a b c H ts ∧ ts.length ≤ 800000 ∧ ts[m]? = some t ∧
  ((okp z = false ∧ ∀ H', Same H H' → E (.ref CP) none H') ∨ ∃ p, z = ptx p ∧ p.length ≤ 60 ∧ (t.st p = none → ∀ H', Same H H' → E (.ref CN) none H') ∧ (∀ u, t.st p = some u → u.r0 on = none → ∀ H', Same H H' → E (.ref CR) none H') ∧
    ∀ t', t.rwt on p = some t' → ∀ (n : Nat) (ts' : List Tree) (H' : Hp), PoolA K C x d a b c H' ts' → Ex4 d a b c H H' → Pre ts ts' → ts'[n]? = some t' → Q (.int n) H')
/-- expand, contract -/
def spST (K : PySem.W.Frag) (CI CP CN CR : Addr) (on : Option Bool) : Sp := fun vs H Q E => ∃ (v : V) (d : PyData) (z : Str) (o : Bool), (vs = match on with | none => [v, .str z, .bl o] | some _ => [v, .str z]) ∧ (∀ b, on = some b → o = b) ∧ z.length ≤ 1000 ∧ NT K H v d ∧ ndD d ≤ 1000 ∧ (okd d = false → ∀ H', Same H H' → E (.ref CI) none H') ∧
  ∀ t : Tree, d = t.d → t.sz ≤ 12 → t.dp ≤ 6 → ((okp z = false ∧ ∀ H', Same H H' → E (.ref CP) none H') ∨ ∃ p, z = ptx p ∧ p.length ≤ 60 ∧ (t.st p = none → ∀ H', Same H H' → E (.ref CN) none H') ∧ (∀ u, t.st p = some u → u.r0 o = none → ∀ H', Same H H' → E (.ref CR) none H') ∧
    ∀ t', t.rwt o p = some t' → ∀ (x : V) (H' : Hp), Same H H' → TA K H' x t' → Q x H')
theorem Tree.rp_st (x : Tree) : ∀ (t : Tree) (p : List Bool) (u t' : Tree), t.st p = some u → t.rp p x = some t' → t'.st p = some x ∧ t'.rp p u = some t
  | t, [], u, t', h1, h2 => by
    rw [st_nil] at h1
    rw [rp_nil] at h2
    cases h1
    cases h2
    exact ⟨st_nil _, rp_nil _ _⟩
  | .L, _ :: _, _, _, h, _ => by cases h
  | .N l r, false :: p, u, t', h1, h2 => by
    have h2 : (l.rp p x).map (fun l' => Tree.N l' r) = some t' := h2
    cases e : l.rp p x with
    | none => rw [e] at h2; cases h2
    | some l' =>
      rw [e] at h2
      cases h2
      obtain ⟨a1, a2⟩ := rp_st x l p u l' h1 e
      refine ⟨a1, ?_⟩
      show (l'.rp p u).map (fun l' => Tree.N l' r) = _
      rw [a2]
      rfl
  | .N l r, true :: p, u, t', h1, h2 => by
    have h2 : (r.rp p x).map (fun r' => Tree.N l r') = some t' := h2
    cases e : r.rp p x with
    | none => rw [e] at h2; cases h2
    | some r' =>
      rw [e] at h2
      cases h2
      obtain ⟨a1, a2⟩ := rp_st x r p u r' h1 e
      refine ⟨a1, ?_⟩
      show (r'.rp p u).map (fun r' => Tree.N l r') = _
      rw [a2]
      rfl
theorem Tree.r0_back (on : Bool) : ∀ (u u' : Tree), u.r0 on = some u' → u'.r0 (!on) = some u := by
  cases on with
  | true =>
    intro u u' h
    match u, h with
    | .N a (.N b c), h =>
      have h : some (Tree.N (.N a b) (.N a c)) = some u' := h
      cases h
      show (if a.eqb a = true then some (Tree.N a (.N b c)) else none) = _
      rw [if_pos (eqb_refl a)]
    | .N a .L, h => exact nomatch (show (none : Option Tree) = some u' from h)
    | .L, h => exact nomatch (show (none : Option Tree) = some u' from h)
  | false =>
    intro u u' h
    match u, h with
    | .N (.N a b) (.N a' c), h =>
      have h : (if a.eqb a' = true then some (Tree.N a (.N b c)) else none) = some u' := h
      by_cases e : a.eqb a' = true
      · rw [if_pos e] at h
        cases h
        rw [← eqb_eq e]
        rfl
      · rw [if_neg e] at h
        cases h
    | .N .L r, h => exact nomatch (show (none : Option Tree) = some u' from h)
    | .N (.N a b) .L, h => exact nomatch (show (none : Option Tree) = some u' from h)
    | .L, h => exact nomatch (show (none : Option Tree) = some u' from h)
theorem Tree.rwt_back {on : Bool} {t t' : Tree} {p : List Bool} (h : t.rwt on p = some t') : t'.rwt (!on) p = some t := by
  obtain ⟨u, u', h1, h2, h3⟩ := rwt_parts h
  obtain ⟨a1, a2⟩ := rp_st u' t p u t' h1 h3
  unfold rwt
  rw [a1]
  show (u'.r0 (!on)).bind (fun x => t'.rp p x) = some t
  rw [r0_back on u u' h2]
  exact a2
theorem Tree.rwt_small {t t' : Tree} {p : List Bool} (h : t.rwt false p = some t') : t'.dp ≤ t.dp ∧ t'.sz ≤ t.sz := by
  obtain ⟨u, u', h1, h2, h3⟩ := rwt_parts h
  refine rp_rel (R := fun a b => b.dp ≤ a.dp ∧ b.sz ≤ a.sz) ?_ ?_ t p u u' t' h1 h3 ?_
  · intro a a' b h
    show max a'.dp b.dp + 1 ≤ max a.dp b.dp + 1 ∧ a'.sz + b.sz ≤ a.sz + b.sz
    omega
  · intro a b b' h
    show max a.dp b'.dp + 1 ≤ max a.dp b.dp + 1 ∧ a.sz + b'.sz ≤ a.sz + b.sz
    omega
  · have hb := r0_back false u u' h2
    match u', hb with
    | .N a (.N b c), hb =>
      have hb : some (Tree.N (.N a b) (.N a c)) = some u := hb
      cases hb
      show max a.dp (max b.dp c.dp + 1) + 1 ≤ max (max a.dp b.dp + 1) (max a.dp c.dp + 1) + 1 ∧ a.sz + (b.sz + c.sz) ≤ (a.sz + b.sz) + (a.sz + c.sz)
      omega
    | .N a .L, hb => exact nomatch (show (none : Option Tree) = some u from hb)
    | .L, hb => exact nomatch (show (none : Option Tree) = some u from hb)
def dueD (t : Tree) (p : List Bool) (on : Bool) : PyData := match t.st p with
  | none => eD 3
  | some _ => match t.rwt on p with
    | none => eD 4
    | some t' => tvD t'
/-- how a step came out -/
def Out (K : PySem.W.Frag) (G : Hp) (e : Addr) (t : Tree) (p : List Bool) (on : Bool) : Prop := (t.st p = none ∧ SqT K G e [.str (en 3), .non]) ∨ (∃ u, t.st p = some u ∧ u.r0 on = none ∧ SqT K G e [.str (en 4), .non]) ∨ ∃ (x : V) (t' : Tree), t.rwt on p = some t' ∧ SqT K G e [.str ("value" : Str), x] ∧ TA K G x t'
theorem Out.tp {K : PySem.W.Frag} {G G' : Hp} {e : Addr} {t : Tree} {p : List Bool} {on : Bool} (k : Tp G G') (h : Out K G e t p on) : Out K G' e t p on := by
  rcases h with ⟨h1, h2⟩ | ⟨u, h1, h2, h3⟩ | ⟨x, t', h1, h2, h3⟩
  · exact .inl ⟨h1, k.sqT h2⟩
  · exact .inr (.inl ⟨u, h1, h2, k.sqT h3⟩)
  · exact .inr (.inr ⟨x, t', h1, k.sqT h2, ta_mono k h3⟩)
theorem rwt_none {t : Tree} {p : List Bool} {on : Bool} {u : Tree} (h1 : t.st p = some u) (h2 : u.r0 on = none) : t.rwt on p = none := by
  unfold Tree.rwt
  rw [h1]
  show (u.r0 on).bind (fun u' => t.rp p u') = none
  rw [h2]
  rfl
theorem Out.dp {K : PySem.W.Frag} {G : Hp} {e : Addr} {t : Tree} {p : List Bool} {on : Bool} (h : Out K G e t p on) : Dp K G (.ref e) (dueD t p on) := by
  unfold dueD
  rcases h with ⟨h1, h2⟩ | ⟨u, h1, h2, h3⟩ | ⟨x, t', h1, h2, h3⟩
  · rw [h1]
    exact dp_eD h2
  · rw [h1, rwt_none h1 h2]
    exact dp_eD h3
  · obtain ⟨u, u', a1, _⟩ := Tree.rwt_parts h1
    rw [a1, h1]
    exact dp_tvD h2 h3
theorem due_ok {t : Tree} (p : List Bool) (on : Bool) (hd : t.dp ≤ 6) : SeqAt.shaped (dueD t p on) = true ∧ (dueD t p on).depth < 14 ∧ wide (dueD t p on) = true := by
  unfold dueD
  cases t.st p with
  | none => exact ⟨eD_shaped 3 (by decide), Nat.lt_of_lt_of_le (eD_depth 3 (by decide)) (by decide), eD_wide 3⟩
  | some u =>
    cases e : t.rwt on p with
    | none => exact ⟨eD_shaped 4 (by decide), Nat.lt_of_lt_of_le (eD_depth 4 (by decide)) (by decide), eD_wide 4⟩
    | some t' =>
      have := Tree.rwt_dp e
      refine ⟨tvD_shaped (by omega), ?_, tvD_wide t'⟩
      have e2 : (tvD t').depth = max (PyData.depth (.str ("value" : Str))) (max t'.d.depth 0) + 1 := rfl
      have e3 : PyData.depth (.str ("value" : Str)) ≤ 1 := by first | exact Nat.le_refl _ | exact Nat.zero_le _
      have e4 := t'.d_depth
      show (tvD t').depth < 14
      omega
def spDue (K : PySem.W.Frag) : Sp := fun vs H Q _ => ∃ (v : V) (t : Tree) (p : List Bool) (on : Bool), vs = [v, .str (ptx p), .bl on] ∧ TA K H v t ∧ t.dp ≤ 6 ∧ p.length ≤ 8 ∧ ∀ (x : V) (H' : Hp), Dp K H' x (dueD t p on) → Same H H' → Q x H'
structure Fr08 (K : PySem.W.Frag) (T : List (Addr × Str)) (r c : Addr) (v : V) (t : Tree) (l : Addr) (xs : List V) (G : Hp) : Prop where
  R : RngC G r c
  tb : LamX.Tabs T G
  a : TA K G v t
  L : G l = some (.lst xs)
theorem Fr08.same {K : PySem.W.Frag} {T : List (Addr × Str)} {r c l : Addr} {v : V} {t : Tree} {xs : List V} {G G' : Hp} (h : Fr08 K T r c v t l xs G) (s : Same G G') : Fr08 K T r c v t l xs G' := ⟨h.R.same s, tabs_same s h.tb, ta_mono (Tp.same s) h.a, s _ _ h.L⟩
theorem Fr08.extN {K : PySem.W.Frag} {T : List (Addr × Str)} {r c l : Addr} {v : V} {t : Tree} {xs : List V} {G G' : Hp} (h : Fr08 K T r c v t l xs G) (e : LamX.ExtN G G') (t' : LamX.Tabs T G') : Fr08 K T r c v t l xs G' := ⟨h.R.extN e, t', ta_mono (Tp.extN e) h.a, e _ _ h.L (fun _ => nofun)⟩
def PthV (x : V) : Prop := ∃ p : List Bool, x = .str (ptx p) ∧ p.length ≤ 8
theorem cutV_takeN {xs : List V} {k : Nat} : cutV xs none (some (k : Int)) = xs.take k := by
  unfold cutV
  rw [HT.sIx_none, HT.sIx_nat, List.drop_zero, Nat.sub_zero]
  rcases Nat.le_total k xs.length with h | h
  · rw [Nat.min_eq_left h]
  · rw [Nat.min_eq_right h, List.take_of_length_le (Nat.le_refl _), List.take_of_length_le h]
/-! ### the kinds of fields: 1 position, 2 name, 3 size, 4 row -/
def fk (j : Nat) : Nat := if [1, 9, 17].contains j then 1 else if [14, 15].contains j then 2 else if j = 5 then 3 else if j = 19 then 4 else 0
def fnm (n : Nat) : Str := if n = 1 then "position" else if n = 2 then "name" else if n = 3 then "size" else "row"
theorem fk_in3 : ∀ j, j < 20 → inV (.str (en j)) [.str (en 1), .str (en 9), .str (en 17)] = decide (fk j = 1) := by decide +kernel
theorem fk_in2 : ∀ j, j < 20 → inV (.str (en j)) [.str (en 14), .str (en 15)] = decide (fk j = 2) := by decide +kernel
theorem fk_big : ∀ j, j < 20 → decide (V.str (en j) = V.str (en 5)) = decide (fk j = 3) := by decide +kernel
theorem fk_row : ∀ j, j < 20 → decide (V.str (en j) = V.str (en 19)) = decide (fk j = 4) := by decide +kernel
theorem fk_none0 : ∀ j, j < 20 → decide (fk j = 1) = false → decide (fk j = 2) = false → decide (fk j = 3) = false → decide (fk j = 4) = false → fk j = 0 := by decide +kernel
theorem fk_none (j : Nat) (h : j < 20) (c1' : decide (fk j = 1) = false) (c2' : decide (fk j = 2) = false) (c3' : decide (fk j = 3) = false) (c4' : decide (fk j = 4) = false) : fk j = 0 := fk_none0 j h c1' c2' c3' c4'
/-! ### labels: texts as lists of signs -/
def sL (l : List Nat) : Str := ⟨l.toArray⟩
theorem sL_cps (l : List Nat) : (sL l).cps.toList = l := rfl
theorem sL_len (l : List Nat) : (sL l).length = l.length := rfl
theorem sL_app (a b : List Nat) : sL a ++ sL b = sL (a ++ b) := by
  show (⟨a.toArray ++ b.toArray⟩ : Str) = ⟨(a ++ b).toArray⟩
  congr 1
  apply Array.toList_inj.mp
  simp
theorem sL_eta (z : Str) : sL z.cps.toList = z := rfl
theorem sL_inj {a b : List Nat} (h : sL a = sL b) : a = b := by
  have e := congrArg (fun z : Str => z.cps.toList) h
  exact e
def nmV (n : List Nat) : V := .str (sL n)
def nmK (n : List Nat) : L2.Key := Sum.inr (sL n)
theorem nmK_inj {a b : List Nat} (h : nmK a = nmK b) : a = b := sL_inj (Sum.inr.inj h)
theorem inV_nm (n : List Nat) (kn : List (List Nat)) : inV (nmV n) (kn.map nmV) = decide (n ∈ kn) := by
  unfold inV
  induction kn with
  | nil => rfl
  | cons a r ih =>
    rw [List.map_cons, List.any_cons, ih]
    by_cases e : a = n
    · have z : eqV (nmV a) (nmV n) = true := by rw [e]; simp [nmV, eqV]
      rw [z, decide_eq_true (List.mem_cons.mpr (.inl e.symm)), Bool.true_or]
    · have z : eqV (nmV a) (nmV n) = false := by
        simp only [nmV, eqV]
        exact decide_eq_false fun z => e (sL_inj z)
      rw [z, Bool.false_or]
      refine decide_eq_decide.mpr ⟨fun h => List.mem_cons_of_mem _ h, fun h => ?_⟩
      rcases List.mem_cons.mp h with h | h
      · exact absurd h.symm e
      · exact h
theorem flat_nms : ∀ kn : List (List Nat), (kn.map nmV).all flatV = true
  | [] => rfl
  | _ :: r => flat_nms r
def Asc (l : List Nat) : Prop := ∀ c ∈ l, c < 128
theorem Asc.app {a b : List Nat} (h1 : Asc a) (h2 : Asc b) : Asc (a ++ b) := fun c hc => (List.mem_append.mp hc).elim (h1 c) (h2 c)
theorem Asc.cons {a : Nat} {b : List Nat} (h1 : a < 128) (h2 : Asc b) : Asc (a :: b) := fun c hc => by
  rcases List.mem_cons.mp hc with rfl | hc
  · exact h1
  · exact h2 c hc
theorem asc_nil : Asc [] := fun _ z => nomatch z
theorem asc_ok {l : List Nat} (h : Asc l) : PyData.canLay0 (.str (sL l)) = true := by
  show ((l.toArray).all fun c => decide (c < 0x110000)) = true
  rw [List.all_toArray]
  refine List.all_eq_true.mpr fun c hc => decide_eq_true ?_
  have := h c hc
  omega
theorem asc_all {ls : List (List Nat)} (h : ∀ l ∈ ls, Asc l) : PyData.canLayAll0 (ls.map fun l => PyData.str (sL l)) = true := by
  induction ls with
  | nil => rfl
  | cons l ls ih =>
    show (PyData.canLay0 (.str (sL l)) && PyData.canLayAll0 (ls.map fun l => PyData.str (sL l))) = true
    rw [asc_ok (h l List.mem_cons_self), ih fun x hx => h x (List.mem_cons_of_mem _ hx)]
    rfl
def strsD (ls : List (List Nat)) : PyData := .list (ls.map fun l => PyData.str (sL l))
theorem strs_depth (ls : List (List Nat)) : (strsD ls).depth ≤ 2 := by
  have e : PyData.depthAll (ls.map fun l => PyData.str (sL l)) ≤ 1 := by
    induction ls with
    | nil => exact Nat.zero_le _
    | cons l ls ih =>
      show max (PyData.depth (.str (sL l))) (PyData.depthAll (ls.map fun l => PyData.str (sL l))) ≤ 1
      have e3 : PyData.depth (.str (sL l)) ≤ 1 := by first | exact Nat.le_refl _ | exact Nat.zero_le _
      omega
  show PyData.depthAll (ls.map fun l => PyData.str (sL l)) + 1 ≤ 2
  omega
theorem strs_shaped {ls : List (List Nat)} (h : ∀ l ∈ ls, Asc l) : SeqAt.shaped (strsD ls) = true := by
  have e1 : (strsD ls).canLay0 = true := asc_all h
  have e2 := strs_depth ls
  unfold SeqAt.shaped
  rw [e1, decide_eq_true (by omega)]
  rfl
theorem strs_wide {ls : List (List Nat)} (h : ls.length ≤ 1000) : wide (strsD ls) = true := by
  have e : wideAll (ls.map fun l => PyData.str (sL l)) = true := by
    clear h
    induction ls with
    | nil => rfl
    | cons l ls ih =>
      show (wide (.str (sL l)) && wideAll (ls.map fun l => PyData.str (sL l))) = true
      rw [ih]
      rfl
  show (decide ((ls.map fun l => PyData.str (sL l)).length ≤ 1000) && wideAll (ls.map fun l => PyData.str (sL l))) = true
  rw [e, List.length_map, decide_eq_true h]
  rfl
theorem strs_dp {K : PySem.W.Frag} {H : Hp} {t : Addr} {ls : List (List Nat)} (h : SqL K H t (ls.map nmV)) : Dp K H (.ref t) (strsD ls) := by
  refine Dp.lst h ?_
  clear h
  induction ls with
  | nil => exact .nil
  | cons e ds ih => exact .cons (.str _) ih
theorem strs_eqv {ls : List (List Nat)} (h : ∀ l ∈ ls, Asc l) : PyData.eqv (strsD ls) (strsD ls) = true := SeqAt.eqv_refl _ (SeqAt.canLay_of_shaped (strs_shaped h))
def okNmV (v : V) : Prop := ∃ l : List Nat, v = nmV l ∧ l.length ≤ 100
/-! ### try: .. except (A, B): a suite that raises out -/
section TRYSEL
open PySem PySem.Spec PyProof.Rows L2 HotX L2H
theorem fly_push {B h h' : Heap} {l : List Env} {a : Addr} {Z : Obj → Prop} (k : ∀ b o, h.get? b = some o → h'.get? b = some o) (x : HandSPX.FlyingZ B l a Z h) : HandSPX.FlyingZ B l a Z h' := by
  obtain ⟨x1, x2, x3, oe, vs, T, oT, ts, e1, z, d1, f1, nb, ne, e2, d2, f2⟩ := x
  exact ⟨fun b o q => k b o (x1 b o q), x2, Heap.FunFrames.of_keeps (fun b o q _ => ⟨o, k b o q, rfl⟩) x3, oe, vs, T, oT, ts, k _ _ e1, z, d1, f1, nb, ne, k _ _ e2, d2, f2⟩
/-- the clause's test, asked of an exception of a class -/
def SelT (X : Cx) (te : Expr) (m : Value → Option Bool) : Prop := ∀ (a : Addr) (oe : Obj) (pn pins : List (Addr × Obj)) (σ : L2.St) (H : Hp) (s : Shared) (cls : Value) (b : Bool) (Q : Bool → Shared → Prop) (E : Value → Shared → Prop),
  Inv (X.suite a ((a, oe) :: pn)) pins σ H s → X.K.In s.heap → PySem.W.Looks (model X.prog X.w) s.heap (typeOf (.ref a)) cls → m cls = some b → (∀ h', (∀ q o, s.heap.get? q = some o → h'.get? q = some o) → Q b { s with heap := h' }) →
  wpAny (model X.prog X.w) (X.A.mark (some (.ref a))) (eval te X.env) (fun c s1 => wpAny (model X.prog X.w) (X.A.mark (some (.ref a))) (excMatches (.ref a) c) Q E s1) E s
theorem sel_name {X : Cx} {a : Addr} {oe : Obj} {pn pins : List (Addr × Obj)} {σ : L2.St} {H : Hp} {s : Shared} {x : Str} {np : Pos} {c : Value} {Q E : Value → Shared → Prop} (hc : Names X x c) (I : Inv (X.suite a ((a, oe) :: pn)) pins σ H s) (q : Q c s) :
    wpAny (model X.prog X.w) (X.A.mark (some (.ref a))) (eval (.Name x np) X.env) Q E s := by
  obtain ⟨g, db, hm | ⟨hm, hv, hn⟩⟩ := hc
  · exact ld_glob I g hm q db
  · exact ld_blt I g hm hv q hn db
theorem sel_tup2 {X : Cx} {x1 x2 : Str} {c1 c2 : Value} {p1 p2 tp : Pos} {kk : Nat} (n1 : Names X x1 c1) (n2 : Names X x2 c2) : SelT X (.Tuple [.Name x1 p1, .Name x2 p2] kk tp) fun cls => PySem.W.exmAny X.K cls [c1, c2] := by
  intro a oe pn pins σ H s cls b Q E I KI LT hm q
  refine wpAny_Tuple (wpAny_items_cons (sel_name n1 I (wpAny_items_cons (sel_name n2 I (wpAny_items_nil ⟨by size_fits, ?_⟩)))))
  have k : ∀ z o, s.heap.get? z = some o → (s.heap.push { cls := .type "tuple", data := .seq [c1, c2].toArray }).get? z = some o := fun _ _ => Heap.get?_push_of_some _
  exact (PySem.W.exm_tup2 (KI.keeps k) (LT.keeps k) (Heap.get?_push_size s.heap rfl) hm).here (q _ k)
theorem sel_tup3 {X : Cx} {x1 x2 x3 : Str} {c1 c2 c3 : Value} {p1 p2 p3 tp : Pos} {kk : Nat} (n1 : Names X x1 c1) (n2 : Names X x2 c2) (n3 : Names X x3 c3) : SelT X (.Tuple [.Name x1 p1, .Name x2 p2, .Name x3 p3] kk tp) fun cls => PySem.W.exmAny X.K cls [c1, c2, c3] := by
  intro a oe pn pins σ H s cls b Q E I KI LT hm q
  refine wpAny_Tuple (wpAny_items_cons (sel_name n1 I (wpAny_items_cons (sel_name n2 I (wpAny_items_cons (sel_name n3 I (wpAny_items_nil ⟨by size_fits, ?_⟩)))))))
  have k : ∀ z o, s.heap.get? z = some o → (s.heap.push { cls := .type "tuple", data := .seq [c1, c2, c3].toArray }).get? z = some o := fun _ _ => Heap.get?_push_of_some _
  exact (PySem.W.exm_tup3 (KI.keeps k) (LT.keeps k) (Heap.get?_push_size s.heap rfl) hm).here (q _ k)
/-- what such a clause wishes of an exception of the body -/
def wSel (m : Value → Option Bool) (ts : Addr → Value → Option Addr → TS) (Wout : WX) (D : Ends) : WX := fun cls d σ H => ∃ b, m cls = some b ∧ (b = true → ∀ a, H a = none → ts a cls d D σ H) ∧ (b = false → Wout cls d σ H)
theorem ps_try_sel {X : Cx} {te : Expr} {m : Value → Option Bool} {body suite : List Stmt} {b₀ : Stmt} {pos pos' : Pos} {tb : WX → TS} {ts : Addr → Value → Option Addr → TS} {Wout : WX} (hs : X.stack = X.env :: X.outer) (hf : X.env.frame = some X.env.locals) (ht : SelT X te m)
    (hpa : ∀ hd : Option Value, PassesOwnAt (model X.prog X.w) (X.A.mark hd) X.A X.env X.xe) (tk : L2C.Takes X Wout)
    (hb : ∀ (W : WX) (pn : List (Addr × Obj)) (xe : Value → Shared → Prop), L2N.Takes (X.tr pn xe) W → PassesOwn (model X.prog X.w) X.A X.env xe → PSs (X.tr pn xe) body (tb W))
    (hsu : ∀ (a : Addr) (oe : Obj) (cls : Value) (d : Option Addr) (pn : List (Addr × Obj)), L2C.Takes (L2H.suiteX X a ((a, oe) :: pn)) Wout → HotC (L2H.suiteX X a ((a, oe) :: pn)) → PSs (L2H.suiteX X a ((a, oe) :: pn)) (b₀ :: suite) (ts a cls d)) :
    PS X (.Try body [.ExceptHandler (some te) none (b₀ :: suite) pos'] [] [] pos) (fun D σ H => tb (wSel m ts Wout D) D σ H) := by
  refine ⟨fun pins s σ H D I h => ?_⟩
  have ok := I.ok
  have fr : X.A.frames = some (X.env :: X.outer) := by rw [ok.frames, hs]
  refine wpAny_Try_except (wpAny_mono ((hb (wSel m ts Wout D) (X.pn ++ pins) (fun e s₁ => wpAny (model X.prog X.w) X.A (noteFrame e X.env) (fun _ s₂ => wpAny (model X.prog X.w) X.A (setFlight e none) (fun _ s₃ => wpAny (model X.prog X.w) X.A (handleBy e X.env [.ExceptHandler (some te) none (b₀ :: suite) pos']) (SP X pins D) X.xe s₃) X.xe s₂) X.xe s₁) (fun u s' xx => ?_) PassesOwn.looking).run [] s σ H D (I.toTry _) h) (fun f s1 hsp => ?_) fun e s1 he => he)
  · obtain ⟨a, B, sI, _, σ', H', cls, d, rfl, JT, nb, up, sky, na, os, ag, b, hm, hyes, hno⟩ := xx
    have J : Inv X pins σ' H' sI := JT.ofTry ok
    show wpAny (model X.prog X.w) X.A (noteFrame (.ref a) X.env) _ _ _
    refine L2N.Sky.land L2N.Zn.steady fr hf (show Sky B (X.env :: X.outer) a (L2N.Zn cls d) X.env.locals s'.heap by rw [← hs]; exact sky) fun g1 fl1 up1 => ?_
    obtain ⟨o1, w1, eo1, z1, d1⟩ := fl1.there
    have offF : ∀ {B2 h2 : Heap} {o2 : Obj} {w2 : Array Value}, h2.FunFrames B2 (X.env :: X.outer) → h2.get? a = some o2 → o2.data = .fields w2 → a ∉ frs (X.env :: X.outer) := fun ff eq dq hq => by
      obtain ⟨_, o', e', hd'⟩ := ff.mem hq
      rw [eq] at e'
      cases e'
      exact hd' _ dq
    have off := offF fl1.2.2.1 eo1 d1
    have offL : a ≠ X.env.locals := fun z => off (List.mem_filterMap.mpr ⟨X.env, List.mem_cons_self, by rw [hf, z]⟩)
    have offS : a ∉ X.fs := fun hq => by
      obtain ⟨e, he, hq⟩ := List.mem_filterMap.mp hq
      exact off (List.mem_filterMap.mpr ⟨e, List.mem_cons_of_mem _ he, hq⟩)
    have J1 : Inv X pins σ' H' { s' with heap := g1 } := J.landed nb fl1.1 (up.trans up1) os ag
    have LT : PySem.W.Looks (model X.prog X.w) g1 (typeOf (.ref a)) cls := fun A Q E s k q => wpAny_typeOf_ref (k _ _ eo1) (by rw [z1.1]; exact q)
    refine wpAny_handleBy_cons (codeAny_handlers_test (ht a o1 (X.pn ++ pins) _ _ _ _ cls b _ _ (J1.suite eo1 d1 na offL offS) J1.kIn LT hm fun g2 k2 => ?_)) (by intro q; cases q)
    have fl2 := fly_push k2 fl1
    have up2 : sI.heap.UpToSlots g2 := (up.trans up1).trans (Heap.UpToSlots.of_keeps k2)
    cases b with
    | true =>
      refine codeAny_handlers_suite (HandSPX.lands_againZ fl2 fun g3 fl3 up3 => ?_)
      obtain ⟨o3, w3, eo3, z3, d3⟩ := fl3.there
      have S3 := (J.landed (s' := { s' with heap := g3 }) nb fl3.1 (up2.trans up3) os ag).suite eo3 d3 na offL offS
      have tkS : L2C.Takes (L2H.suiteX X a ((a, o3) :: (X.pn ++ pins))) Wout := fun u4 s4 x4 => by
        obtain ⟨a4, B4, sI4, pn4, σ4, H4, cls4, d4, e4, I4, nb4, up4, sky4, na4, os4, ag4, w4⟩ := x4
        exact tk u4 s4 ⟨a4, B4, sI4, pins, σ4, H4, cls4, d4, e4, L2H.unsuiteX I4 ok, nb4, up4, sky4, na4, os4, ag4, w4⟩
      refine wpAny_mono ((hsu a o3 cls d (X.pn ++ pins) tkS ⟨(a, o3), ⟨rfl, w3, d3, z3.2.2 w3 d3⟩, List.mem_cons_self⟩).run [] _ _ H' _ (L2H.suiteX_of S3) (hyes rfl a na)) (fun f s6 hq => ?_) fun e6 s6 z => hpa (some (.ref a)) e6 s6 z
      cases f with
      | next => exact hq.elim fun σ6 y => y.elim fun H6 y => ⟨σ6, H6, L2H.unsuiteX y.1 ok, y.2⟩
      | brk => exact hq.elim fun σ6 y => y.elim fun H6 y => ⟨σ6, H6, L2H.unsuiteX y.1 ok, y.2⟩
      | cont => exact hq.elim fun σ6 y => y.elim fun H6 y => ⟨σ6, H6, L2H.unsuiteX y.1 ok, y.2⟩
      | ret u => exact hq.elim fun v6 y => y.elim fun σ6 y => y.elim fun H6 y => ⟨v6, σ6, H6, L2H.unsuiteX y.1 ok, y.2⟩
    | false =>
      show wpAny _ X.A (handleBy (.ref a) X.env []) _ _ _
      refine wpAny_handleBy_nil ?_
      have flc : HandSPX.FlyingZ B (X.env :: X.outer) a (L2C.Zx B H' cls d) g2 := ⟨fl2.1, fl2.2.1, fl2.2.2.1, L2C.traced_imp (fun o => L2C.zx_ofN) fl2.2.2.2⟩
      obtain ⟨_, _, _, oe, vs, T, oT, ts', he, hz, hd, h1, hr⟩ := id flc
      unfold PySem.passOn
      refine wpAny_bind (wpAny_field he hd h1 ?_)
      rw [if_neg (show ¬ ((Value.ref T == Value.none) = true) by simp)]
      have fin : wpAny (model X.prog X.w) X.A (setFlight (.ref a) X.env.frame) (fun _ s4 => wpAny (model X.prog X.w) X.A (throw (.ref a) : Sem Flow) (SP X pins D) X.xe s4) X.xe { s' with heap := g2 } := by
        rw [hf]
        exact HandSPX.setFlight_upZ flc fun g4 hh4 up4 => wpAny_throw (tk _ _ ⟨a, B, sI, pins, σ', H', cls, d, rfl, J, nb, up2.trans up4, .inr (.inr (by rw [hs]; exact hh4)), na, os, ag, hno rfl⟩)
      first | exact wpAny_bind (wpAny_pure (wpAny_bind fin)) | exact wpAny_bind fin
  · cases f with
    | next => exact hsp.elim fun σ6 y => y.elim fun H6 y => wpAny_execs_nil ⟨σ6, H6, y.1.ofTry ok, y.2⟩
    | brk => exact hsp.elim fun σ6 y => y.elim fun H6 y => ⟨σ6, H6, y.1.ofTry ok, y.2⟩
    | cont => exact hsp.elim fun σ6 y => y.elim fun H6 y => ⟨σ6, H6, y.1.ofTry ok, y.2⟩
    | ret u => exact hsp.elim fun v6 y => y.elim fun σ6 y => y.elim fun H6 y => ⟨v6, σ6, H6, y.1.ofTry ok, y.2⟩
/-- a new exception, its context on the ground, is in our air -/
theorem xe_newC {X : Cx} {W : WX} {pins : List (Addr × Obj)} {σ : L2.St} {H : Hp} {sI s' : Shared} {a : Addr} {oe : Obj} {vs : Array Value} {cls : Value} {d : Option Addr} (I : Inv X pins σ H sI) (k : ∀ b o, sI.heap.get? b = some o → s'.heap.get? b = some o) (fr : sI.heap.get? a = none) (he : s'.heap.get? a = some oe)
    (hcl : oe.cls = cls) (hdi : oe.dict = d) (hd : oe.data = .fields vs) (h1 : vs[1]? = some .none) (cx : HotY.Ctx2 (fun y oy => sI.heap.get? y = some oy ∧ H y = none ∧ y ∉ frs X.stack) vs[2]?) (na : H a = none) (os : s'.os = sI.os) (ag : AllBare s'.gens) (w : W cls d σ H) : L2C.XE X W (.ref a) s' := by
  have off : (PySem.W.hideAll sI.heap (frs X.stack)).get? a = none := by
    cases q : (PySem.W.hideAll sI.heap (frs X.stack)).get? a with
    | none => rfl
    | some o => exact absurd ((PySem.W.of_hideAll _ q).symm.trans fr) (by simp)
  refine ⟨a, PySem.W.hideAll sI.heap (frs X.stack), sI, pins, σ, H, cls, d, rfl, I, fun b o e m => PySem.W.hideAll_get _ e m, Heap.UpToSlots.of_keeps k, .inl ⟨fun b o e => k b o (PySem.W.of_hideAll _ e), off, ?_, oe, vs, he, ⟨hcl, hdi, fun vs2 e2 => ?_⟩, hd, h1⟩, na, os, ag, w⟩
  · exact Heap.FunFrames.of_keeps (fun b o e _ => ⟨o, k b o e, rfl⟩) (funFrames_none I.stack fun b m => PySem.W.hideAll_none _ m)
  · rw [hd] at e2
    cases e2
    exact cx.imp fun y oy z _ => ⟨PySem.W.hideAll_get _ z.1 z.2.2, z.2.1⟩
/-- raise X(..) from None in an except suite: the handled one becomes its context -/
theorem ps_raiseHC {X : Cx} {W : WX} {e : Expr} {t : L2.St → Hp → XK → Prop} {j : Nat} {cpos pos : Pos} (hc : HotC X) (tk : L2C.Takes X W) (he : PMk5 X e t) :
    PS X (.Raise (some e) (some (.Constant .none j cpos)) pos) (fun _ σ H => t σ H fun cls d H' => W cls d σ H') := by
  refine ⟨fun pins s σ H D I h => ?_⟩
  obtain ⟨p, ⟨ph, pv, pe, pc⟩, pm⟩ := hc
  show wpAny _ _ (do standAt pos; raiseStmt X.env (some (do let v ← eval e X.env; standAt pos; pure v)) (some (do let v ← eval (.Constant .none j cpos) X.env; standAt pos; pure v))) _ _ _
  refine wpAny_bind (wpAny_standAt (raise_made_hotN (x1 := p.1) (fun s2 Q2 q2 => wpAny_bind (Constant_none (wpAny_bind (wpAny_standAt (wpAny_pure q2))))) (wpAny_bind (wpAny_mono (he pins s σ H _ I h) (fun u s1 hu => wpAny_bind (wpAny_standAt (wpAny_pure ?_))) fun _ _ x => x))))
  obtain ⟨⟨a, oe, vs, sI, H', cls, d, rfl, J, k, fr, ha, hz, hd, h1, na, os, ag, r, q⟩, six⟩ := hu
  have big : 4 < vs.size := six a oe vs rfl ha hd
  have ne : ∀ {b u}, sI.heap.get? b = some u → a ≠ b := fun z y => by
    rw [← y, fr] at z
    cases z
  have kN : ∀ b u, sI.heap.get? b = some u → (noneFrom s1.heap a).get? b = some u := fun b u z => (noneFrom_other (ne z)).trans (k b u z)
  obtain ⟨p1, p2, p3, p4, _⟩ := J.pin p (List.mem_append_left _ pm)
  obtain ⟨aN, dN⟩ := noneFrom_at ha hd
  have rD := Obj.data_mapFields dN (·.setIfInBounds 2 (Value.ref p.1))
  have c1 : (((vs.setIfInBounds 3 Value.none).setIfInBounds 4 (Value.bool true)).setIfInBounds 2 (Value.ref p.1))[1]? = some Value.none := set_other (by decide) (set_other (by decide) (set_other (by decide) h1))
  have c2 : (((vs.setIfInBounds 3 Value.none).setIfInBounds 4 (Value.bool true)).setIfInBounds 2 (Value.ref p.1))[2]? = some (Value.ref p.1) := by
    rw [Array.getElem?_setIfInBounds_self_of_lt (by rw [set_size, set_size]; omega)]
  refine ⟨a, oe, vs, cls, rfl, ha, hz.1, hd, h1, big, (ne p1).symm, ⟨ph, p.2, pv, k _ _ p1, pe, pc⟩, (r (model X.prog X.w) s1.heap (J.kIn.keeps k)).1, (r (model X.prog X.w) (noneFrom s1.heap a) (J.kIn.keeps kN)).2, tk _ _ (xe_newC J (fun b u z => ?_) fr (Heap.get?_update_self _ aN (Obj.isFreed_of_fields rD)) ?_ ?_ rD c1 (.inr ⟨p.1, p.2, pv, c2, ⟨p1, p2, fun z => (List.mem_cons.mp (J.stkSub p.1 z)).elim p3 p4⟩, pe, pc⟩) na os ag q)⟩
  · show ((noneFrom s1.heap a).update a (Obj.mapFields (·.setIfInBounds 2 (.ref p.1)))).get? b = some u
    rw [Heap.get?_update_other _ _ (ne z)]
    exact kN b u z
  · rw [Obj.cls_mapFields, Obj.cls_mapFields, Obj.cls_mapFields]
    exact hz.1
  · rw [HandSPX.dict_mapFields, HandSPX.dict_mapFields, HandSPX.dict_mapFields]
    exact hz.2.1
end TRYSEL
section OPNH
open PySem PySem.Spec PyProof.Rows L2 HotX L2H
/-! ### such an __init__ while an exception is handled -/
def cxSH (CX : CXT) (P : Program) (w : World) (K : PySem.W.Frag) (mg : Str → Option Value) (base : Heap) (N : List Str) (qual : Str) (scope : Scope) (f : Addr) (cd : Value) (cc : Addr) (A : Around) (outer : List Env) (s : Shared) (H : Hp) (E : XK) (pH : Addr × Obj) : Cx := { cxS CX P w K mg base N qual scope f cd cc A outer s H E with calm := false, pn := [pH] }
theorem inv_startSH {CX : CXT} {P : Program} {w : World} {K : PySem.W.Frag} {mg : Str → Option Value} {base : Heap} {ps : List Str} {qual : Str} {scope : Scope} {f cc D : Addr} {cd cl : Value} {cld : Option Addr} {csl : Array (Option Value)} {A : Around} {outer : List Env} {s : Shared} {h1 : Heap} {tk : Nat} {H : Hp} {E : XK} {us : List Value} {vs : List V}
    (S : SupScope ps scope) (hcell : K.lookup cc = some ⟨cl, cld, .cell (some (.ref D)), csl⟩) {pH : Addr × Obj} (hpin : PinOk outer H s pH) (e0 : Env0 P w K mg base A outer s H) (hl : vs.length = ps.length) (r : Vals vs us)
    (ns : h1.Ns s.heap.objs.size (fun x => (ps.zip us).reverse.lookup x)) (hk : ∀ b o, s.heap.get? b = some o → h1.get? b = some o) :
    Inv (cxSH CX P w K mg base ps qual scope f cd cc A outer s H E pH) [] (vs.map some) H { s with heap := h1, toks := tk } := by
  have KX : K.In s.heap := e0.mod.kin.keeps fun b o e => (e0.bs b o e).1
  have noA : ∀ b : Addr, b ∉ (cxSH CX P w K mg base ps qual scope f cd cc A outer s H E pH).ex := fun b z => absurd (show b ∈ ([] : List Addr) from z) (by simp)
  have look1 : ∀ y c, (cxSH CX P w K mg base ps qual scope f cd cc A outer s H E pH).env.cells.lookup y = some c → y = ("__class__" : Str) ∧ c = cc := fun y c h => by
    have h : List.lookup y [(("__class__" : Str), cc)] = some c := h
    rw [List.lookup_cons] at h
    by_cases q : (y == ("__class__" : Str)) = true
    · rw [q] at h
      exact ⟨eq_of_beq q, (Option.some.inj h).symm⟩
    · rw [Bool.not_eq_true] at q
      rw [q] at h
      cases h
  have base0 : base.get? cc = some ⟨cl, cld, .cell (some (.ref D)), csl⟩ := e0.mod.kin _ _ hcell
  refine ⟨⟨e0.mod, S.kind, rfl, rfl, Nat.le_refl _, fun y z c h1 h2 => ?_, fun y hy => ?_, fun y c h => ?_, (fun z => Bool.noConfusion (show false = true from z)), Around.frames_deeper e0.frames, .inr ⟨rfl, rfl⟩, fun b z => absurd z (noA b), e0.bs, e0.bsz, fun b _ _ => noA b, fun b z => absurd z (noA b), e0.funs, e0.frf⟩,
    rfl, e0.bare, Un.kept hk, ⟨_, ns, fun i y v h1 h2 h3 => ?_⟩, fun y c h => ?_, e0.hok.fresh (Nat.le_refl _), fun y c h => ?_, fun q hq => ?_, e0.hok.kept hk, ?_⟩
  · rw [(look1 _ _ h1).1, (look1 _ _ h2).1]
  · have hy : scope.names.lookup y = some .cell ∨ scope.names.lookup y = some .free := hy
    rcases hy with hy | hy
    · exact absurd rfl (S.noc _ (PySem.mem_of_lookup hy))
    · exact ⟨cc, by rw [S.fre _ hy]; rfl⟩
  · exact nomatch h
  · have ha : vs[i]? = some v := by
      rw [List.getElem?_map] at h2
      cases e : vs[i]? with
      | none => rw [e] at h2; cases h2
      | some a => rw [e] at h2; cases h2; rfl
    obtain ⟨u, hu, rv⟩ := r.get ha
    have hp : ps[i]? = some y := h1
    refine ⟨u, rv, .inl ⟨S.par y (List.mem_of_getElem? hp), ?_⟩⟩
    exact rev_lookup S.nd hp hu
  · obtain ⟨rfl, rfl⟩ := look1 _ _ h
    exact ⟨_, _, hk _ _ (KX _ _ hcell), rfl⟩
  · obtain ⟨rfl, rfl⟩ := look1 _ _ h
    exact (e0.bs _ _ base0).2
  · have eq : q = pH := by simpa using (show q ∈ [pH] ++ ([] : List (Addr × Obj)) from hq)
    rw [eq]
    exact ⟨hk pH.1 pH.2 hpin.get, hpin.free, Nat.ne_of_lt (Heap.lt_size hpin.get), hpin.nofs, hpin.nocell⟩
  · show (vs.map some).length = ps.length
    rw [List.length_map, hl]
open PySem.W in
theorem ok_supH {CX : CXT} {P : Program} {w : World} {K : PySem.W.Frag} {mg : Str → Option Value} {base : Heap} {f cda cc C : Addr} {name qual sf xn fld file : Str} {params : Arguments} {scope : Scope} {dV kV doc pm ct oc cl ccl : Value} {an od cld cdd : Option Addr} {osl csl ccs : Array (Option Value)} {cvs : Array Value} {tf : Tok} {ar : Arg} {e : Expr} {okv : V → Prop} {p0 p1 p2 p3 p4 q1 q2 q3 q4 : Pos}
    (lk : K.lookup f = some ⟨oc, od, .func (ksFn name qual params [.Expr (.Call (.Attribute (.Call (.Name ("super" : Str) p0) [] [] p1) ("__init__" : Str) p2) [e] [] p3) p4, .Assign [.Attribute (.Name sf q1) fld q2] (.Name xn q3) q4] scope dV kV doc pm an (.ref cda) ct cc), osl⟩)
    (hcd : codeIn K (.ref cda) qual = true) (S : SupScope [sf, xn] scope) (hp : (params.posonlyargs ++ params.args).head? = some ar) (har : ar.arg = sf)
    (hcode : K.lookup cda = some ⟨ccl, cdd, .fields cvs, ccs⟩) (hvs : cvs[2]? = some (.str file tf)) (hfile : ((P.main.file : Str) == file) = true) (htop : (P.main.scope.names.lookup ("super" : Str)).isSome = false)
    (hcell : K.lookup cc = some ⟨cl, cld, .cell (some (.ref C)), csl⟩) (T : OexC K C) (hsub : mroIn K C (.ref C) = some true) (hsuper : mg ("super" : Str) = none) (ho : nsIn K cStatics "thirdparty.any" = some none)
    (hm : ks_superIn K C C "__init__" = some (some (.builtin "ValueError.__init__"))) (hB : subIn K (.ref C) (.type "ValueError") = some true) (hno : findIn K (.ref C) fld = some none)
    (he : ∀ (A : Around) (outer : List Env) (s : Shared) (H : Hp) (E : XK) (pH : Addr × Obj) (a : Addr) (v : V), HotC (cxSH CX P w K mg base [sf, xn] qual scope f (.ref cda) cc A outer s H E pH) → okv v → ∃ ta, PA (cxSH CX P w K mg base [sf, xn] qual scope f (.ref cda) cc A outer s H E pH) [e] ta ∧ ta [some (.ref a), some v] H fun ws H2 => ws.length ≤ 1000 ∧ H2 = H)
    (hev : ∀ env : Env, ∃ pl : Sem Bool, eval (.Call (.Attribute (.Call (.Name ("super" : Str) p0) [] [] p1) ("__init__" : Str) p2) [e] [] p3) env = (do
      let ov ← attributeBase (.Call (.Name ("super" : Str) p0) [] [] p1) ("__init__" : Str) env (eval (.Call (.Name ("super" : Str) p0) [] [] p1) env)
      standAt p2.atName
      let (f, first) ← holding [ov] (getMethod ov ("__init__" : Str) pl)
      callWith p3 f first (backTo p3 (starEach [e] env)) []) := by exact fun _ => ⟨_, rfl⟩)
    (hsw : ∀ env : Env, swapsWith (.Call (.Attribute (.Call (.Name ("super" : Str) p0) [] [] p1) ("__init__" : Str) p2) [e] [] p3) none p4.line env = pure false := by exact fun _ => rfl)
    (hstar : ∀ env, starEach [e] env = [(false, eval e env)] := by exact fun _ => rfl) (hsw2 : ∀ env : Env, swapsWith (.Name xn q3) (some (.Attribute (.Name sf q1) fld q2)) q4.line env = pure false := by exact fun _ => rfl)
    (n1 : (sf == ("__debug__" : Str)) = false := by decide) (n2 : (sf == ("__classdict__" : Str)) = false := by decide) (n3 : (xn == ("__debug__" : Str)) = false := by decide) (n4 : (xn == ("__classdict__" : Str)) = false := by decide) :
    FnH P w K mg base CX 1 f (ksFn name qual params [.Expr (.Call (.Attribute (.Call (.Name ("super" : Str) p0) [] [] p1) ("__init__" : Str) p2) [e] [] p3) p4, .Assign [.Attribute (.Name sf q1) fld q2] (.Name xn q3) q4] scope dV kV doc pm an (.ref cda) ct cc) [sf, xn] (spS C fld okv) := by
  refine ⟨fun vs H Q E h => ?_, fun A outer s H args us vs Q E pH hr hot hpin e0 hb r hsp => ?_⟩
  · obtain ⟨_, _, rfl, _⟩ := h
    rfl
  obtain ⟨a, v, rfl, ha, hv, q⟩ := hsp
  have KX : K.In s.heap := e0.mod.kin.keeps fun b o e => (e0.bs b o e).1
  have lim : s.heap.NoLimit := e0.mod.nolimit.keeps fun b o e => (e0.bs b o e).1
  have hloc : ∀ y ∈ [sf, xn].zip us, scope.names.lookup y.1 = some .local := fun ⟨n, v⟩ hy => S.par n (List.of_mem_zip hy).1
  refine ks_codeAny_call_defAt (body := [.Expr (.Call (.Attribute (.Call (.Name ("super" : Str) p0) [] [] p1) ("__init__" : Str) p2) [e] [] p3) p4, .Assign [.Attribute (.Name sf q1) fld q2] (.Name xn q3) q4]) (binds := [sf, xn].zip us) hr.depth (KX _ _ lk) rfl lim (codeRec_of KX hcd) rfl hb S.noc hloc (fun h1 hns hk => ?_) S.co S.gen S.kind
  have I := inv_startSH (CX := CX) (qual := qual) (f := f) (cd := .ref cda) (tk := s.toks + ([sf, xn].zip us).length) (E := E) S hcell hpin e0 rfl r hns hk
  obtain ⟨ta, hpa, hta⟩ := he A outer s H E pH a v ⟨pH, hot, List.mem_cons_self⟩ hv
  obtain ⟨u, rfl, ru⟩ : ∃ u, us = [.ref a, u] ∧ RelV v u := by
    cases r with
    | cons r1 r2 =>
      cases r2 with
      | cons r3 r4 =>
        cases r4
        obtain rfl := (show _ = Value.ref a from r1)
        exact ⟨_, rfl, r3⟩
  have hz : ([sf, xn].zip [Value.ref a, u]).reverse.lookup sf = some (.ref a) := rev_lookup (i := 0) S.nd rfl rfl
  obtain ⟨mb, b1, b2⟩ := I.mod.blt
  obtain ⟨nm, qn, N, bs, bm, sn, sub, ab, col, dd, k0, k1, k2, k3, k5, hC, hbm⟩ := id T.cls
  have hcl : clsIn K C = some { name := nm, bases := bs, mro := .ref C :: bm, ns := N, qualname := qn, hasDict := true, slotNames := sn, subclasses := sub, abstract := ab, collection := col, hasDel := false } := by unfold clsIn; rw [hC] <;> rfl
  have hD1 := I.kIn _ _ hC
  obtain ⟨t1, ho1⟩ := exo_at I.hok ha
  obtain ⟨pl, hev1⟩ := hev (ksEnv qual scope s.heap.objs.size f (.ref cda) cc)
  refine ks_wpAt_execs_cons (ks_wpAt_Expr_any (ks_wpAt_MethodCall (pl := pl) ?_ hev1) (by show (scope.kind == .module && _) = false; rw [S.kind]; rfl) (hsw _))
  refine ks_wpAt_super_base (env := ksEnv qual scope s.heap.objs.size f (.ref cda) cc) S.sup S.cls (by decide) rfl (I.kIn _ _ lk) rfl hp rfl (I.kIn _ _ hcode) rfl hvs hfile htop ?_
  refine ks_loadName_global S.kind S.sup (Calls.loadGlobal_builtin (env := ksEnv qual scope s.heap.objs.size f (.ref cda) cc) (I.mod.glob.keeps I.bk) hsuper (b1.keeps I.bk) ((b2 _ (by decide)).trans PyProof.Rows.Boot.«super») ⟨rfl, ?_⟩)
  refine wpAny_loadName_free S.kind S.cls rfl ⟨_, I.kIn _ _ hcell, rfl⟩ ?_
  refine wpAny_loadName_local S.kind (by rw [har]; exact S.par sf (by simp)) hns (by rw [har]; exact hz) ?_
  refine ks_wpAny_isType_cls hD1 rfl ⟨rfl, ?_⟩
  refine ks_wpAny_call_super hD1 rfl ho1 rfl (fun c z => nomatch z) (looks_mroIn I.kIn hsub) (fun h2 e2 k2 => ?_)
  have I2 := I.kept (t' := s.toks + ([sf, xn].zip [Value.ref a, u]).length) k2
  have inst : InstAt h2 a { cls := .ref C, dict := none, data := .fields #[.ref t1, .none, .none, .none, .bool false, .none] } C none := ⟨k2 _ _ ho1, rfl, rfl, trivial⟩
  have hI : Looks (model P w) h2 (isInstance (.ref a) (.type "ValueError")) true := inst.type.andThen (looks_subIn I2.kIn hB)
  have hm1 : alongIn K "__init__" (((Value.ref C :: bm).dropWhile (· != .ref C)).drop 1) = some (some (.builtin "ValueError.__init__")) := by
    have z := hm
    unfold ks_superIn at z
    rw [hcl] at z
    exact z
  refine kxs_getMethod kxs_ValueError e2 (looks_opaque I2.kIn ho) (l₀ := .ref C :: bm) (fun A Q E s k q => wpAny_bind ((looks_clsIn I2.kIn hcl) A _ E s k (wpAny_pure q))) rfl I2.kIn hm1 hI (ks_ne I2.kIn inst hcl) (by decide) ?_
  have I3 := (I2.kept (t' := s.toks + ([sf, xn].zip [Value.ref a, u]).length + 1) (h' := h2.push (kxs_mw "ValueError.__init__" a)) fun b o z => Heap.get?_push_of_some _ z).pins_of (pins' := [(h2.objs.size, kxs_mw "ValueError.__init__" a)]) fun p hp => by
    obtain rfl : p = (h2.objs.size, kxs_mw "ValueError.__init__" a) := by simpa using hp
    exact ⟨Heap.get?_push_at rfl rfl, I2.hok.fresh (Nat.le_refl _), Nat.ne_of_gt I2.lt, I2.nofs (Nat.le_refl _), fun v z => nomatch z⟩
  refine cw1 (i := "ValueError.__init__") (x := a) (thn (hpa.run p3 _ _ _ _ _ I3 hta) fun us s4 ⟨vs, H1, I4, r4, hlen, hH⟩ => ?_) (hstar _)
  subst hH
  have hu := (I4.pin _ (List.mem_append_right _ (List.mem_singleton.mpr rfl))).1
  refine ⟨hu, call_mw T I4 ha hu (by rw [← Paired.length r4, sizeLine_eq]; omega) fun s5 J => ?_⟩
  have P2 : PS (cxSH CX P w K mg base [sf, xn] qual scope f (.ref cda) cc A outer s H1 E pH) (.Assign [.Attribute (.Name sf q1) fld q2] (.Name xn q3) q4) (tOst K fld (tVar 0) (tVar 1)) := ps_ost (pe_var rfl (.inl (S.par sf (by simp))) n1 n2) (pe_var rfl (.inl (S.par xn (by simp))) n3 n4) (hsw2 _)
  refine ks_wpAt_execs_cons (wpAt_of_wpAny (thn (P2.run _ s5 _ _ { nx := fun _ H' => Q .non H', rt := Q } J ⟨_, rfl, _, rfl, a, C, rfl, T, hno, .inl ⟨ha, q⟩⟩) fun fl s6 hs => ?_))
  cases fl with
  | ret u =>
    obtain ⟨v, σ', H', J, rv, q⟩ := hs
    exact ⟨v, H', J.os, J.bare, J.base, J.hok, rv, q⟩
  | next =>
    obtain ⟨σ', H', J, q⟩ := hs
    exact wpAt_of_wpAny (wpAny_pure ⟨.non, H', J.os, J.bare, J.base, J.hok, rfl, q⟩)
  | brk =>
    obtain ⟨_, _, _, q⟩ := hs
    exact False.elim q
  | cont =>
    obtain ⟨_, _, _, q⟩ := hs
    exact False.elim q
end OPNH
/-! ### defs that let out exceptions whose context may stand on the ground -/
section OKC
open PySem.Spec PyProof.Rows
theorem Fun.okC {P : Program} {w : World} {K : PySem.W.Frag} {mg : Str → Option Value} {base : Heap} {x qual : Str} {st : Stmt} {f : Addr} {fd : FuncData} {N ps : List Str} {k : Nat} {sp : Sp} (F : L2.Fun K x qual st f fd) (S : FnScope N ps (defScope st)) (len : ∀ vs H Q E, sp vs H Q E → vs.length = ps.length)
    (hbody : ∀ (cdv : Value) (A : Around) (outer : List Env) (s : Shared) (H : Hp) (vs : List V) (Q : VK) (E : XK), Room k (A.deeper (PyProof.Rows.envOfC qual (defScope st) s.heap.objs.size f cdv)) → sp vs H Q E →
      ∃ t, PSs (cxOf (L2C.CX P w) P w K mg base N qual (defScope st) f cdv A outer s H E) (defBody st) t ∧ t { nx := fun _ H' => Q .non H', rt := Q } (L2.start N vs) H) : FnOk P w K mg base (L2C.CX P w) (k + 1) f fd ps sp := by
  obtain ⟨oc, od, kV, doc, pm, an, cdv, ct, osl, rfl, lk, hcd⟩ := F.ex
  exact fn_of lk hcd S len fun A outer s H vs Q E hr hsp => hbody cdv A outer s H vs Q E hr hsp
section
variable {P : Program} {w : World} {K : PySem.W.Frag} {mg : Str → Option Value} {base : Heap} {N : List Str} {q : Str} {sc : Scope} {f : Addr} {cdv : Value} {A : Around} {outer : List Env} {s : Shared} {H : Hp} {E : XK}
theorem passDC : Passes (L2N.CX P w) (cxOf (L2C.CX P w) P w K mg base N q sc f cdv A outer s H E) E := L2C.passesN (X := cxOf (L2C.CX P w) P w K mg base N q sc f cdv A outer s H E) (L2C.takes_of rfl rfl rfl rfl)
theorem passDCC : Passes (L2C.CX P w) (cxOf (L2C.CX P w) P w K mg base N q sc f cdv A outer s H E) E := L2C.passes (X := cxOf (L2C.CX P w) P w K mg base N q sc f cdv A outer s H E) (L2C.takes_of rfl rfl rfl rfl)
end
theorem passC0 {X : Cx} : Passes (L2C.CX X.prog X.w) X (fun _ _ _ => False) := fun _ _ _ _ _ _ _ ⟨_, _, _, _, _, _, _, _, _, _, _, _, z⟩ => z.elim
theorem passAt {X : Cx} {W : WX} (tk : L2N.Takes X W) : ∀ σ, PassesAt (L2N.CX X.prog X.w) X σ (fun cls d H => W cls d σ H) := fun σ pins H s e s' I c => tk e s' (L2N.XE.of_call I (fun _ _ _ h => h) c)
/-- C(v): the error and its field -/
theorem out_core {H : Hp} {E : XK} {C : Addr} {fld : Str} {okv : V → Prop} {v : V} (ok : okv v) (q : ∀ (e : Addr) (H' : Hp), Same H H' → H e = none → H' e = some (.xd [(fld, v)]) → E (.ref C) (some e) H') : [v].length ≤ 1000 ∧ ∀ a, H a = none → spS C fld okv (.ref a :: ([v] ++ [])) (upd H a (exo a C none))
    (fun v H2 => v = .non ∧ ∃ (d : Addr) (fs : List (Str × V)), H2 a = some (exo a C (some d)) ∧ H2 d = some (exd d fs) ∧ H d = none ∧ E (.ref C) (some d) (upd (del H2 a) d (.xd fs))) (fun _ _ _ => False) := by
  refine ⟨(by show 1 ≤ 1000; omega), fun a na => ⟨a, v, rfl, upd_same, ok, fun dx' ndx ne => ?_⟩⟩
  rw [upd_ne ne] at ndx
  refine ⟨rfl, dx', _, upd_same, (upd_ne ne).trans upd_same, ndx, ?_⟩
  refine q dx' _ (fun b o hb' => ?_) ndx upd_same
  have ba : b ≠ a := ne_of_none hb' na
  have bd : b ≠ dx' := ne_of_none hb' ndx
  rw [upd_ne bd, del_ne ba, upd_ne ba, upd_ne bd, upd_ne ba]
  exact hb'
theorem out_own {σ : L2.St} {H : Hp} {E : XK} {C : Addr} {fld : Str} {okv : V → Prop} {v : V} {i : Nat} (hv : σ[i]? = some (some v)) (ok : okv v) (q : ∀ (e : Addr) (H' : Hp), Same H H' → H e = none → H' e = some (.xd [(fld, v)]) → E (.ref C) (some e) H') : tMkO C (spS C fld okv) [] (tCons (tVar i) tNil) σ H (fun cls d H' => E cls d H') := ⟨_, hv, out_core ok q⟩
end OKC
/-! ### where a term can be rewritten -/
def Tree.can (t : Tree) (on : Bool) : List (List Bool) := (t.pts []).filter fun p => (t.rwt on p).isSome
theorem Tree.pl_fst : ∀ (t : Tree) (p : List Bool), (t.pl p).map (·.1) = t.pts p
  | .L, p => rfl
  | .N l r, p => by
    show p :: (l.pl (p ++ [false]) ++ r.pl (p ++ [true])).map (·.1) = ([p] ++ l.pts (p ++ [false])) ++ r.pts (p ++ [true])
    rw [List.map_append, pl_fst l, pl_fst r]
    rfl
theorem Tree.pl_st : ∀ (t : Tree) (pre : List Bool) (x : List Bool × Tree), x ∈ t.pl pre → ∃ q, x.1 = pre ++ q ∧ t.st q = some x.2
  | .L, pre, x, h => by
    rw [List.mem_singleton.mp h]
    exact ⟨[], by simp, rfl⟩
  | .N l r, pre, x, h => by
    rcases List.mem_cons.mp h with rfl | h
    · exact ⟨[], by simp, rfl⟩
    rcases List.mem_append.mp h with h | h
    · obtain ⟨q, e1, e2⟩ := pl_st l _ x h
      exact ⟨false :: q, by rw [e1]; simp, e2⟩
    · obtain ⟨q, e1, e2⟩ := pl_st r _ x h
      exact ⟨true :: q, by rw [e1]; simp, e2⟩
theorem rwt_isSome {t u : Tree} {p : List Bool} {on : Bool} (h : t.st p = some u) : (t.rwt on p).isSome = (u.r0 on).isSome := by
  unfold Tree.rwt
  rw [h]
  show ((u.r0 on).bind fun u' => t.rp p u').isSome = _
  cases e : u.r0 on with
  | none => rfl
  | some u' =>
    obtain ⟨t', e2⟩ := Tree.rp_some u' t p u h
    show (t.rp p u').isSome = true
    rw [e2]
    rfl
theorem Tree.can_pl (t : Tree) (on : Bool) : ((t.pl []).filter fun x => (x.2.r0 on).isSome).map (·.1) = t.can on := by
  unfold can
  rw [← pl_fst t [], List.filter_map]
  congr 1
  refine List.filter_congr fun x hx => ?_
  obtain ⟨q, e1, e2⟩ := pl_st t [] x hx
  rw [List.nil_append] at e1
  show (x.2.r0 on).isSome = (t.rwt on x.1).isSome
  rw [e1, rwt_isSome e2]
/-! ### ascending texts -/
abbrev leS (a b : Str) : Prop := ¬ (b.cps.toList < a.cps.toList)
theorem leS_of {a b : Str} (h : PySem.Spec.ltCps b.cps.toList a.cps.toList = false) : leS a b := by
  rw [PyProof.Rows.ltCps_eq] at h
  exact of_decide_eq_false h
theorem leS_trans {a b c : Str} (h1 : leS a b) (h2 : leS b c) : leS a c := List.le_trans (α := Nat) (l₁ := a.cps.toList) (l₂ := b.cps.toList) (l₃ := c.cps.toList) h1 h2
theorem leS_anti {a b : Str} (h1 : leS a b) (h2 : leS b a) : a = b := by
  have e : a.cps.toList = b.cps.toList := List.le_antisymm (α := Nat) h1 h2
  obtain ⟨⟨x⟩⟩ := a
  obtain ⟨⟨y⟩⟩ := b
  cases e
  rfl
theorem rising_pw : ∀ (l : List Str) (p : Str), PyProof.Rows.risingS p l = true → (p :: l).Pairwise leS
  | [], p, _ => by simp
  | x :: l, p, h => by
    have h : (!PySem.Spec.ltCps x.cps.toList p.cps.toList && PyProof.Rows.risingS x l) = true := h
    rw [Bool.and_eq_true] at h
    have h1 : leS p x := leS_of (by have := h.1; cases e : PySem.Spec.ltCps x.cps.toList p.cps.toList with | false => rfl | true => rw [e] at this; cases this)
    have h2 := rising_pw l x h.2
    refine List.pairwise_cons.mpr ⟨fun y hy => ?_, h2⟩
    rcases List.mem_cons.mp hy with rfl | hy
    · exact h1
    · exact leS_trans h1 ((List.pairwise_cons.mp h2).1 y hy)
theorem sorted_pw : ∀ (l : List Str), PyProof.Rows.sortedS l = true → l.Pairwise leS
  | [], _ => by simp
  | x :: l, h => rising_pw l x h
theorem sorted_eqS : ∀ {l m : List Str}, l.Perm m → l.Pairwise leS → m.Pairwise leS → l = m
  | [], m, h, _, _ => (List.nil_perm.mp h).symm
  | x :: l, [], h, _, _ => absurd (List.perm_nil.mp h) (by simp)
  | x :: l, y :: m, h, h1, h2 => by
    obtain ⟨a1, a2⟩ := List.pairwise_cons.mp h1
    obtain ⟨b1, b2⟩ := List.pairwise_cons.mp h2
    have e : x = y := by
      have hx := h.mem_iff.mp (List.mem_cons_self (a := x) (l := l))
      have hy := h.mem_iff.mpr (List.mem_cons_self (a := y) (l := m))
      rcases List.mem_cons.mp hx with z | z
      · exact z
      rcases List.mem_cons.mp hy with z' | z'
      · exact z'.symm
      exact leS_anti (a1 y z') (b1 x z)
    subst e
    rw [sorted_eqS (h.cons_inv) a2 b2]
theorem lt_app : ∀ (c : List Nat) {a b : List Nat}, a < b → c ++ a < c ++ b
  | [], _, _, h => h
  | x :: c, a, b, h => List.cons_lt_cons_iff.mpr (.inr ⟨rfl, lt_app c h⟩)
theorem pcs_app (p q : List Bool) : pcs (p ++ q) = pcs p ++ pcs q := List.map_append
theorem Tree.pts_pre : ∀ (t : Tree) (pre p : List Bool), p ∈ t.pts pre → ∃ q, p = pre ++ q
  | .L, pre, p, h => ⟨[], by rw [List.mem_singleton.mp h]; simp⟩
  | .N l r, pre, p, h => by
    rcases List.mem_append.mp h with h | h
    · rcases List.mem_append.mp h with h | h
      · exact ⟨[], by rw [List.mem_singleton.mp h]; simp⟩
      · obtain ⟨q, e⟩ := pts_pre l _ p h
        exact ⟨false :: q, by rw [e]; simp⟩
    · obtain ⟨q, e⟩ := pts_pre r _ p h
      exact ⟨true :: q, by rw [e]; simp⟩
theorem Tree.pts_up : ∀ (t : Tree) (pre : List Bool), (t.pts pre).Pairwise fun p q => leS (ptx p) (ptx q)
  | .L, pre => by
    show ([pre] : List (List Bool)).Pairwise _
    simp
  | .N l r, pre => by
    have lt_le : ∀ {p q : List Bool}, pcs p < pcs q → leS (ptx p) (ptx q) := fun {p q} h => by
      show ¬ ((ptx q).cps.toList < (ptx p).cps.toList)
      rw [ptx_cps, ptx_cps]
      exact List.lt_asymm h
    have hpre : ∀ {b : Bool} {q : List Bool}, pcs pre < pcs ((pre ++ [b]) ++ q) := fun {b q} => by
      rw [pcs_app, pcs_app, List.append_assoc]
      have := lt_app (pcs pre) (a := []) (b := pcs [b] ++ pcs q) (List.nil_lt_cons _ _)
      rwa [List.append_nil] at this
    have hlr : ∀ {q1 q2 : List Bool}, pcs ((pre ++ [false]) ++ q1) < pcs ((pre ++ [true]) ++ q2) := fun {q1 q2} => by
      rw [pcs_app, pcs_app, pcs_app, pcs_app, List.append_assoc, List.append_assoc]
      exact lt_app (pcs pre) (List.cons_lt_cons_iff.mpr (.inl (by decide)))
    show (([pre] ++ l.pts (pre ++ [false])) ++ r.pts (pre ++ [true])).Pairwise _
    refine List.pairwise_append.mpr ⟨List.pairwise_append.mpr ⟨by simp, pts_up l _, fun x hx y hy => ?_⟩, pts_up r _, fun x hx y hy => ?_⟩
    · rw [List.mem_singleton.mp hx]
      obtain ⟨q, rfl⟩ := pts_pre l _ y hy
      exact lt_le hpre
    · obtain ⟨q, rfl⟩ := pts_pre r _ y hy
      rcases List.mem_append.mp hx with hx | hx
      · rw [List.mem_singleton.mp hx]
        exact lt_le hpre
      · obtain ⟨q1, rfl⟩ := pts_pre l _ x hx
        exact lt_le hlr
/-- the list of places is ascending: any sorted rearrangement is itself -/
theorem Tree.can_sorted {t : Tree} {on : Bool} {ys : List Str} (h1 : ys.Perm ((t.can on).map ptx)) (h2 : PyProof.Rows.sortedS ys = true) : ys = (t.can on).map ptx := by
  refine sorted_eqS h1 (sorted_pw ys h2) ?_
  rw [List.pairwise_map]
  exact (t.pts_up []).filter _
def spRPs (K : PySem.W.Frag) (CI : Addr) (on : Option Bool) : Sp := fun vs H Q E => ∃ (v : V) (d : PyData) (o : Bool), (vs = match on with | none => [v, .bl o] | some _ => [v]) ∧ (∀ b, on = some b → o = b) ∧ NT K H v d ∧ ndD d ≤ 1000 ∧ (okd d = false → ∀ H', Same H H' → E (.ref CI) none H') ∧
  ∀ t : Tree, d = t.d → t.sz ≤ 12 → t.dp ≤ 6 → ∀ (l : Addr) (H' : Hp), Same H H' → H l = none → H' l = some (.lst (ptxs (t.can o))) → Q (.ref l) H'
theorem PoolA.setL {K : PySem.W.Frag} {C x d a b c D : Addr} {G : Hp} {ts : List Tree} {acc ys : List V} (p : PoolA K C x d a b c G ts) (hD : G D = some (.lst acc)) (n1 : D ≠ a) (n2 : D ≠ b) (n3 : D ≠ c) : PoolA K C x d a b c (upd G D (.lst ys)) ts := by
  obtain ⟨dx, es, ps, cs, hx, hd, ha, hb, hc, m1, m2, m3, g, o, dd⟩ := p
  have tp : Tp G (upd G D (.lst ys)) := Tp.but hD But.set
  exact ⟨dx, es, ps, cs, by rw [upd_ne (ne_of hx hD (fun z => nomatch z))]; exact hx, by rw [upd_ne (ne_of hd hD (fun z => nomatch z))]; exact hd, by rw [upd_ne n1.symm]; exact ha, by rw [upd_ne n2.symm]; exact hb, by rw [upd_ne n3.symm]; exact hc, m1, m2, m3, g, o.mono tp, dpAll_tp tp dd⟩
theorem PlA.get {K : PySem.W.Frag} {H : Hp} {ts : List Tree} : ∀ {vs : List V} {ys : List (List Bool × Tree)}, PlA K H ts vs ys → ∀ {i : Nat} {v : V}, vs[i]? = some v → ∃ (q : Addr) (k : Nat) (p : List Bool) (t : Tree), v = .ref q ∧ SqT K H q [.str (ptx p), .int (k : Nat)] ∧ ts[k]? = some t ∧ ys[i]? = some (p, t)
  | _, _, .nil, i, v, h => by simp at h
  | _, _, .cons h1 h2 h3, 0, v, h => by
    cases h
    exact ⟨_, _, _, _, rfl, h1, h2, rfl⟩
  | _, _, .cons h1 h2 h3, i + 1, v, h => PlA.get h3 (i := i) h
abbrev sV (x : Addr × List Bool × Bool) : V := V.ref x.1
def stp2 (t : Tree) (p : List Bool) (j : Nat) : List (List Bool × Bool) := (([true, false].take j).filter fun on => (t.rwt on p).isSome).map fun on => (p, on)
def stp1 (t : Tree) (p : List Bool) : List (List Bool × Bool) := ([true, false].filter fun on => (t.rwt on p).isSome).map fun on => (p, on)
def stps (t : Tree) : List (List Bool × Bool) := (t.pts []).flatMap (stp1 t)
def spStpX (K : PySem.W.Frag) : Sp := fun vs H Q _ => ∃ (v : V) (t : Tree), vs = [v] ∧ TA K H v t ∧ t.dp ≤ 8 ∧ t.nodes ≤ 400 ∧ ∀ (l : Addr) (L : List (Addr × List Bool × Bool)) (H' : Hp), Same H H' → H l = none → H' l = some (.lst (L.map sV)) → L.length ≤ 1000 → (∀ x ∈ L, H' x.1 = some (.tup [.str (ptx x.2.1), .bl x.2.2])) → L.map (·.2) = stps t → Q (.ref l) H'
theorem stps_on (t : Tree) (on : Bool) : ((stps t).filter fun x => x.2 == on).map (·.1) = t.can on := by
  unfold stps Tree.can
  induction t.pts [] with
  | nil => rfl
  | cons p l ih =>
    rw [List.flatMap_cons, List.filter_append, List.map_append, ih, List.filter_cons]
    cases on <;> cases h1 : (t.rwt true p).isSome <;> cases h2 : (t.rwt false p).isSome <;> simp [stp1, List.filter_cons, h1, h2]
def sD (ps : List (List Bool)) : PyData := .list (ps.map fun p => .str (ptx p))
theorem dp_strs {K : PySem.W.Frag} {H : Hp} : ∀ ps : List (List Bool), DpAll K H (ptxs ps) (ps.map fun p => .str (ptx p))
  | [] => .nil
  | p :: ps => .cons (.str _) (dp_strs ps)
theorem sD_lay : ∀ ps : List (List Bool), PyData.canLayAll0 (ps.map fun p => .str (ptx p)) = true
  | [] => rfl
  | p :: ps => by
    show (PyData.canLay0 (.str (ptx p)) && PyData.canLayAll0 (ps.map fun p => .str (ptx p))) = true
    rw [sD_lay ps, Bool.and_true]
    show (ptx p).cps.all (· < 0x110000) = true
    rw [Array.all_eq_true]
    intro i hi
    have hc : (ptx p).cps[i]? = some (ptx p).cps[i] := Array.getElem?_eq_getElem hi
    obtain ⟨b, _, e⟩ := pcs_at p i _ hc
    rw [e]
    cases b <;> decide
theorem sD_dep : ∀ ps : List (List Bool), PyData.depthAll (ps.map fun p => .str (ptx p)) ≤ 1
  | [] => Nat.zero_le _
  | p :: ps => by
    have h := sD_dep ps
    show max (PyData.depth (.str (ptx p))) (PyData.depthAll (ps.map fun p => .str (ptx p))) ≤ 1
    have e : PyData.depth (.str (ptx p)) ≤ 1 := by first | exact Nat.le_refl _ | exact Nat.zero_le _
    omega
theorem sD_wide : ∀ ps : List (List Bool), wideAll (ps.map fun p => .str (ptx p)) = true
  | [] => rfl
  | _ :: ps => sD_wide ps
theorem sD2_ok (a b : List (List Bool)) (ha : a.length ≤ 1000) (hb : b.length ≤ 1000) : SeqAt.shaped (.list [sD a, sD b]) = true ∧ (PyData.list [sD a, sD b]).depth < 14 ∧ wide (.list [sD a, sD b]) = true := by
  have d1 := sD_dep a
  have d2 := sD_dep b
  have e : (PyData.list [sD a, sD b]).depth = max (PyData.depthAll (a.map fun p => .str (ptx p)) + 1) (max (PyData.depthAll (b.map fun p => .str (ptx p)) + 1) 0) + 1 := rfl
  refine ⟨?_, by omega, ?_⟩
  · unfold SeqAt.shaped
    rw [show (PyData.list [sD a, sD b]).canLay0 = (PyData.canLayAll0 (a.map fun p => .str (ptx p)) && (PyData.canLayAll0 (b.map fun p => .str (ptx p)) && true)) from rfl, sD_lay, sD_lay, decide_eq_true (by omega)]
    rfl
  · show (decide (2 ≤ 1000) && ((decide ((a.map fun p => PyData.str (ptx p)).length ≤ 1000) && wideAll (a.map fun p => .str (ptx p))) && ((decide ((b.map fun p => PyData.str (ptx p)).length ≤ 1000) && wideAll (b.map fun p => .str (ptx p))) && true))) = true
    rw [sD_wide, sD_wide, List.length_map, List.length_map, decide_eq_true ha, decide_eq_true hb]
    rfl
theorem Tree.can_len (t : Tree) (on : Bool) : (t.can on).length ≤ t.nodes := by
  have := List.length_filter_le (fun p => (t.rwt on p).isSome) (t.pts [])
  rw [t.pts_len] at this
  exact this
theorem ptxs_map (ps : List (List Bool)) : ptxs ps = (ps.map ptx).map V.str := by
  unfold ptxs
  rw [List.map_map]
  rfl
structure Fr09 (K : PySem.W.Frag) (T : List (Addr × Str)) (r c : Addr) (v : V) (t : Tree) (la lb : Addr) (G : Hp) : Prop where
  R : RngC G r c
  tb : LamX.Tabs T G
  a : TA K G v t
  L : G la = some (.lst (ptxs (t.can true)))
  M : G lb = some (.lst (ptxs (t.can false)))
theorem Fr09.same {K : PySem.W.Frag} {T : List (Addr × Str)} {r c la lb : Addr} {v : V} {t : Tree} {G G' : Hp} (h : Fr09 K T r c v t la lb G) (s : Same G G') : Fr09 K T r c v t la lb G' := ⟨h.R.same s, tabs_same s h.tb, ta_mono (Tp.same s) h.a, s _ _ h.L, s _ _ h.M⟩
theorem Fr09.set {K : PySem.W.Frag} {T : List (Addr × Str)} {r c la lb l : Addr} {v : V} {t : Tree} {xs ys : List V} {G : Hp} (h : Fr09 K T r c v t la lb G) (n1 : l ≠ r ∧ l ≠ c) (n2 : la ≠ l) (n3 : lb ≠ l) (hl : G l = some (.lst xs)) : Fr09 K T r c v t la lb (upd G l (.lst ys)) :=
  ⟨h.R.set n1, tabs_set h.tb hl (fun b o n e => by rw [upd_ne n]; exact e), ta_mono (Tp.but hl But.set) h.a, by rw [upd_ne n2]; exact h.L, by rw [upd_ne n3]; exact h.M⟩
/-! ### expansions: the steps of a term, what they reach -/
def Tree.ex1 (l : Tree) : Tree → List (List Bool × Tree)
  | .N b c => [([], .N (.N l b) (.N l c))]
  | .L => []
def Tree.exs : Tree → List (List Bool × Tree)
  | .L => []
  | .N l r => l.ex1 r ++ (l.exs.map (fun x => (false :: x.1, .N x.2 r)) ++ r.exs.map fun x => (true :: x.1, .N l x.2))
theorem Tree.exs_N (l r : Tree) : (Tree.N l r).exs = l.ex1 r ++ (l.exs.map (fun x => (false :: x.1, Tree.N x.2 r)) ++ r.exs.map fun x => (true :: x.1, Tree.N l x.2)) := rfl
theorem Tree.rwt_f (on : Bool) (l r : Tree) (p : List Bool) : (Tree.N l r).rwt on (false :: p) = (l.rwt on p).map fun x => Tree.N x r := by
  show (l.st p).bind (fun u => (u.r0 on).bind fun u' => (l.rp p u').map fun x => Tree.N x r) = ((l.st p).bind fun u => (u.r0 on).bind fun u' => l.rp p u').map _
  cases l.st p with
  | none => rfl
  | some u =>
    show (u.r0 on).bind _ = ((u.r0 on).bind _).map _
    cases u.r0 on <;> rfl
theorem Tree.rwt_t (on : Bool) (l r : Tree) (p : List Bool) : (Tree.N l r).rwt on (true :: p) = (r.rwt on p).map fun x => Tree.N l x := by
  show (r.st p).bind (fun u => (u.r0 on).bind fun u' => (r.rp p u').map fun x => Tree.N l x) = ((r.st p).bind fun u => (u.r0 on).bind fun u' => r.rp p u').map _
  cases r.st p with
  | none => rfl
  | some u =>
    show (u.r0 on).bind _ = ((u.r0 on).bind _).map _
    cases u.r0 on <;> rfl
theorem Tree.rwt_e (on : Bool) (t : Tree) : t.rwt on [] = t.r0 on := by
  unfold rwt
  rw [st_nil]
  show (t.r0 on).bind (fun u' => t.rp [] u') = _
  cases e : t.r0 on with
  | none => rfl
  | some u => exact rp_nil _ _
theorem Tree.exs_iff : ∀ (t : Tree) (p : List Bool) (u : Tree), (p, u) ∈ t.exs ↔ t.rwt true p = some u
  | .L, p, u => by
    constructor
    · intro h; cases h
    · intro h
      cases p with
      | nil => rw [rwt_e] at h; cases h
      | cons b p => cases h
  | .N l r, [], u => by
    rw [rwt_e]
    have e : ∀ b : Bool, ([], u) ∈ l.exs.map (fun x => (false :: x.1, Tree.N x.2 r)) ++ r.exs.map (fun x => (true :: x.1, Tree.N l x.2)) → False := fun _ h => by
      rcases List.mem_append.mp h with h | h
      · obtain ⟨x, _, e⟩ := List.mem_map.mp h; cases e
      · obtain ⟨x, _, e⟩ := List.mem_map.mp h; cases e
    cases r with
    | L =>
      constructor
      · intro h
        rcases List.mem_append.mp h with h | h
        · cases h
        · exact (e true h).elim
      · intro h
        have h : (none : Option Tree) = some u := h
        cases h
    | N b c =>
      constructor
      · intro h
        rcases List.mem_append.mp h with h | h
        · cases List.mem_singleton.mp h
          rfl
        · exact (e true h).elim
      · intro h
        have h : some (Tree.N (.N l b) (.N l c)) = some u := h
        cases h
        exact List.mem_append_left _ (List.mem_singleton.mpr rfl)
  | .N l r, false :: p, u => by
    rw [rwt_f]
    have hh : (false :: p, u) ∈ (Tree.N l r).exs ↔ (false :: p, u) ∈ l.exs.map fun x => (false :: x.1, Tree.N x.2 r) := by
      constructor
      · intro h
        rcases List.mem_append.mp h with h | h
        · cases r with
          | L => cases h
          | N b c => cases List.mem_singleton.mp h
        rcases List.mem_append.mp h with h | h
        · exact h
        · obtain ⟨x, _, e⟩ := List.mem_map.mp h; cases e
      · intro h
        exact List.mem_append_right _ (List.mem_append_left _ h)
    rw [hh, List.mem_map]
    constructor
    · rintro ⟨⟨q, v⟩, hx, e⟩
      have e1 : q = p := (List.cons.inj (congrArg Prod.fst e)).2
      have e2 : Tree.N v r = u := congrArg Prod.snd e
      subst e1 e2
      rw [(exs_iff l q v).mp hx]
      rfl
    · intro h
      obtain ⟨v, h1, rfl⟩ := Option.map_eq_some_iff.mp h
      exact ⟨(p, v), (exs_iff l p v).mpr h1, rfl⟩
  | .N l r, true :: p, u => by
    rw [rwt_t]
    have hh : (true :: p, u) ∈ (Tree.N l r).exs ↔ (true :: p, u) ∈ r.exs.map fun x => (true :: x.1, Tree.N l x.2) := by
      constructor
      · intro h
        rcases List.mem_append.mp h with h | h
        · cases r with
          | L => cases h
          | N b c => cases List.mem_singleton.mp h
        rcases List.mem_append.mp h with h | h
        · obtain ⟨x, _, e⟩ := List.mem_map.mp h; cases e
        · exact h
      · intro h
        exact List.mem_append_right _ (List.mem_append_right _ h)
    rw [hh, List.mem_map]
    constructor
    · rintro ⟨⟨q, v⟩, hx, e⟩
      have e1 : q = p := (List.cons.inj (congrArg Prod.fst e)).2
      have e2 : Tree.N l v = u := congrArg Prod.snd e
      subst e1 e2
      rw [(exs_iff r q v).mp hx]
      rfl
    · intro h
      obtain ⟨v, h1, rfl⟩ := Option.map_eq_some_iff.mp h
      exact ⟨(p, v), (exs_iff r p v).mpr h1, rfl⟩
theorem Tree.exs_len : ∀ t : Tree, t.exs.length + 1 ≤ t.sz
  | .L => Nat.le_refl _
  | .N l r => by
    have h1 := exs_len l
    have h2 := exs_len r
    have h3 := l.sz_pos
    have e : (Tree.N l r).exs.length = (l.ex1 r).length + (l.exs.length + r.exs.length) := by
      rw [exs_N, List.length_append, List.length_append, List.length_map, List.length_map]
    rw [e]
    show _ ≤ l.sz + r.sz
    cases r with
    | L =>
      have e1 : Tree.L.sz = 1 := rfl
      have e2 : Tree.L.exs.length = 0 := rfl
      show 0 + _ + 1 ≤ _
      omega
    | N b c =>
      show 1 + _ + 1 ≤ _
      omega
theorem Tree.dp_lt : ∀ t : Tree, t.dp < t.sz
  | .L => Nat.zero_lt_one
  | .N l r => by
    have h1 := dp_lt l
    have h2 := dp_lt r
    show max l.dp r.dp + 1 < l.sz + r.sz
    omega
theorem Tree.exs_sz : ∀ (t : Tree) (x : List Bool × Tree), x ∈ t.exs → t.sz < x.2.sz ∧ x.2.sz ≤ 2 * t.sz ∧ x.2.dp ≤ t.dp + 1 ∧ x.1.length < t.sz
  | .L, x, h => nomatch h
  | .N l r, x, h => by
    rcases List.mem_append.mp h with h | h
    · cases r with
      | L => cases h
      | N b c =>
        rw [List.mem_singleton.mp h]
        have := l.sz_pos
        have := b.sz_pos
        have := c.sz_pos
        show l.sz + (b.sz + c.sz) < (l.sz + b.sz) + (l.sz + c.sz) ∧ (l.sz + b.sz) + (l.sz + c.sz) ≤ 2 * (l.sz + (b.sz + c.sz)) ∧ max (max l.dp b.dp + 1) (max l.dp c.dp + 1) + 1 ≤ max l.dp (max b.dp c.dp + 1) + 1 + 1 ∧ 0 < l.sz + (b.sz + c.sz)
        omega
    rcases List.mem_append.mp h with h | h
    · obtain ⟨y, hy, rfl⟩ := List.mem_map.mp h
      obtain ⟨a1, a2, a3, a4⟩ := exs_sz l y hy
      have := r.sz_pos
      show l.sz + r.sz < y.2.sz + r.sz ∧ y.2.sz + r.sz ≤ 2 * (l.sz + r.sz) ∧ max y.2.dp r.dp + 1 ≤ max l.dp r.dp + 1 + 1 ∧ y.1.length + 1 < l.sz + r.sz
      omega
    · obtain ⟨y, hy, rfl⟩ := List.mem_map.mp h
      obtain ⟨a1, a2, a3, a4⟩ := exs_sz r y hy
      have := l.sz_pos
      show l.sz + r.sz < l.sz + y.2.sz ∧ l.sz + y.2.sz ≤ 2 * (l.sz + r.sz) ∧ max l.dp y.2.dp + 1 ≤ max l.dp r.dp + 1 + 1 ∧ y.1.length + 1 < l.sz + r.sz
      omega
/-- what expanding makes of t within a size -/
inductive Rch (top : Nat) (t : Tree) : Tree → Prop
  | base : t.sz ≤ top → Rch top t t
  | step {u v : Tree} {p : List Bool} : Rch top t u → (p, v) ∈ u.exs → v.sz ≤ top → Rch top t v
theorem Rch.sz {top : Nat} {t u : Tree} (h : Rch top t u) : u.sz ≤ top := by
  cases h <;> assumption
/-- a set that holds t and is closed holds all -/
theorem Rch.ind {top : Nat} {t u : Tree} {S : Tree → Prop} (h0 : t.sz ≤ top → S t) (hs : ∀ u, S u → Rch top t u → ∀ x ∈ u.exs, x.2.sz ≤ top → S x.2) (h : Rch top t u) : S u := by
  induction h with
  | base h => exact h0 h
  | step h1 h2 h3 ih => exact hs _ ih h1 _ h2 h3
/-- a list of all that is reached -/
def AllR (top : Nat) (t : Tree) (us : List Tree) : Prop := us.Nodup ∧ ∀ u, u ∈ us ↔ Rch top t u
/-- more than 500 are reached -/
def Many (top : Nat) (t : Tree) : Prop := ∃ us : List Tree, us.Nodup ∧ 500 < us.length ∧ ∀ u ∈ us, Rch top t u
theorem nodup_sub {α : Type} [DecidableEq α] : ∀ {as bs : List α}, as.Nodup → (∀ x ∈ as, x ∈ bs) → as.length ≤ bs.length
  | [], bs, _, _ => Nat.zero_le _
  | a :: as, bs, h, hs => by
    obtain ⟨h1, h2⟩ := List.nodup_cons.mp h
    have ha : a ∈ bs := hs a List.mem_cons_self
    have h3 : as.length ≤ (bs.erase a).length := nodup_sub h2 fun x hx => by
      have hxa : x ≠ a := fun z => h1 (z ▸ hx)
      exact (List.mem_erase_of_ne hxa).mpr (hs x (List.mem_cons_of_mem _ hx))
    rw [List.length_erase_of_mem ha] at h3
    have := List.length_pos_of_mem ha
    show as.length + 1 ≤ bs.length
    omega
instance : DecidableEq Tree := fun a b => if h : a.eqb b = true then isTrue (Tree.eqb_eq h) else isFalse fun z => h (z ▸ Tree.eqb_refl a)
theorem many_not {top : Nat} {t : Tree} {us : List Tree} (m : Many top t) (a : AllR top t us) : 500 < us.length := by
  obtain ⟨vs, h1, h2, h3⟩ := m
  exact Nat.lt_of_lt_of_le h2 (nodup_sub h1 fun x hx => (a.2 x).mpr (h3 x hx))
theorem allR_len {top : Nat} {t : Tree} {us vs : List Tree} (a : AllR top t us) (b : AllR top t vs) : us.length = vs.length :=
  Nat.le_antisymm (nodup_sub a.1 fun x hx => (b.2 x).mpr ((a.2 x).mp hx)) (nodup_sub b.1 fun x hx => (a.2 x).mpr ((b.2 x).mp hx))
/-! ### rows of sizes: a code of the terms -/
def Tree.szr : Tree → List Int
  | .L => [1]
  | .N l r => ((l.sz + r.sz : Nat) : Int) :: (l.szr ++ r.szr)
theorem Tree.szr_inj : ∀ (t u : Tree) (xs ys : List Int), t.szr ++ xs = u.szr ++ ys → t = u ∧ xs = ys
  | .L, .L, xs, ys, h => ⟨rfl, (List.cons.inj h).2⟩
  | .L, .N l r, xs, ys, h => by
    have h1 : (1 : Int) = ((l.sz + r.sz : Nat) : Int) := (List.cons.inj h).1
    have := l.sz_pos
    have := r.sz_pos
    omega
  | .N l r, .L, xs, ys, h => by
    have h1 : ((l.sz + r.sz : Nat) : Int) = 1 := (List.cons.inj h).1
    have := l.sz_pos
    have := r.sz_pos
    omega
  | .N l r, .N l' r', xs, ys, h => by
    have h1 : (l.szr ++ r.szr) ++ xs = (l'.szr ++ r'.szr) ++ ys := (List.cons.inj h).2
    rw [List.append_assoc, List.append_assoc] at h1
    obtain ⟨rfl, h2⟩ := szr_inj l l' _ _ h1
    obtain ⟨rfl, h3⟩ := szr_inj r r' _ _ h2
    exact ⟨rfl, h3⟩
theorem Tree.szr_eq {t u : Tree} (h : t.szr = u.szr) : t = u := (szr_inj t u [] [] (by rw [h])).1
theorem Tree.szr_len : ∀ t : Tree, t.szr.length = t.nodes
  | .L => rfl
  | .N l r => by
    show (l.szr ++ r.szr).length + 1 = l.nodes + r.nodes + 1
    rw [List.length_append, szr_len l, szr_len r]
theorem Tree.cs_inj : ∀ (t u : Tree) (xs ys : List Nat), t.cs ++ xs = u.cs ++ ys → t = u ∧ xs = ys
  | .L, .L, xs, ys, h => ⟨rfl, (List.cons.inj h).2⟩
  | .L, .N l r, xs, ys, h => by
    have h1 : (120 : Nat) = 40 := (List.cons.inj h).1
    omega
  | .N l r, .L, xs, ys, h => by
    have h1 : (40 : Nat) = 120 := (List.cons.inj h).1
    omega
  | .N l r, .N l' r', xs, ys, h => by
    have h1 : (l.cs ++ (r.cs ++ [41])) ++ xs = (l'.cs ++ (r'.cs ++ [41])) ++ ys := (List.cons.inj h).2
    rw [List.append_assoc, List.append_assoc, List.append_assoc, List.append_assoc] at h1
    obtain ⟨rfl, h2⟩ := cs_inj l l' _ _ h1
    obtain ⟨rfl, h3⟩ := cs_inj r r' _ _ h2
    exact ⟨rfl, (List.cons.inj h3).2⟩
theorem Tree.txt_inj {t u : Tree} (h : t.txt = u.txt) : t = u := by
  have h1 : t.cs.toArray = u.cs.toArray := by injection h
  have h2 : t.cs = u.cs := by simpa using h1
  exact (cs_inj t u [] [] (by rw [h2])).1
/-! ### expansions: promises -/
def spStF (K : PySem.W.Frag) (C : Addr) (n : Nat) : Sp := fun vs H Q _ => ∃ (x d a b c : Addr) (m : Nat) (ts : List Tree) (t : Tree), vs = [.ref x, .int m] ∧ PoolA K C x d a b c H ts ∧ ts[m]? = some t ∧ t.dp < n ∧ n ≤ 40 ∧ t.sz ≤ 40 ∧ ts.length + t.sz * t.sz ≤ 900000 ∧
  ∀ (l : Addr) (ws : List V) (ts' : List Tree) (H' : Hp), PoolA K C x d a b c H' ts' → Ex4 d a b c H H' → Pre ts ts' → ts'.length + t.sz ≤ ts.length + t.sz * t.sz → H l = none → H' l = some (.lst ws) → PlA K H' ts' ws t.exs → Q (.ref l) H'
theorem empA (z : Str) : Str.empty ++ z = z := by
  show (⟨#[] ++ z.cps⟩ : Str) = z
  simp
theorem ptx_c0 (p : List Bool) : Str.ofString "0" ++ ptx p = ptx (false :: p) := by
  show (⟨#[48] ++ (pcs p).toArray⟩ : Str) = ⟨(48 :: pcs p).toArray⟩
  congr 1
  apply Array.toList_inj.mp
  simp
theorem ptx_c1 (p : List Bool) : Str.ofString "1" ++ ptx p = ptx (true :: p) := by
  show (⟨#[49] ++ (pcs p).toArray⟩ : Str) = ⟨(49 :: pcs p).toArray⟩
  congr 1
  apply Array.toList_inj.mp
  simp
/-- one more step behind those of a list -/
theorem PlA.snoc {K : PySem.W.Frag} {H : Hp} {ts : List Tree} {vs : List V} {ys : List (List Bool × Tree)} {q : Addr} {k : Nat} {p : List Bool} {u : Tree} (h : PlA K H ts vs ys) (hq : SqT K H q [.str (ptx p), .int (k : Nat)]) (hk : ts[k]? = some u) : PlA K H ts (vs ++ [.ref q]) (ys ++ [(p, u)]) := h.app (.cons hq hk .nil)
/-- a list of ours beside the pool, written -/
theorem Ex4.setL {d a b c D : Addr} {H G : Hp} {o : HO} (e : Ex4 d a b c H G) (h : H D = none) : Ex4 d a b c H (upd G D o) := fun q u hu n1 n2 n3 n4 => by
  rw [upd_ne (ne_of_none hu h)]
  exact e q u hu n1 n2 n3 n4
theorem PlA.mapF {K : PySem.W.Frag} {H : Hp} {ts : List Tree} : ∀ {vs : List V} {ys : List (List Bool × Tree)}, PlA K H ts vs ys → vs.length = ys.length := fun h => h.len
def spSzI (K : PySem.W.Frag) (C : Addr) (n : Nat) : Sp := fun vs H Q _ => ∃ (x d a b c : Addr) (m : Nat) (ts : List Tree) (t : Tree), vs = [.ref x, .int m] ∧ PoolA K C x d a b c H ts ∧ ts[m]? = some t ∧ t.dp < n ∧ n ≤ 40 ∧ t.nodes ≤ 1000 ∧
  ∀ (l : Addr) (H' : Hp), Same H H' → H l = none → H' l = some (.lst (t.szr.map V.int)) → Q (.ref l) H'
def ixs (ns : List Nat) : List V := ns.map jV
def trOf (ts : List Tree) (n : Nat) : Tree := ts.getD n .L
theorem PoolA.extN {K : PySem.W.Frag} {C x d a b c : Addr} {H H' : Hp} {ts : List Tree} (e : LamX.ExtN H H') (p : PoolA K C x d a b c H ts) : PoolA K C x d a b c H' ts := by
  obtain ⟨dx, es, ps, cs, h1, h2, h3, h4, h5, n1, n2, n3, g, o, dd⟩ := p
  exact ⟨dx, es, ps, cs, e _ _ h1 (fun _ => nofun), e _ _ h2 (fun _ => nofun), e _ _ h3 (fun _ => nofun), e _ _ h4 (fun _ => nofun), e _ _ h5 (fun _ => nofun), n1, n2, n3, g, o.mono (Tp.extN e), dpAll_tp (Tp.extN e) dd⟩
theorem PoolA.setD {K : PySem.W.Frag} {C x d a b c o : Addr} {G : Hp} {ts : List Tree} {kvs kvs' : List (Key × V)} (p : PoolA K C x d a b c G ts) (hD : G o = some (.dK kvs)) (n0 : o ≠ d) : PoolA K C x d a b c (upd G o (.dK kvs')) ts := by
  obtain ⟨dx, es, ps, cs, hx, hd, ha, hb, hc, m1, m2, m3, g, oo, dd⟩ := p
  have tp : Tp G (upd G o (.dK kvs')) := fun bb xs hb => by
    rcases hb with hb | ⟨u, hb⟩
    · exact .inl (by rw [upd_ne (ne_of hb hD (fun z => nomatch z))]; exact hb)
    · exact .inr ⟨u, by rw [upd_ne (ne_of hb hD (fun z => nomatch z))]; exact hb⟩
  exact ⟨dx, es, ps, cs, by rw [upd_ne (ne_of hx hD (fun z => nomatch z))]; exact hx, by rw [upd_ne n0.symm]; exact hd, by rw [upd_ne (ne_of ha hD (fun z => nomatch z))]; exact ha, by rw [upd_ne (ne_of hb hD (fun z => nomatch z))]; exact hb, by rw [upd_ne (ne_of hc hD (fun z => nomatch z))]; exact hc, m1, m2, m3, g, oo.mono tp, dpAll_tp tp dd⟩
/-- p holds nothing that is ours -/
def NewX (H : Hp) (p : Addr) : Prop := ∀ b o, H b = some o → (∀ ps, o ≠ .tbl ps) → b ≠ p
theorem NewX.of {H : Hp} {p : Addr} (h : H p = none) : NewX H p := fun b o e _ => ne_of_none e h
theorem NewX.ext {H H' : Hp} {p : Addr} (e : LamX.ExtN H H') (h : NewX H' p) : NewX H p := fun b o q n => h b o (e b o q n) n
theorem upd_extN {H : Hp} {p : Addr} {o : HO} (h : H p = none) : LamX.ExtN H (upd H p o) := LamX.ExtN.of (Same.new h o)
/-- the numbers in the order of their terms -/
def InOrd (ts : List Tree) (ns ms : List Nat) : Prop := ms.Perm ns ∧ ms.Pairwise fun i j => (trOf ts i).szr ≤ (trOf ts j).szr
def spInO (K : PySem.W.Frag) (C : Addr) (T : List (Addr × Str)) : Sp := fun vs H Q _ => ∃ (x d a b c o : Addr) (ts : List Tree) (kvs : List (Key × V)) (ns : List Nat), vs = [.ref x, .ref o] ∧ PoolA K C x d a b c H ts ∧ LamX.Tabs T H ∧ H o = some (.dK kvs) ∧ kvs.map (·.1) = ns.map (fun n : Nat => Sum.inl (n : Int)) ∧ ns.length ≤ 1000 ∧
  (∀ n ∈ ns, ∃ t, ts[n]? = some t ∧ t.dp < 32 ∧ t.nodes ≤ 1000) ∧ ∀ (p : Addr) (ms : List Nat) (H' : Hp), LamX.ExtN H H' → LamX.Tabs T H' → NewX H p → H' p = some (.lst (ixs ms)) → InOrd ts ns ms → Q (.ref p) H'
theorem trOf_at {ts : List Tree} {n : Nat} {t : Tree} (h : ts[n]? = some t) : trOf ts n = t := by
  unfold trOf
  rw [List.getD_eq_getElem?_getD, h]
  rfl
theorem byRow_nums {ts : List Tree} : ∀ {ns : List Nat} {bs : List (V × List Int)}, ByRow bs (ixs ns) (ns.map fun n => (trOf ts n).szr) → ∃ ms, InOrd ts ns ms ∧ bs.map (fun b => b.1) = ixs ms := fun {ns bs} ⟨h1, h2⟩ => by
  have ez : (ixs ns).zip (ns.map fun n => (trOf ts n).szr) = ns.map fun n => (jV n, (trOf ts n).szr) := by
    unfold ixs
    rw [List.zip_map']
  rw [ez] at h1
  let back : V × List Int → Nat := fun b => match b.1 with | .int i => i.toNat | _ => 0
  have eb : ∀ n : Nat, back (jV n, (trOf ts n).szr) = n := fun n => Int.toNat_natCast n
  have hm : ∀ b ∈ bs, b = (jV (back b), (trOf ts (back b)).szr) := fun b hb => by
    obtain ⟨n, _, rfl⟩ := List.mem_map.mp (h1.mem_iff.mp hb)
    rw [eb]
  refine ⟨bs.map back, ⟨?_, ?_⟩, ?_⟩
  · have h3 := h1.map back
    rw [List.map_map, show (back ∘ fun n => (jV n, (trOf ts n).szr)) = id from funext eb, List.map_id] at h3
    exact h3
  · rw [List.pairwise_map]
    refine h2.imp_of_mem fun {p q} hp hq z => ?_
    rw [hm p hp, hm q hq] at z
    exact z
  · unfold ixs
    rw [List.map_map]
    refine List.map_congr_left fun b hb => ?_
    have e := congrArg Prod.fst (hm b hb)
    exact e
/-- where an expansion comes from: the number and the path, or the term itself -/
def orgV : Option Nat → V
  | none => .non
  | some n => .int (n : Int)
abbrev Org := Nat × Option Nat × List Bool
/-- the dict of what was found -/
def OrgA (K : PySem.W.Frag) (H : Hp) (o : Addr) (O : List Org) : Prop := ∃ kvs : List (Key × V), H o = some (.dK kvs) ∧ Paired (fun (kv : Key × V) (e : Org) => kv.1 = Sum.inl (e.1 : Int) ∧ ∃ q, kv.2 = .ref q ∧ SqT K H q [orgV e.2.1, .str (ptx e.2.2)]) kvs O
structure Found (ts : List Tree) (top : Nat) (t : Tree) (O : List Org) : Prop where
  nd : (O.map (·.1)).Nodup
  ok : ∀ (i : Nat) (n : Nat) (g : Option Nat) (p : List Bool), O[i]? = some (n, g, p) → ∃ u, ts[n]? = some u ∧ Rch top t u ∧ (g = none → u = t ∧ p = []) ∧ ∀ m, g = some m → ∃ (j : Nat) (g' : Option Nat) (p' : List Bool) (v : Tree), j < i ∧ O[j]? = some (m, g', p') ∧ ts[m]? = some v ∧ (p, u) ∈ v.exs
  all : ∀ u, Rch top t u → ∃ n g p, (n, g, p) ∈ O ∧ ts[n]? = some u
def spFnd (K : PySem.W.Frag) (C CI CZ CL : Addr) : Sp := fun vs H Q E => ∃ (x d a b c : Addr) (v : V) (dt : PyData) (top : Int) (ts : List Tree), vs = [.ref x, v, .int top] ∧ PoolA K C x d a b c H ts ∧ ts.length ≤ 440000 ∧ NT K H v dt ∧ ndD dt ≤ 1000 ∧ (okd dt = false → ∀ H', Same H H' → E (.ref CI) none H') ∧
  ∀ t : Tree, dt = t.d → t.sz ≤ 12 → t.dp ≤ 6 → (¬ (1 ≤ top ∧ top ≤ 30) → ∀ H', Same H H' → E (.ref CZ) none H') ∧ (1 ≤ top → top ≤ 30 →
    (Many top.toNat t → ∀ (e : Addr) (H' : Hp), Ex4 d a b c H H' → H e = none → H' e = some (.xd [("size", .int top)]) → E (.ref CL) (some e) H') ∧
    ∀ (o : Addr) (O : List Org) (ts' : List Tree) (H' : Hp), PoolA K C x d a b c H' ts' → Ex4 d a b c H H' → Pre ts ts' → ts'.length ≤ ts.length + 435100 → H o = none → OrgA K H' o O → O.length ≤ 500 → Found ts' top.toNat t O → Q (.ref o) H')
def spStpW (K : PySem.W.Frag) : Sp := fun vs H Q _ => ∃ (v : V) (t : Tree), vs = [v] ∧ TA K H v t ∧ t.dp ≤ 29 ∧ t.nodes ≤ 400 ∧ ∀ (l : Addr) (L : List (Addr × List Bool × Bool)) (H' : Hp), Same H H' → H l = none → H' l = some (.lst (L.map sV)) → L.length ≤ 1000 → (∀ x ∈ L, H' x.1 = some (.tup [.str (ptx x.2.1), .bl x.2.2])) → L.map (·.2) = stps t → Q (.ref l) H'
/-! ### the search for expansions: what holds at each turn -/
def Has (ts : List Tree) (O : List Org) (u : Tree) : Prop := ∃ n g p, (n, g, p) ∈ O ∧ ts[n]? = some u
def OrgOk (ts : List Tree) (top : Nat) (t : Tree) (O : List Org) : Prop := ∀ (i : Nat) (n : Nat) (g : Option Nat) (p : List Bool), O[i]? = some (n, g, p) → ∃ u, ts[n]? = some u ∧ Rch top t u ∧ (g = none → u = t ∧ p = []) ∧ ∀ m, g = some m → ∃ (j : Nat) (g' : Option Nat) (p' : List Bool) (v : Tree), j < i ∧ O[j]? = some (m, g', p') ∧ ts[m]? = some v ∧ (p, u) ∈ v.exs
structure Seek (ts : List Tree) (top : Nat) (t : Tree) (O W : List Org) : Prop where
  nd : (O.map (·.1)).Nodup
  ok : OrgOk ts top t O
  wk : ∀ n g p, (n, g, p) ∈ W → ∃ u, ts[n]? = some u ∧ u.sz ≤ 60 ∧ p.length ≤ 60 ∧ (g = none → u = t ∧ p = []) ∧ ∀ m, g = some m → ∃ g' p' v, (m, g', p') ∈ O ∧ ts[m]? = some v ∧ (p, u) ∈ v.exs
  cl : ∀ n g p u, (n, g, p) ∈ O → ts[n]? = some u → ∀ x ∈ u.exs, x.2.sz ≤ top → Has ts O x.2 ∨ Has ts W x.2
  st : t.sz ≤ top → Has ts O t ∨ Has ts W t
theorem Seek.start {ts : List Tree} {top : Nat} {t : Tree} {n : Nat} (h : ts[n]? = some t) (hz : t.sz ≤ 60) : Seek ts top t [] [(n, none, [])] where
  nd := .nil
  ok := fun i n g p h => nomatch h
  wk := fun n' g p hm => by
    cases List.mem_singleton.mp hm
    exact ⟨t, h, hz, Nat.zero_le _, fun _ => ⟨rfl, rfl⟩, fun m e => nomatch e⟩
  cl := fun n g p u hm => nomatch hm
  st := fun _ => .inr ⟨n, none, [], List.mem_singleton.mpr rfl, h⟩
theorem Has.pre {ts ts' : List Tree} {O : List Org} {u : Tree} (pr : Pre ts ts') (h : Has ts O u) : Has ts' O u := by
  obtain ⟨n, g, p, h1, h2⟩ := h
  exact ⟨n, g, p, h1, pr _ _ h2⟩
theorem Has.left {ts : List Tree} {O W : List Org} {u : Tree} (h : Has ts O u) : Has ts (O ++ W) u := by
  obtain ⟨n, g, p, h1, h2⟩ := h
  exact ⟨n, g, p, List.mem_append_left _ h1, h2⟩
theorem Has.right {ts : List Tree} {O W : List Org} {u : Tree} (h : Has ts W u) : Has ts (O ++ W) u := by
  obtain ⟨n, g, p, h1, h2⟩ := h
  exact ⟨n, g, p, List.mem_append_right _ h1, h2⟩
theorem Has.or {ts : List Tree} {O W : List Org} {u : Tree} (h : Has ts (O ++ W) u) : Has ts O u ∨ Has ts W u := by
  obtain ⟨n, g, p, h1, h2⟩ := h
  rcases List.mem_append.mp h1 with h1 | h1
  · exact .inl ⟨n, g, p, h1, h2⟩
  · exact .inr ⟨n, g, p, h1, h2⟩
theorem Has.one {ts : List Tree} {n : Nat} {g : Option Nat} {p : List Bool} {u v : Tree} (h : Has ts [(n, g, p)] u) (hv : ts[n]? = some v) : v = u := by
  obtain ⟨n', g', p', h1, h2⟩ := h
  cases List.mem_singleton.mp h1
  rw [hv] at h2
  exact Option.some.inj h2
/-- what waits is dropped: it is known, or too large -/
theorem Seek.skip {ts : List Tree} {top : Nat} {t : Tree} {O W : List Org} {n : Nat} {g : Option Nat} {p : List Bool} {u : Tree} (s : Seek ts top t O (W ++ [(n, g, p)])) (hu : ts[n]? = some u) (h : n ∈ O.map (·.1) ∨ top < u.sz) : Seek ts top t O W := by
  have key : ∀ x : Tree, x.sz ≤ top → Has ts O x ∨ Has ts (W ++ [(n, g, p)]) x → Has ts O x ∨ Has ts W x := fun x hx y => by
    rcases y with y | y
    · exact .inl y
    rcases y.or with y | y
    · exact .inr y
    have e := y.one hu
    subst e
    rcases h with h | h
    · obtain ⟨⟨n', g', p'⟩, h1, h2⟩ := List.mem_map.mp h
      have h2 : n' = n := h2
      subst h2
      exact .inl ⟨n', g', p', h1, hu⟩
    · omega
  exact ⟨s.nd, s.ok, fun n g p hm => s.wk n g p (List.mem_append_left _ hm), fun n g p u' hm hu' x hx hz => key _ hz (s.cl n g p u' hm hu' x hx hz), fun hz => key _ hz (s.st hz)⟩
/-- the new items: the steps of the tree of n -/
def newW (n : Nat) (ks : List (List Bool × Nat)) : List Org := ks.map fun x => (x.2, some n, x.1)
theorem Seek.org {ts : List Tree} {top : Nat} {t : Tree} {O W : List Org} {n : Nat} {g : Option Nat} {p : List Bool} {u : Tree} (s : Seek ts top t O (W ++ [(n, g, p)])) (hu : ts[n]? = some u) (hn : n ∉ O.map (·.1)) (hz : u.sz ≤ top) :
    ((O ++ [(n, g, p)]).map (·.1)).Nodup ∧ OrgOk ts top t (O ++ [(n, g, p)]) ∧ Rch top t u := by
  obtain ⟨u', h1, h2, h2b, h3, h4⟩ := s.wk n g p (List.mem_append_right _ (List.mem_singleton.mpr rfl))
  rw [hu] at h1
  cases h1
  have hr : Rch top t u := by
    cases g with
    | none =>
      obtain ⟨rfl, _⟩ := h3 rfl
      exact .base hz
    | some m =>
      obtain ⟨g', p', v, a1, a2, a3⟩ := h4 m rfl
      obtain ⟨i, hi⟩ := List.mem_iff_getElem?.mp a1
      obtain ⟨v', b1, b2, _⟩ := s.ok i m g' p' hi
      rw [a2] at b1
      cases b1
      exact .step b2 a3 hz
  refine ⟨?_, fun i n' g' p' hi => ?_, hr⟩
  · rw [List.map_append]
    exact nodup_snoc s.nd hn
  · rcases Nat.lt_or_ge i O.length with hl | hl
    · rw [List.getElem?_append_left hl] at hi
      obtain ⟨v, a1, a2, a3, a4⟩ := s.ok i n' g' p' hi
      refine ⟨v, a1, a2, a3, fun m hm => ?_⟩
      obtain ⟨j, g2, p2, w, b1, b2, b3⟩ := a4 m hm
      exact ⟨j, g2, p2, w, b1, by rw [List.getElem?_append_left (by omega)]; exact b2, b3⟩
    · have hi2 : i = O.length := by
        have := (List.getElem?_eq_some_iff.mp hi).1
        rw [List.length_append, List.length_singleton] at this
        omega
      subst hi2
      rw [List.getElem?_append_right (Nat.le_refl _), Nat.sub_self] at hi
      cases hi
      refine ⟨u, hu, hr, h3, fun m hm => ?_⟩
      obtain ⟨g', p', v, a1, a2, a3⟩ := h4 m hm
      obtain ⟨j, hj⟩ := List.mem_iff_getElem?.mp a1
      have hj2 := (List.getElem?_eq_some_iff.mp hj).1
      exact ⟨j, g', p', v, hj2, by rw [List.getElem?_append_left hj2]; exact hj, a2, a3⟩
theorem OrgOk.pre {ts ts' : List Tree} {top : Nat} {t : Tree} {O : List Org} (pr : Pre ts ts') (h : OrgOk ts top t O) : OrgOk ts' top t O := fun i n g p hi => by
  obtain ⟨u, a1, a2, a3, a4⟩ := h i n g p hi
  refine ⟨u, pr _ _ a1, a2, a3, fun m hm => ?_⟩
  obtain ⟨j, g', p', v, b1, b2, b3, b4⟩ := a4 m hm
  exact ⟨j, g', p', v, b1, b2, pr _ _ b3, b4⟩
theorem OrgOk.tree {ts : List Tree} {top : Nat} {t : Tree} {O : List Org} (h : OrgOk ts top t O) {n : Nat} {g : Option Nat} {p : List Bool} (hm : (n, g, p) ∈ O) : ∃ u, ts[n]? = some u ∧ Rch top t u := by
  obtain ⟨i, hi⟩ := List.mem_iff_getElem?.mp hm
  obtain ⟨u, a1, a2, _⟩ := h i n g p hi
  exact ⟨u, a1, a2⟩
/-- what waits is taken: its steps wait now -/
theorem Seek.take {ts ts' : List Tree} {top : Nat} {t : Tree} {O W : List Org} {n : Nat} {g : Option Nat} {p : List Bool} {u : Tree} {ks : List (List Bool × Nat)} (s : Seek ts top t O (W ++ [(n, g, p)])) (hu : ts[n]? = some u) (hn : n ∉ O.map (·.1)) (hz : u.sz ≤ top) (h30 : top ≤ 30) (pr : Pre ts ts')
    (hk : ks.length = u.exs.length) (hks : ∀ (i : Nat) (q : List Bool) (k : Nat), ks[i]? = some (q, k) → ∃ v, u.exs[i]? = some (q, v) ∧ ts'[k]? = some v) : Seek ts' top t (O ++ [(n, g, p)]) (W ++ newW n ks) := by
  obtain ⟨h1, h2, h3⟩ := s.org hu hn hz
  have key : ∀ x : Tree, Has ts O x ∨ Has ts (W ++ [(n, g, p)]) x → Has ts' (O ++ [(n, g, p)]) x ∨ Has ts' (W ++ newW n ks) x := fun x y => by
    rcases y with y | y
    · exact .inl (y.pre pr).left
    rcases y.or with y | y
    · exact .inr (y.pre pr).left
    · exact .inl (y.pre pr).right
  refine ⟨h1, h2.pre pr, fun n' g' p' hm => ?_, fun n' g' p' u' hm hu' x hx hxz => ?_, fun hz => key t (s.st hz)⟩
  · rcases List.mem_append.mp hm with hm | hm
    · obtain ⟨v, a1, a2, a2b, a3, a4⟩ := s.wk n' g' p' (List.mem_append_left _ hm)
      refine ⟨v, pr _ _ a1, a2, a2b, a3, fun m hm => ?_⟩
      obtain ⟨g2, p2, w, b1, b2, b3⟩ := a4 m hm
      exact ⟨g2, p2, w, List.mem_append_left _ b1, pr _ _ b2, b3⟩
    · obtain ⟨⟨q, k⟩, hq, e⟩ := List.mem_map.mp hm
      cases e
      obtain ⟨i, hi⟩ := List.mem_iff_getElem?.mp hq
      obtain ⟨v, c1, c2⟩ := hks i _ _ hi
      have hmem := List.mem_of_getElem? c1
      have hs := u.exs_sz _ hmem
      have hs1 : v.sz ≤ 2 * u.sz := hs.2.1
      have hs2 : q.length < u.sz := hs.2.2.2
      refine ⟨v, c2, by omega, (by show q.length ≤ 60; omega), fun e => (nomatch e), fun m hm => ?_⟩
      cases hm
      exact ⟨g, p, u, List.mem_append_right _ (List.mem_singleton.mpr rfl), pr _ _ hu, hmem⟩
  · rcases List.mem_append.mp hm with hm | hm
    · obtain ⟨v, a1, _⟩ := s.ok.tree hm
      have e : u' = v := Option.some.inj (hu'.symm.trans (pr _ _ a1))
      subst e
      exact key _ (s.cl n' g' p' u' hm a1 x hx hxz)
    · cases List.mem_singleton.mp hm
      have e : u' = u := Option.some.inj (hu'.symm.trans (pr _ _ hu))
      subst e
      obtain ⟨i, hi⟩ := List.mem_iff_getElem?.mp hx
      have hi2 := (List.getElem?_eq_some_iff.mp hi).1
      have hi3 : ks[i]? = some ks[i] := List.getElem?_eq_getElem (by omega)
      obtain ⟨v, c1, c2⟩ := hks i ks[i].1 ks[i].2 hi3
      rw [hi] at c1
      have e : x.2 = v := by rw [Option.some.inj c1]
      refine .inr (Has.right ⟨ks[i].2, some n, ks[i].1, List.mem_map.mpr ⟨ks[i], List.getElem_mem _, rfl⟩, by rw [e]; exact c2⟩)
theorem Seek.found {ts : List Tree} {top : Nat} {t : Tree} {O : List Org} (s : Seek ts top t O []) : Found ts top t O where
  nd := s.nd
  ok := s.ok
  all := fun u hu => by
    have no : ∀ x, Has ts ([] : List Org) x → False := fun x ⟨_, _, _, h, _⟩ => nomatch h
    have h : Has ts O u := Rch.ind (S := Has ts O) (fun hz => (s.st hz).elim id fun y => (no _ y).elim) (fun v ⟨n, g, p, h1, h2⟩ _ x hx hz => (s.cl n g p v h1 h2 x hx hz).elim id fun y => (no _ y).elim) hu
    exact h
/-- different numbers, different terms -/
theorem orgs_many {ts : List Tree} {top : Nat} {t : Tree} {O : List Org} (inj : ∀ {u : Tree} {i j : Nat}, ts[i]? = some u → ts[j]? = some u → i = j) (nd : (O.map (·.1)).Nodup) (ok : OrgOk ts top t O) (h : 500 < O.length) : Many top t := by
  have hn : ∀ n ∈ O.map (·.1), ∃ u, ts[n]? = some u ∧ Rch top t u := fun n hn => by
    obtain ⟨⟨n', g, p⟩, h1, h2⟩ := List.mem_map.mp hn
    cases h2
    exact ok.tree h1
  refine ⟨(O.map (·.1)).map (trOf ts), ?_, by rw [List.length_map, List.length_map]; exact h, fun u hu => ?_⟩
  · rw [List.nodup_iff_pairwise_ne, List.pairwise_map]
    refine (List.nodup_iff_pairwise_ne.mp nd).imp_of_mem fun {i j} hi hj hne e => ?_
    obtain ⟨u, a1, _⟩ := hn i hi
    obtain ⟨v, b1, _⟩ := hn j hj
    rw [trOf_at a1, trOf_at b1] at e
    exact hne (inj a1 (e ▸ b1))
  · obtain ⟨n, h1, rfl⟩ := List.mem_map.mp hu
    obtain ⟨u, a1, a2⟩ := hn n h1
    rw [trOf_at a1]
    exact a2
/-- the heap's side -/
def WtA (K : PySem.W.Frag) (H : Hp) (vs : List V) (W : List Org) : Prop := Paired (fun (v : V) (e : Org) => ∃ q, v = .ref q ∧ SqT K H q [.int (e.1 : Int), orgV e.2.1, .str (ptx e.2.2)]) vs W
theorem paired_mono {α β : Type} {R S : α → β → Prop} (h : ∀ a b, R a b → S a b) : ∀ {as : List α} {bs : List β}, Paired R as bs → Paired S as bs
  | _, _, .nil => .nil
  | _, _, .cons r rs => .cons (h _ _ r) (paired_mono h rs)
theorem paired_app {α β : Type} {R : α → β → Prop} : ∀ {as as' : List α} {bs bs' : List β}, Paired R as bs → Paired R as' bs' → Paired R (as ++ as') (bs ++ bs')
  | _, _, _, _, .nil, h => h
  | _, _, _, _, .cons r rs, h => .cons r (paired_app rs h)
theorem paired_split {α β : Type} {R : α → β → Prop} : ∀ {as : List α} {bs : List β} {b : β}, Paired R as (bs ++ [b]) → ∃ as' a, as = as' ++ [a] ∧ Paired R as' bs ∧ R a b
  | _, [], b, .cons r .nil => ⟨[], _, rfl, .nil, r⟩
  | _, _ :: bs, b, .cons r rs => by
    obtain ⟨as', a, e, h1, h2⟩ := paired_split rs
    exact ⟨_ :: as', a, by rw [e]; rfl, .cons r h1, h2⟩
theorem WtA.mono {K : PySem.W.Frag} {H H' : Hp} {vs : List V} {W : List Org} (e : Tp H H') (h : WtA K H vs W) : WtA K H' vs W := paired_mono (fun _ _ ⟨q, a, b⟩ => ⟨q, a, e.sqT b⟩) h
theorem orgA_keys {kvs : List (Key × V)} {O : List Org} {K : PySem.W.Frag} {H : Hp} : Paired (fun (kv : Key × V) (e : Org) => kv.1 = Sum.inl (e.1 : Int) ∧ ∃ q, kv.2 = .ref q ∧ SqT K H q [orgV e.2.1, .str (ptx e.2.2)]) kvs O → kvs.map (·.1) = (O.map (·.1)).map (fun n : Nat => (Sum.inl (n : Int) : Key)) ∧ kvs.length = O.length
  | .nil => ⟨rfl, rfl⟩
  | .cons r rs => by
    obtain ⟨h1, h2⟩ := orgA_keys rs
    exact ⟨by rw [List.map_cons, List.map_cons, List.map_cons, h1, r.1], congrArg (· + 1) h2⟩
theorem val_keys {kvs : List (Key × V)} {ns : List Nat} (h : kvs.map (·.1) = ns.map fun n : Nat => (Sum.inl (n : Int) : Key)) (n : Nat) : (valV kvs (Sum.inl (n : Int))).isSome = decide (n ∈ ns) := by
  rw [← valV_any]
  have e : (kvs.any fun kv => decide (kv.1 = (Sum.inl (n : Int) : Key))) = (kvs.map (·.1)).any fun k => decide (k = (Sum.inl (n : Int) : Key)) := by rw [List.any_map]; rfl
  rw [e, h, List.any_map]
  by_cases hm : n ∈ ns
  · rw [decide_eq_true hm]
    exact List.any_eq_true.mpr ⟨n, hm, decide_eq_true rfl⟩
  · rw [decide_eq_false hm]
    refine List.any_eq_false.mpr fun m hm2 z => ?_
    have z : decide ((Sum.inl (m : Int) : Key) = Sum.inl (n : Int)) = true := z
    have z2 := Sum.inl.inj (of_decide_eq_true z)
    have : m = n := by omega
    exact hm (this ▸ hm2)
theorem PlA.ks {K : PySem.W.Frag} {H : Hp} {ts : List Tree} : ∀ {vs : List V} {ys : List (List Bool × Tree)}, PlA K H ts vs ys → ∃ ks : List (List Bool × Nat), ks.length = ys.length ∧ (∀ (i : Nat) (q : List Bool) (k : Nat), ks[i]? = some (q, k) → ∃ v, ys[i]? = some (q, v) ∧ ts[k]? = some v) ∧
    ∀ (i : Nat) (w : V), vs[i]? = some w → ∃ (z : Addr) (q : List Bool) (k : Nat), w = .ref z ∧ SqT K H z [.str (ptx q), .int (k : Nat)] ∧ ks[i]? = some (q, k)
  | _, _, .nil => ⟨[], rfl, fun _ _ _ h => (nomatch h), fun _ _ h => nomatch h⟩
  | _, _, .cons (q := z) (k := k) (p := p) h1 h2 h3 => by
    obtain ⟨ks, e, a, b⟩ := PlA.ks h3
    refine ⟨(p, k) :: ks, congrArg (· + 1) e, fun i q k' h => ?_, fun i w h => ?_⟩
    · cases i with
      | zero =>
        cases h
        exact ⟨_, rfl, h2⟩
      | succ i => exact a i q k' h
    · cases i with
      | zero =>
        cases h
        exact ⟨z, p, k, rfl, h1, rfl⟩
      | succ i => exact b i w h
theorem milL {n : Nat} (h : n ≤ 1000000) : n ≤ sizeLine := Nat.le_of_lt (mil h)
theorem found_all {ts : List Tree} {top : Nat} {t : Tree} {O : List Org} {ms : List Nat} (inj : ∀ {u : Tree} {i j : Nat}, ts[i]? = some u → ts[j]? = some u → i = j) (F : Found ts top t O) (h : InOrd ts (O.map (·.1)) ms) :
    AllR top t (ms.map (trOf ts)) ∧ (ms.map (trOf ts)).Pairwise (fun u v => u.szr ≤ v.szr) ∧ (ms.map (trOf ts)).length = O.length := by
  have hn : ∀ n ∈ ms, ∃ u, ts[n]? = some u ∧ Rch top t u := fun n hn => by
    obtain ⟨⟨n', g, p⟩, h1, h2⟩ := List.mem_map.mp (h.1.mem_iff.mp hn)
    cases h2
    exact (show OrgOk ts top t O from F.ok).tree h1
  refine ⟨⟨?_, fun u => ⟨fun hu => ?_, fun hu => ?_⟩⟩, ?_, ?_⟩
  · rw [List.nodup_iff_pairwise_ne, List.pairwise_map]
    refine (List.nodup_iff_pairwise_ne.mp (h.1.nodup_iff.mpr F.nd)).imp_of_mem fun {i j} hi hj hne e => ?_
    obtain ⟨u, a1, _⟩ := hn i hi
    obtain ⟨v, b1, _⟩ := hn j hj
    rw [trOf_at a1, trOf_at b1] at e
    exact hne (inj a1 (e ▸ b1))
  · obtain ⟨n, h1, rfl⟩ := List.mem_map.mp hu
    obtain ⟨u, a1, a2⟩ := hn n h1
    rw [trOf_at a1]
    exact a2
  · obtain ⟨n, g, p, h1, h2⟩ := F.all u hu
    exact List.mem_map.mpr ⟨n, h.1.mem_iff.mpr (List.mem_map.mpr ⟨_, h1, rfl⟩), trOf_at h2⟩
  · rw [List.pairwise_map]
    exact h.2
  · rw [List.length_map, h.1.length_eq, List.length_map]
def spXps (K : PySem.W.Frag) (CI CZ CL : Addr) (T : List (Addr × Str)) : Sp := fun vs H Q E => ∃ (v : V) (dt : PyData) (top : Int), vs = [v, .int top] ∧ LamX.Tabs T H ∧ NT K H v dt ∧ ndD dt ≤ 1000 ∧ (okd dt = false → ∀ H', Same H H' → E (.ref CI) none H') ∧
  ∀ t : Tree, dt = t.d → t.sz ≤ 12 → t.dp ≤ 6 → (¬ (1 ≤ top ∧ top ≤ 30) → ∀ H', Same H H' → E (.ref CZ) none H') ∧ (1 ≤ top → top ≤ 30 →
    (Many top.toNat t → ∀ (e : Addr) (H' : Hp), Same H H' → H e = none → H' e = some (.xd [("size", .int top)]) → E (.ref CL) (some e) H') ∧
    ∀ (p : Addr) (ws : List V) (us : List Tree) (H' : Hp), LamX.ExtN H H' → LamX.Tabs T H' → NewX H p → H' p = some (.lst ws) → DpAll K H' ws (us.map Tree.d) → AllR top.toNat t us → us.Pairwise (fun u v => u.szr ≤ v.szr) → us.length ≤ 500 → Q (.ref p) H')
/-! ### the law's search for expansions -/
def lead (t : Tree) : List (List Bool) → Option Tree
  | [] => some t
  | p :: ps => (t.rwt true p).bind fun u => lead u ps
theorem lead_snoc : ∀ {ps : List (List Bool)} {t u v : Tree} {p : List Bool}, lead t ps = some u → u.rwt true p = some v → lead t (ps ++ [p]) = some v
  | [], t, u, v, p, h1, h2 => by
    cases h1
    show (t.rwt true p).bind (fun u => lead u []) = some v
    rw [h2]
    rfl
  | q :: ps, t, u, v, p, h1, h2 => by
    have h1 : (t.rwt true q).bind (fun u => lead u ps) = some u := h1
    show (t.rwt true q).bind (fun u => lead u (ps ++ [p])) = some v
    cases e : t.rwt true q with
    | none => rw [e] at h1; cases h1
    | some w =>
      rw [e] at h1
      exact lead_snoc (ps := ps) h1 h2
theorem lead_len : ∀ {ps : List (List Bool)} {t u : Tree}, lead t ps = some u → ps.length + t.sz ≤ u.sz
  | [], t, u, h => by
    cases h
    exact Nat.le_of_eq (Nat.zero_add _)
  | q :: ps, t, u, h => by
    have h : (t.rwt true q).bind (fun u => lead u ps) = some u := h
    cases e : t.rwt true q with
    | none => rw [e] at h; cases h
    | some w =>
      rw [e] at h
      have h1 := lead_len (ps := ps) h
      have h2 := (t.exs_sz (q, w) ((t.exs_iff q w).mpr e)).1
      have h2 : t.sz < w.sz := h2
      show ps.length + 1 + t.sz ≤ u.sz
      omega
theorem Tree.st_pts : ∀ (t : Tree) (pre p : List Bool) (u : Tree), t.st p = some u → pre ++ p ∈ t.pts pre
  | .L, pre, [], u, _ => by
    rw [List.append_nil]
    exact List.mem_singleton.mpr rfl
  | .L, pre, _ :: _, u, h => nomatch h
  | .N l r, pre, [], u, _ => by
    rw [List.append_nil]
    exact List.mem_append_left _ (List.mem_append_left _ (List.mem_singleton.mpr rfl))
  | .N l r, pre, false :: p, u, h => by
    have h1 := st_pts l (pre ++ [false]) p u h
    rw [List.append_assoc] at h1
    exact List.mem_append_left _ (List.mem_append_right _ h1)
  | .N l r, pre, true :: p, u, h => by
    have h1 := st_pts r (pre ++ [true]) p u h
    rw [List.append_assoc] at h1
    exact List.mem_append_right _ h1
theorem stps_iff (t : Tree) (p : List Bool) (on : Bool) : (p, on) ∈ stps t ↔ (t.rwt on p).isSome = true := by
  unfold stps
  constructor
  · intro h
    obtain ⟨q, _, h2⟩ := List.mem_flatMap.mp h
    obtain ⟨b, h3, e⟩ := List.mem_map.mp h2
    cases e
    exact (List.mem_filter.mp h3).2
  · intro h
    obtain ⟨v, hv⟩ := Option.isSome_iff_exists.mp h
    obtain ⟨u, u', h1, _⟩ := Tree.rwt_parts hv
    refine List.mem_flatMap.mpr ⟨p, ?_, ?_⟩
    · have := t.st_pts [] p u h1
      exact this
    · refine List.mem_map.mpr ⟨on, List.mem_filter.mpr ⟨?_, h⟩, rfl⟩
      cases on <;> simp
abbrev ResE := Tree × List (List Bool)
abbrev trs1 (R : List ResE) : List Tree := R.map (·.1)
structure Mid (top : Nat) (t : Tree) (R : List ResE) (rest : List Tree) (Lt : List ResE) : Prop where
  nd : (trs1 R).Nodup
  rc : ∀ e ∈ R, Rch top t e.1 ∧ lead t e.2 = some e.1
  lt : ∀ e ∈ Lt, e.1 ∈ trs1 R ∧ lead t e.2 = some e.1
  cl : ∀ w ∈ trs1 R, w ∈ rest ∨ w ∈ trs1 Lt ∨ ∀ x ∈ w.exs, x.2.sz ≤ top → x.2 ∈ trs1 R
  st : (t.sz ≤ top → t ∈ trs1 R) ∧ (top < t.sz → R = [])
theorem Mid.start1 {top : Nat} {t : Tree} (h : t.sz ≤ top) : Mid top t [(t, [])] [t] [] where
  nd := by simp
  rc := fun e he => by
    cases List.mem_singleton.mp he
    exact ⟨.base h, rfl⟩
  lt := fun e he => nomatch he
  cl := fun w hw => .inl hw
  st := ⟨fun _ => List.mem_singleton.mpr rfl, fun z => by omega⟩
theorem Mid.start0 {top : Nat} {t : Tree} (h : top < t.sz) : Mid top t [] [t] [] where
  nd := .nil
  rc := fun e he => nomatch he
  lt := fun e he => nomatch he
  cl := fun w hw => nomatch hw
  st := ⟨fun z => by omega, fun _ => rfl⟩
theorem Mid.add {top : Nat} {t u v : Tree} {R Lt : List ResE} {rest : List Tree} {ps : List (List Bool)} {p : List Bool} (m : Mid top t R rest Lt) (hu : u ∈ trs1 R) (hl : lead t ps = some u) (hv : u.rwt true p = some v) (hz : v.sz ≤ top) (hn : v ∉ trs1 R) :
    Mid top t (R ++ [(v, ps ++ [p])]) rest (Lt ++ [(v, ps ++ [p])]) := by
  obtain ⟨e0, he0, rfl⟩ := List.mem_map.mp hu
  have hr : Rch top t v := .step (m.rc e0 he0).1 ((e0.1.exs_iff p v).mpr hv) hz
  have hll := lead_snoc hl hv
  have et : trs1 (R ++ [(v, ps ++ [p])]) = trs1 R ++ [v] := List.map_append
  have et2 : trs1 (Lt ++ [(v, ps ++ [p])]) = trs1 Lt ++ [v] := List.map_append
  refine ⟨by rw [et]; exact nodup_snoc m.nd hn, fun e he => ?_, fun e he => ?_, fun w hw => ?_, fun z => by rw [et]; exact List.mem_append_left _ (m.st.1 z), fun z => ?_⟩
  · rcases List.mem_append.mp he with he | he
    · exact m.rc e he
    · cases List.mem_singleton.mp he
      exact ⟨hr, hll⟩
  · rcases List.mem_append.mp he with he | he
    · exact ⟨by rw [et]; exact List.mem_append_left _ (m.lt e he).1, (m.lt e he).2⟩
    · cases List.mem_singleton.mp he
      exact ⟨by rw [et]; exact List.mem_append_right _ (List.mem_singleton.mpr rfl), hll⟩
  · rw [et] at hw
    rw [et2]
    rcases List.mem_append.mp hw with hw | hw
    · rcases m.cl w hw with h | h | h
      · exact .inl h
      · exact .inr (.inl (List.mem_append_left _ h))
      · exact .inr (.inr fun x hx hz => by rw [et]; exact List.mem_append_left _ (h x hx hz))
    · exact .inr (.inl (List.mem_append_right _ hw))
  · rw [m.st.2 z] at he0
    exact nomatch he0
theorem Mid.done {top : Nat} {t u : Tree} {R Lt : List ResE} {rest : List Tree} (m : Mid top t R (u :: rest) Lt) (h : R ≠ [] → ∀ x ∈ u.exs, x.2.sz ≤ top → x.2 ∈ trs1 R) : Mid top t R rest Lt :=
  ⟨m.nd, m.rc, m.lt, fun w hw => by
    rcases m.cl w hw with z | z | z
    · rcases List.mem_cons.mp z with z | z
      · subst z
        exact .inr (.inr (h fun e => by rw [e] at hw; exact nomatch hw))
      · exact .inl z
    · exact .inr (.inl z)
    · exact .inr (.inr z), m.st⟩
theorem Mid.turn {top : Nat} {t : Tree} {R Lt : List ResE} (m : Mid top t R [] Lt) : Mid top t R (trs1 Lt) [] :=
  ⟨m.nd, m.rc, fun e he => (nomatch he), fun w hw => by
    rcases m.cl w hw with z | z | z
    · exact nomatch z
    · exact .inl z
    · exact .inr (.inr z), m.st⟩
theorem Mid.all {top : Nat} {t : Tree} {R : List ResE} (m : Mid top t R [] []) : AllR top t (trs1 R) := by
  refine ⟨m.nd, fun u => ⟨fun h => ?_, fun h => ?_⟩⟩
  · obtain ⟨e, he, rfl⟩ := List.mem_map.mp h
    exact (m.rc e he).1
  · refine Rch.ind (S := fun u => u ∈ trs1 R) m.st.1 (fun w hw _ x hx hz => ?_) h
    rcases m.cl w hw with z | z | z
    · exact nomatch z
    · exact nomatch z
    · exact z x hx hz
theorem Mid.many {top : Nat} {t : Tree} {R Lt : List ResE} {rest : List Tree} (m : Mid top t R rest Lt) (h : 500 < R.length) : Many top t :=
  ⟨trs1 R, m.nd, by rw [List.length_map]; exact h, fun u hu => by
    obtain ⟨e, he, rfl⟩ := List.mem_map.mp hu
    exact (m.rc e he).1⟩
/-- the heap's side: an entry, its list of paths is not the one that grows -/
def EntR (K : PySem.W.Frag) (H : Hp) (r : Addr) (v : V) (e : ResE) : Prop := ∃ (q lp : Addr) (vt : V), v = .ref q ∧ SqT K H q [vt, .ref lp] ∧ TA K H vt e.1 ∧ H lp = some (.lst (ptxs e.2)) ∧ lp ≠ r
theorem EntR.but {K : PySem.W.Frag} {H H' : Hp} {r : Addr} {v : V} {e : ResE} (b : But r H H') (tp : Tp H H') (h : EntR K H r v e) : EntR K H' r v e := by
  obtain ⟨q, lp, vt, h1, h2, h3, h4, h5⟩ := h
  exact ⟨q, lp, vt, h1, tp.sqT h2, ta_mono tp h3, b _ _ h5 h4, h5⟩
theorem EntR.same {K : PySem.W.Frag} {H H' : Hp} {r : Addr} {v : V} {e : ResE} (s : Same H H') (h : EntR K H r v e) : EntR K H' r v e := h.but (But.same s) (Tp.same s)
/-- from now on another list grows, a new one -/
theorem EntR.swap {K : PySem.W.Frag} {H H' : Hp} {r r' : Addr} {v : V} {e : ResE} (s : Same H H') (n : H r' = none) (h : EntR K H r v e) : EntR K H' r' v e := by
  obtain ⟨q, lp, vt, h1, h2, h3, h4, h5⟩ := h
  exact ⟨q, lp, vt, h1, (Tp.same s).sqT h2, ta_mono (Tp.same s) h3, s _ _ h4, ne_of_none h4 n⟩
theorem tp_setD {H : Hp} {o : Addr} {kvs kvs' : List (Key × V)} (h : H o = some (.dK kvs)) : Tp H (upd H o (.dK kvs')) := fun bb xs hb => by
  rcases hb with hb | ⟨u, hb⟩
  · exact .inl (by rw [upd_ne (ne_of hb h (fun z => nomatch z))]; exact hb)
  · exact .inr ⟨u, by rw [upd_ne (ne_of hb h (fun z => nomatch z))]; exact hb⟩
theorem EntR.setD {K : PySem.W.Frag} {H : Hp} {r o : Addr} {kvs kvs' : List (Key × V)} {v : V} {e : ResE} (ho : H o = some (.dK kvs)) (h : EntR K H r v e) : EntR K (upd H o (.dK kvs')) r v e := by
  obtain ⟨q, lp, vt, h1, h2, h3, h4, h5⟩ := h
  exact ⟨q, lp, vt, h1, (tp_setD ho).sqT h2, ta_mono (tp_setD ho) h3, by rw [upd_ne (ne_of h4 ho (fun z => nomatch z))]; exact h4, h5⟩
def KvR (K : PySem.W.Frag) (H : Hp) (r : Addr) (kvs : List (Key × V)) (R : List ResE) : Prop := Paired (fun (kv : Key × V) (e : ResE) => kv.1 = Sum.inr e.1.txt ∧ EntR K H r kv.2 e) kvs R
theorem KvR.map {K : PySem.W.Frag} {H H' : Hp} {r r' : Addr} {kvs : List (Key × V)} {R : List ResE} (f : ∀ v e, EntR K H r v e → EntR K H' r' v e) (h : KvR K H r kvs R) : KvR K H' r' kvs R := paired_mono (fun _ _ ⟨a, b⟩ => ⟨a, f _ _ b⟩) h
theorem KvR.keys {K : PySem.W.Frag} {H : Hp} {r : Addr} : ∀ {kvs : List (Key × V)} {R : List ResE}, KvR K H r kvs R → kvs.map (·.1) = (trs1 R).map (fun u => (Sum.inr u.txt : Key)) ∧ kvs.length = R.length
  | _, _, .nil => ⟨rfl, rfl⟩
  | _, _, .cons h hs => by
    obtain ⟨h1, h2⟩ := KvR.keys hs
    exact ⟨by rw [List.map_cons, h1, h.1]; rfl, congrArg (· + 1) h2⟩
theorem val_txt {kvs : List (Key × V)} {us : List Tree} (h : kvs.map (·.1) = us.map fun u => (Sum.inr u.txt : Key)) (v : Tree) : (valV kvs (Sum.inr v.txt)).isSome = decide (v ∈ us) := by
  rw [← valV_any]
  have e : (kvs.any fun kv => decide (kv.1 = (Sum.inr v.txt : Key))) = (kvs.map (·.1)).any fun k => decide (k = (Sum.inr v.txt : Key)) := by rw [List.any_map]; rfl
  rw [e, h, List.any_map]
  by_cases hm : v ∈ us
  · rw [decide_eq_true hm]
    exact List.any_eq_true.mpr ⟨v, hm, decide_eq_true rfl⟩
  · rw [decide_eq_false hm]
    refine List.any_eq_false.mpr fun m hm2 z => ?_
    have z : decide ((Sum.inr m.txt : Key) = Sum.inr v.txt) = true := z
    exact hm (Tree.txt_inj (Sum.inr.inj (of_decide_eq_true z)) ▸ hm2)
theorem paired_at {α β : Type} {R : α → β → Prop} : ∀ {as : List α} {bs : List β}, Paired R as bs → ∀ {i : Nat} {a : α}, as[i]? = some a → ∃ b, bs[i]? = some b ∧ R a b
  | _, _, .nil, i, a, h => nomatch h
  | _, _, .cons h hs, 0, a, e => by
    cases e
    exact ⟨_, rfl, h⟩
  | _, _, .cons h hs, i + 1, a, e => paired_at hs (i := i) e
/-- the dict that the search gives -/
def ResA (K : PySem.W.Frag) (H : Hp) (o : Addr) (R : List ResE) : Prop := ∃ kvs : List (Key × V), H o = some (.dK kvs) ∧ KvR K H o kvs R
structure ResOk (top : Nat) (t : Tree) (R : List ResE) : Prop where
  nd : (trs1 R).Nodup
  rc : ∀ e ∈ R, Rch top t e.1 ∧ lead t e.2 = some e.1
  all : R.length ≤ 500 → AllR top t (trs1 R)
  len : R.length ≤ 600000
def spLxp (K : PySem.W.Frag) : Sp := fun vs H Q _ => ∃ (v : V) (t : Tree) (top : Nat), vs = [v, .int (top : Int)] ∧ TA K H v t ∧ t.sz ≤ 30 ∧ top ≤ 30 ∧ ∀ (o : Addr) (R : List ResE) (H' : Hp), Same H H' → H o = none → ResA K H' o R → ResOk top t R → Q (.ref o) H'
section OPSDS
open PySem PySem.Spec PyProof.Rows
/-! ### sorted(d) of a dict with texts for keys, any number of them -/
def rSortedDS : List V → Hp → VK → Prop := fun xs H Q => ∃ (a : Addr) (kvs : List (Key × V)) (ks : List Str), xs = [.ref a] ∧ Rd H a (.dK kvs) ∧ kvs.map (·.1) = ks.map Sum.inr ∧
    ∀ (ys : List Str) (p : Addr), ys.Perm ks → H p = none → Q (.ref p) (upd H p (.lst (ys.map V.str)))
def IsTx (v : Value) (z : Str) : Prop := ∃ t, v = .str z t
theorem each_ix {β : Type} {R : Value → β → Prop} : ∀ {vs : List Value} {bs : List β}, vs.length = bs.length → (∀ (j : Nat) (v : Value), vs[j]? = some v → ∃ b, bs[j]? = some b ∧ R v b) → PySem.W.EachIs R vs bs
  | [], [], _, _ => .nil
  | v :: vs, b :: bs, hl, h => by
    obtain ⟨b', h1, h2⟩ := h 0 v rfl
    cases h1
    exact .cons h2 (each_ix (Nat.succ.inj hl) fun j v hv => h (j + 1) v hv)
theorem each_tx : ∀ {ys : List Str} {out : List Value}, PySem.W.EachIs IsTx out ys → Vals (ys.map V.str) out
  | [], _, .nil => .nil
  | _ :: _, _, .cons ⟨t, e⟩ h => .cons ⟨t, e⟩ (each_tx h)
theorem call_sortedDS {X : Cx} (hcalm : X.calm = true) (hu : X.A.units + 64 < cLine) : CallR X (.builtin "sorted") rSortedDS := by
  intro pins s σ H xs us Q I r q
  obtain ⟨a, kvs, ks, rfl, hd, hks, q⟩ := q
  rw [Vals.ref1 r]
  obtain ⟨z, lo, vs, rel, dd⟩ := dk_rd I.hok hd
  obtain ⟨ep, hat⟩ := dd.dictAt
  have hkeys : vs.map (·.1) = ks.map Sum.inr := rel.keys.symm.trans hks
  have hl : vs.length = ks.length := by
    have e := congrArg List.length hkeys
    rwa [List.length_map, List.length_map] at e
  have hz : vs.length ≤ sizeLine := by rw [← rel.length]; exact z
  refine Calls.call_function_entry PyProof.Rows.kind_sorted PyProof.Rows.plain_sorted PyProof.Rows.entry_sorted (PyProof.Rows.args_sorted1 _) ?_
  unfold Builtin.«sorted»
  refine wpAny_bind (m := checkCount "sorted" 1 1 _) (wpAny_pure ?_)
  refine wpAny_bind (PySem.W.kdu_collect (A := X.A.in1) (PySem.W.kdl_dict (knd := mixKind X.prog X.w) (kvs := vs) (ep := ep) lo) (I.ok.hd hcalm) hat hz fun h' tk acc hk hacc => ?_)
  have hal : acc.toList.length = ks.length := by rw [Array.length_toList, hacc.1, hl]
  have hS : PySem.W.EachIs IsTx acc.toList ks := each_ix hal fun j v e => by
    obtain ⟨k, x, e1, e2⟩ := hacc.2 j v (by rw [← Array.getElem?_toList]; exact e)
    have e3 : (vs.map (·.1))[j]? = some k := by rw [List.getElem?_map, e1]; rfl
    rw [hkeys, List.getElem?_map] at e3
    cases e4 : ks[j]? with
    | none => rw [e4] at e3; cases e3
    | some y =>
      rw [e4] at e3
      cases Option.some.inj e3
      rcases keyIs_shape (show keyIs (Sum.inr y) v = true from e2) with ⟨i, t, ek, ev⟩ | ⟨z, t, ek, ev⟩
      · cases ek
      · cases ek
        exact ⟨y, rfl, t, ev⟩
  have I1 : Inv X pins σ H { s with heap := h', toks := tk } := I.kept hk
  refine wpAny_bind (wpAny_newList ?_ (by rw [hal, ← hl]; exact hz))
  have hoL : (h'.push (seqObj "list" acc.toList.toArray 0)).get? h'.objs.size = some (seqObj "list" acc.toList.toArray 0) := Heap.get?_push_size _ rfl
  show wpAny _ _ _ _ _ { s with heap := h'.push (seqObj "list" acc.toList.toArray 0), toks := tk }
  refine wpAny_bind (wpAny_holding ?_)
  refine PySem.W.list_sort_data (enc := PyData.str) hoL hS (hS.mono fun v z ⟨t, e⟩ => ⟨[], by rw [e]; exact .str .., nofun⟩) (PySem.W.AllAlike.of fun _ _ => rfl) (PySem.W.Sortable.others fun b => ⟨(by intro z; cases z), (by intro xs z; cases z)⟩) (by rw [← hl]; exact hz) (fun b _ => by show X.A.units + 1 + 1 + 0 < cLine; omega) fun out hlo ho => ?_
  obtain ⟨e', he'⟩ := PyProof.Rows.sortedHeap_at (vs := acc.toList) (out := out.toArray) hoL
  have hp : (ks.mergeSort (PySem.W.dataLe false PyData.str)).Perm ks := List.mergeSort_perm _ _
  have hlen : ((ks.mergeSort (PySem.W.dataLe false PyData.str)).map V.str).length ≤ sizeLine := by
    rw [List.length_map, hp.length_eq, ← hl]
    exact hz
  refine wpAny_pure ⟨_, rfl, .ref h'.objs.size, upd H h'.objs.size (.lst ((ks.mergeSort (PySem.W.dataLe false PyData.str)).map V.str)), I1.laid (t' := tk) (fun b u e => ?_) (Nat.le_refl _)
    (show ObjOk X.prog X.w _ _ _ (.lst ((ks.mergeSort (PySem.W.dataLe false PyData.str)).map V.str)) from ⟨hlen, out, e', each_tx ho, he'⟩), rfl, q _ _ hp (I1.hok.fresh (Nat.le_refl _))⟩
  have hb : b < h'.objs.size := Heap.lt_size e
  rw [PyProof.Rows.sortedHeap_old (Nat.ne_of_lt hb) (by rw [size_push']; exact Nat.lt_succ_of_lt hb)]
  exact Heap.get?_push_of_some _ e
end OPSDS
/-! ### a step's result expands to the full expansion -/
def Ex (t u : Tree) : Prop := ∃ ps, lead t ps = some u
theorem Ex.refl (t : Tree) : Ex t t := ⟨[], rfl⟩
theorem lead_app : ∀ {ps qs : List (List Bool)} {t u v : Tree}, lead t ps = some u → lead u qs = some v → lead t (ps ++ qs) = some v
  | [], qs, t, u, v, h1, h2 => by
    cases h1
    exact h2
  | p :: ps, qs, t, u, v, h1, h2 => by
    have h1 : (t.rwt true p).bind (fun u => lead u ps) = some u := h1
    show (t.rwt true p).bind (fun u => lead u (ps ++ qs)) = some v
    cases e : t.rwt true p with
    | none => rw [e] at h1; cases h1
    | some w =>
      rw [e] at h1
      exact lead_app (ps := ps) h1 h2
theorem Ex.trans {t u v : Tree} (h1 : Ex t u) (h2 : Ex u v) : Ex t v := by
  obtain ⟨ps, e1⟩ := h1
  obtain ⟨qs, e2⟩ := h2
  exact ⟨ps ++ qs, lead_app e1 e2⟩
theorem Ex.one {t u : Tree} {p : List Bool} (h : t.rwt true p = some u) : Ex t u := ⟨[p], by
  show (t.rwt true p).bind (fun u => lead u []) = some u
  rw [h]
  rfl⟩
theorem lead_left (r : Tree) : ∀ {ps : List (List Bool)} {t u : Tree}, lead t ps = some u → lead (.N t r) (ps.map (false :: ·)) = some (.N u r)
  | [], t, u, h => by
    cases h
    rfl
  | p :: ps, t, u, h => by
    have h : (t.rwt true p).bind (fun u => lead u ps) = some u := h
    show ((Tree.N t r).rwt true (false :: p)).bind (fun u => lead u (ps.map (false :: ·))) = some (.N u r)
    rw [Tree.rwt_f]
    cases e : t.rwt true p with
    | none => rw [e] at h; cases h
    | some w =>
      rw [e] at h
      exact lead_left r (ps := ps) h
theorem lead_right (l : Tree) : ∀ {ps : List (List Bool)} {t u : Tree}, lead t ps = some u → lead (.N l t) (ps.map (true :: ·)) = some (.N l u)
  | [], t, u, h => by
    cases h
    rfl
  | p :: ps, t, u, h => by
    have h : (t.rwt true p).bind (fun u => lead u ps) = some u := h
    show ((Tree.N l t).rwt true (true :: p)).bind (fun u => lead u (ps.map (true :: ·))) = some (.N l u)
    rw [Tree.rwt_t]
    cases e : t.rwt true p with
    | none => rw [e] at h; cases h
    | some w =>
      rw [e] at h
      exact lead_right l (ps := ps) h
theorem Ex.both {a a' b b' : Tree} (h1 : Ex a a') (h2 : Ex b b') : Ex (.N a b) (.N a' b') := by
  obtain ⟨ps, e1⟩ := h1
  obtain ⟨qs, e2⟩ := h2
  exact Ex.trans ⟨_, lead_left b e1⟩ ⟨_, lead_right a' e2⟩
theorem Ex.root (a b c : Tree) : Ex (.N a (.N b c)) (.N (.N a b) (.N a c)) := Ex.one (p := []) (by rw [Tree.rwt_e]; rfl)
def Tree.plug : Tree → Tree → Tree
  | .L, a => a
  | .N l r, a => .N (l.plug a) (r.plug a)
theorem Tree.sub_plug : ∀ t a : Tree, t.sub a = t.plug (.N a .L)
  | .L, a => rfl
  | .N l r, a => by
    show Tree.N (l.sub a) (r.sub a) = Tree.N (l.plug (.N a .L)) (r.plug (.N a .L))
    rw [sub_plug l, sub_plug r]
theorem Tree.plug_L : ∀ t : Tree, t.plug .L = t
  | .L => rfl
  | .N l r => by
    show Tree.N (l.plug .L) (r.plug .L) = _
    rw [plug_L l, plug_L r]
theorem Tree.plug_plug (S T : Tree) : ∀ c : Tree, (c.plug S).plug T = c.plug (S.plug T)
  | .L => rfl
  | .N l r => by
    show Tree.N ((l.plug S).plug T) ((r.plug S).plug T) = Tree.N (l.plug (S.plug T)) (r.plug (S.plug T))
    rw [plug_plug S T l, plug_plug S T r]
theorem ex_plug (B T : Tree) : ∀ c : Tree, Ex (.N B (c.plug T)) (c.plug (.N B T))
  | .L => Ex.refl _
  | .N l r => (Ex.root B (l.plug T) (r.plug T)).trans ((ex_plug B T l).both (ex_plug B T r))
theorem ex_sub (a b : Tree) : Ex (.N a b) (b.sub a) := by
  have h := ex_plug a .L b
  rw [Tree.plug_L, ← Tree.sub_plug] at h
  exact h
theorem ex_fe : ∀ t : Tree, Ex t t.fe
  | .L => Ex.refl _
  | .N a b => ((ex_fe a).both (ex_fe b)).trans (ex_sub a.fe b.fe)
theorem ex_step : ∀ (t : Tree) (x : List Bool × Tree), x ∈ t.exs → Ex x.2 t.fe
  | .L, x, h => nomatch h
  | .N l r, x, h => by
    rw [Tree.exs_N] at h
    rcases List.mem_append.mp h with h | h
    · cases r with
      | L => cases h
      | N b c =>
        rw [List.mem_singleton.mp h]
        have h1 : Ex (.N (.N l b) (.N l c)) (.N (b.fe.sub l.fe) (c.fe.sub l.fe)) := (((ex_fe l).both (ex_fe b)).trans (ex_sub _ _)).both (((ex_fe l).both (ex_fe c)).trans (ex_sub _ _))
        have h2 := ex_plug (b.fe.sub l.fe) (.N l.fe .L) c.fe
        rw [← Tree.sub_plug] at h2
        have e : (Tree.N l (.N b c)).fe = c.fe.plug (.N (b.fe.sub l.fe) (.N l.fe .L)) := by
          show (c.fe.sub b.fe).sub l.fe = _
          rw [Tree.sub_plug, Tree.sub_plug c.fe, Tree.plug_plug, Tree.sub_plug b.fe]
          rfl
        rw [e]
        exact h1.trans h2
    rcases List.mem_append.mp h with h | h
    · obtain ⟨y, hy, rfl⟩ := List.mem_map.mp h
      exact ((ex_step l y hy).both (ex_fe r)).trans (ex_sub l.fe r.fe)
    · obtain ⟨y, hy, rfl⟩ := List.mem_map.mp h
      exact ((ex_fe l).both (ex_step r y hy)).trans (ex_sub l.fe r.fe)
theorem lead_rch {top : Nat} {t : Tree} : ∀ {ps : List (List Bool)} {u v : Tree}, Rch top t u → lead u ps = some v → v.sz ≤ top → Rch top t v
  | [], u, v, h, e, _ => by
    cases e
    exact h
  | p :: ps, u, v, h, e, hz => by
    have e : (u.rwt true p).bind (fun u => lead u ps) = some v := e
    cases e2 : u.rwt true p with
    | none => rw [e2] at e; cases e
    | some w =>
      rw [e2] at e
      have e : lead w ps = some v := e
      have := lead_len e
      exact lead_rch (.step h ((u.exs_iff p w).mpr e2) (by omega)) e hz
theorem Ex.rch {top : Nat} {t u : Tree} (h : Ex t u) (hz : u.sz ≤ top) : Rch top t u := by
  obtain ⟨ps, e⟩ := h
  have := lead_len e
  exact lead_rch (.base (by omega)) e hz
theorem Ex.sz {t u : Tree} (h : Ex t u) : t.sz ≤ u.sz := by
  obtain ⟨ps, e⟩ := h
  have := lead_len e
  omega
theorem any_tree (us : List Tree) (u : Tree) : ((us.map Tree.d).any fun z => PyData.eqv z u.d) = decide (u ∈ us) := by
  rw [List.any_map]
  by_cases h : u ∈ us
  · rw [decide_eq_true h]
    exact List.any_eq_true.mpr ⟨u, h, by show PyData.eqv u.d u.d = true; rw [Tree.eqvT]; exact Tree.eqb_refl u⟩
  · rw [decide_eq_false h]
    refine List.any_eq_false.mpr fun w hw z => ?_
    have z : PyData.eqv w.d u.d = true := z
    rw [Tree.eqvT] at z
    exact h (Tree.eqb_eq z ▸ hw)
theorem tabs_but {T : List (Addr × Str)} {H H' : Hp} {r : Addr} {xs : List V} (t : LamX.Tabs T H) (hr : H r = some (.lst xs)) (e : But r H H') : LamX.Tabs T H' := tabs_set t hr e
theorem trees_lay : ∀ us : List Tree, PyData.canLayAll0 (us.map Tree.d) = true
  | [] => rfl
  | u :: us => by
    show (PyData.canLay0 u.d && PyData.canLayAll0 (us.map Tree.d)) = true
    rw [u.d_lay, trees_lay us]
    rfl
theorem trees_dep {n : Nat} : ∀ us : List Tree, (∀ u ∈ us, u.dp ≤ n) → PyData.depthAll (us.map Tree.d) ≤ n + 1
  | [], _ => Nat.zero_le _
  | u :: us, h => by
    have h1 := trees_dep us fun w hw => h w (List.mem_cons_of_mem _ hw)
    have h2 := h u List.mem_cons_self
    have h3 := u.d_depth
    show max u.d.depth (PyData.depthAll (us.map Tree.d)) ≤ n + 1
    omega
theorem trees_shaped {us : List Tree} (h : ∀ u ∈ us, u.dp ≤ 40) : SeqAt.shaped (.list (us.map Tree.d)) = true := by
  have e1 : (PyData.list (us.map Tree.d)).canLay0 = PyData.canLayAll0 (us.map Tree.d) := rfl
  have e2 : (PyData.list (us.map Tree.d)).depth = PyData.depthAll (us.map Tree.d) + 1 := rfl
  have e3 := trees_dep us h
  unfold SeqAt.shaped
  rw [e1, trees_lay, decide_eq_true (by omega)]
  rfl
theorem rch_list {top : Nat} {t : Tree} {us : List Tree} (h : AllR top t us) (h2 : top ≤ 30) : SeqAt.shaped (.list (us.map Tree.d)) = true := trees_shaped fun u hu => by
  have h1 := ((h.2 u).mp hu).sz
  have h3 := u.dp_lt
  omega
theorem u65 {k : Nat} {A : Around} (r : Room k A) : A.units + 65 < cLine := by
  have := r.un
  omega
/-- a written tuple, by what it is -/
def tMkD (K : PySem.W.Frag) (d : PyData) : TE := fun σ H Q => ∀ v H', Same H H' → Dp K H' v d → Q v H'
theorem pe_mk {X : Cx} {e : Expr} {te : TE} {d : PyData} (h : PE X e te) (m : Mk X.K te d) : PE X e (tMkD X.K d) := ⟨fun pins s σ H Q I q => h.run pins s σ H Q I (m σ H Q q)⟩
/-! ### common expansions -/
def spPth (K : PySem.W.Frag) : Sp := fun vs H Q _ => ∃ (o : Addr) (n : Nat) (ts : List Tree) (top : Nat) (t u : Tree) (O : List Org), vs = [.ref o, .int n] ∧ OrgA K H o O ∧ OrgOk ts top t O ∧ (O.map (·.1)).Nodup ∧ O.length ≤ 500 ∧ n ∈ O.map (·.1) ∧ ts[n]? = some u ∧
  ∀ (l : Addr) (ps : List (List Bool)) (H' : Hp), Same H H' → H l = none → H' l = some (.lst (ptxs ps)) → lead t ps = some u → Q (.ref l) H'
def IsBest (top : Nat) (t1 t2 u : Tree) : Prop := Rch top t1 u ∧ Rch top t2 u ∧ ∀ w, Rch top t1 w → Rch top t2 w → u.szr ≤ w.szr
def spCmn (K : PySem.W.Frag) (CI CZ CL : Addr) (T : List (Addr × Str)) : Sp := fun vs H Q E => ∃ (v1 v2 : V) (d1 d2 : PyData) (top : Int), vs = [v1, v2, .int top] ∧ LamX.Tabs T H ∧ NT K H v1 d1 ∧ ndD d1 ≤ 1000 ∧ NT K H v2 d2 ∧ ndD d2 ≤ 1000 ∧ (okd d1 = false → ∀ H', Same H H' → E (.ref CI) none H') ∧
  ∀ t1 : Tree, d1 = t1.d → t1.sz ≤ 12 → t1.dp ≤ 6 → (¬ (1 ≤ top ∧ top ≤ 30) → ∀ H', Same H H' → E (.ref CZ) none H') ∧ (1 ≤ top → top ≤ 30 →
    (Many top.toNat t1 → ∀ (e : Addr) (H' : Hp), Same H H' → H e = none → H' e = some (.xd [("size", .int top)]) → E (.ref CL) (some e) H') ∧
    (¬ Many top.toNat t1 → okd d2 = false → ∀ H', Same H H' → E (.ref CI) none H') ∧
    ∀ t2 : Tree, d2 = t2.d → t2.sz ≤ 12 → t2.dp ≤ 6 → ¬ Many top.toNat t1 →
      (Many top.toNat t2 → ∀ (e : Addr) (H' : Hp), Same H H' → H e = none → H' e = some (.xd [("size", .int top)]) → E (.ref CL) (some e) H') ∧
      (¬ Many top.toNat t2 → ((∀ u, Rch top.toNat t1 u → ¬ Rch top.toNat t2 u) → ∀ H', LamX.ExtN H H' → LamX.Tabs T H' → Q .non H') ∧
        ∀ u, IsBest top.toNat t1 t2 u → ∀ (q l1 l2 : Addr) (vt : V) (ps1 ps2 : List (List Bool)) (H' : Hp), LamX.ExtN H H' → LamX.Tabs T H' → NewX H l1 → NewX H l2 → l1 ≠ l2 → SqT K H' q [vt, .ref l1, .ref l2] → TA K H' vt u →
          H' l1 = some (.lst (ptxs ps1)) → H' l2 = some (.lst (ptxs ps2)) → lead t1 ps1 = some u → lead t2 ps2 = some u → Q (.ref q) H'))
theorem Found.pre {ts ts' : List Tree} {top : Nat} {t : Tree} {O : List Org} (pr : Pre ts ts') (F : Found ts top t O) : Found ts' top t O :=
  ⟨F.nd, (show OrgOk ts top t O from F.ok).pre pr, fun u hu => by
    obtain ⟨n, g, p, h1, h2⟩ := F.all u hu
    exact ⟨n, g, p, h1, pr _ _ h2⟩⟩
theorem orgA_val {K : PySem.W.Frag} {H : Hp} : ∀ {kvs : List (Key × V)} {O : List Org}, Paired (fun (kv : Key × V) (e : Org) => kv.1 = Sum.inl (e.1 : Int) ∧ ∃ q, kv.2 = .ref q ∧ SqT K H q [orgV e.2.1, .str (ptx e.2.2)]) kvs O → (O.map (·.1)).Nodup → ∀ {n : Nat} {g : Option Nat} {p : List Bool}, (n, g, p) ∈ O → ∃ q, valV kvs (Sum.inl (n : Int)) = some (.ref q) ∧ SqT K H q [orgV g, .str (ptx p)]
  | _, _, .nil, _, _, _, _, h => nomatch h
  | (k, v) :: kvs, e :: O, .cons h hs, nd, n, g, p, hm => by
    obtain ⟨h1, q, h2, h3⟩ := h
    obtain ⟨n1, n2⟩ := List.nodup_cons.mp nd
    rcases List.mem_cons.mp hm with e1 | hm
    · subst e1
      exact ⟨q, by rw [valV_pos h1]; exact congrArg some h2, h3⟩
    · obtain ⟨q', a, b⟩ := orgA_val hs n2 hm
      refine ⟨q', ?_, b⟩
      rw [valV_neg]
      · exact a
      · intro z
        have z2 : ((e.1 : Nat) : Int) = (n : Int) := Sum.inl.inj (h1.symm.trans z)
        have z3 : e.1 = n := by omega
        exact n1 (List.mem_map.mpr ⟨_, hm, z3.symm⟩)
theorem lead_cons {t w u : Tree} {p : List Bool} {ps : List (List Bool)} (h : (p, w) ∈ t.exs) (h2 : lead w ps = some u) : lead t (p :: ps) = some u := by
  show (t.rwt true p).bind (fun u => lead u ps) = some u
  rw [(t.exs_iff p w).mp h]
  exact h2
/-! ### the law of common expansions -/
theorem szr_cons : ∀ t : Tree, ∃ k, t.szr = (t.sz : Int) :: k
  | .L => ⟨[], rfl⟩
  | .N l r => ⟨_, rfl⟩
theorem szr_lenK (t : Tree) : t.szr.length + 1 = 2 * t.sz := by
  rw [Tree.szr_len]
  exact tree_nodes t
def spKeyR (K : PySem.W.Frag) (n : Nat) : Sp := fun vs H Q _ => ∃ (v : V) (t : Tree), vs = [v] ∧ TA K H v t ∧ t.dp < n ∧ n ≤ 40 ∧ t.sz ≤ 30 ∧ ∀ (l : Addr) (H' : Hp), Same H H' → H l = none → H' l = some (.lst (t.szr.map V.int)) → Q (.ref l) H'
theorem spKeyR_no {K : PySem.W.Frag} : ∀ vs H Q E, ¬ spKeyR K 0 vs H Q E := fun vs H Q E h => by
  obtain ⟨v, t, _, _, h, _⟩ := h
  omega
def spRch (K : PySem.W.Frag) : Sp := fun vs H Q _ => ∃ (v g : V) (l : Addr) (ps : List (List Bool)) (t u : Tree), vs = [v, .ref l, g] ∧ TA K H v t ∧ TA K H g u ∧ H l = some (.lst (ptxs ps)) ∧ lead t ps = some u ∧ u.sz ≤ 12 ∧ ∀ H', Same H H' → Q (.bl true) H'
theorem rwt_sz {t w : Tree} {p : List Bool} (h : t.rwt true p = some w) : t.sz < w.sz := (t.exs_sz _ ((t.exs_iff p w).mpr h)).1
theorem lead_sz : ∀ {ps : List (List Bool)} {t u : Tree}, lead t ps = some u → t.sz ≤ u.sz
  | [], t, u, h => by cases h; exact Nat.le_refl _
  | p :: ps, t, u, h => by
    have h : (t.rwt true p).bind (fun w => lead w ps) = some u := h
    obtain ⟨w, h1, h2⟩ := Option.bind_eq_some_iff.mp h
    have := rwt_sz h1
    have := lead_sz h2
    omega
/-- what the law makes of a result -/
def ValR (K : PySem.W.Frag) (H : Hp) (t1 t2 : Tree) (us : List Tree) (rv : V) : Prop := (us = [] ∧ rv = .non) ∨ ∃ (q l1 l2 : Addr) (vt : V) (u : Tree) (ps1 ps2 : List (List Bool)), rv = .ref q ∧ SqT K H q [vt, .ref l1, .ref l2] ∧ TA K H vt u ∧
  H l1 = some (.lst (ptxs ps1)) ∧ H l2 = some (.lst (ptxs ps2)) ∧ lead t1 ps1 = some u ∧ lead t2 ps2 = some u ∧ u ∈ us ∧ ∀ w ∈ us, u.szr ≤ w.szr
def spVal (K : PySem.W.Frag) : Sp := fun vs H Q _ => ∃ (q c : Addr) (rv v1 v2 : V) (t1 t2 : Tree) (us : List Tree) (ws : List V), vs = [.ref q, v1, v2, .ref c] ∧ TA K H v1 t1 ∧ TA K H v2 t2 ∧ H c = some (.lst ws) ∧ DpAll K H ws (us.map Tree.d) ∧ (∀ u ∈ us, u.sz ≤ 12) ∧
  SqT K H q [.str ("value" : Str), rv] ∧ ValR K H t1 t2 us rv ∧ ∀ H', Same H H' → Q (.bl true) H'
theorem dpAll_tree {K : PySem.W.Frag} {H : Hp} : ∀ {ws : List V} {us : List Tree}, DpAll K H ws (us.map Tree.d) → ws.length = us.length ∧ ∀ (i : Nat) (y : V) (r : List Int), ws[i]? = some y → (us.map Tree.szr)[i]? = some r → ∃ u, us[i]? = some u ∧ TA K H y u ∧ r = u.szr
  | [], [], _ => ⟨rfl, fun i y r h => nomatch h⟩
  | w :: ws, u :: us, .cons h hs => by
    obtain ⟨h1, h2⟩ := dpAll_tree hs
    refine ⟨congrArg (· + 1) h1, fun i y r hy hr => ?_⟩
    cases i with
    | zero =>
      cases hy
      cases hr
      exact ⟨u, rfl, h, rfl⟩
    | succ i => exact h2 i y r hy hr
/-- the first of the sorted ones is the one with the least key -/
theorem byRow_head {K : PySem.W.Frag} {H : Hp} {ws : List V} {us : List Tree} {bs : List (V × List Int)} {u : Tree} (hd : DpAll K H ws (us.map Tree.d)) (hb : ByRow bs ws (us.map Tree.szr)) (hu : u ∈ us) (best : ∀ w ∈ us, u.szr ≤ w.szr) :
    ∃ y, (bs.map fun b => b.1)[0]? = some y ∧ TA K H y u := by
  obtain ⟨hp, hpw⟩ := hb
  obtain ⟨hl, hat⟩ := dpAll_tree hd
  obtain ⟨i, hi⟩ := List.mem_iff_getElem?.mp hu
  have hlt := (List.getElem?_eq_some_iff.mp hi).1
  have hwi : ws[i]? = some (ws[i]'(by omega)) := List.getElem?_eq_getElem _
  have hzi : (ws[i]'(by omega), u.szr) ∈ bs := hp.mem_iff.mpr (List.mem_iff_getElem?.mpr ⟨i, by rw [List.getElem?_zip_eq_some]; exact ⟨hwi, by rw [List.getElem?_map, hi]; rfl⟩⟩)
  cases bs with
  | nil => exact nomatch hzi
  | cons b bs =>
    refine ⟨b.1, rfl, ?_⟩
    have hb1 : b ∈ ws.zip (us.map Tree.szr) := hp.mem_iff.mp List.mem_cons_self
    obtain ⟨j, hj⟩ := List.mem_iff_getElem?.mp hb1
    rw [List.getElem?_zip_eq_some] at hj
    obtain ⟨u2, h1, h2, h3⟩ := hat j b.1 b.2 hj.1 hj.2
    have hle : b.2 ≤ u.szr := by
      rcases List.mem_cons.mp hzi with e | h
      · rw [← e]
        exact List.le_refl _
      · exact (List.pairwise_cons.mp hpw).1 _ h
    have hge := best u2 (List.mem_of_getElem? h1)
    rw [h3] at hle
    have e : u2.szr = u.szr := List.le_antisymm hle hge
    rw [← Tree.szr_eq e]
    exact h2
/-! a leaf has no step -/
theorem rch_leaf {top : Nat} {w : Tree} (h : Rch top .L w) : w = .L := by
  induction h with
  | base => rfl
  | step h hm _ ih =>
    rw [ih] at hm
    exact nomatch hm
theorem many_leaf {top : Nat} : ¬ Many top .L := fun ⟨us, h1, h2, h3⟩ => by
  have h := nodup_sub (bs := [Tree.L]) h1 fun x hx => by
    rw [rch_leaf (h3 x hx)]
    exact List.mem_singleton.mpr rfl
  have e : ([Tree.L] : List Tree).length = 1 := rfl
  omega
theorem lead_leaf : ∀ {ps : List (List Bool)} {u : Tree}, lead .L ps = some u → ps = []
  | [], _, _ => rfl
  | p :: ps, u, h => by
    have h : ((Tree.L).rwt true p).bind (fun w => lead w ps) = some u := h
    obtain ⟨w, h1, h2⟩ := Option.bind_eq_some_iff.mp h
    exact nomatch ((Tree.L).exs_iff p w).mpr h1
theorem ResOk.many {top : Nat} {t : Tree} {R : List ResE} (h : ResOk top t R) (h5 : 500 < R.length) : Many top t := ⟨trs1 R, h.nd, by rw [show (trs1 R).length = R.length from List.length_map _]; exact h5, fun u hu => by
  obtain ⟨e, he, rfl⟩ := List.mem_map.mp hu
  exact (h.rc e he).1⟩
theorem ResOk.few {top : Nat} {t : Tree} {R : List ResE} (h : ResOk top t R) (h5 : R.length ≤ 500) : ¬ Many top t := fun m => by
  have := many_not m (h.all h5)
  rw [show (trs1 R).length = R.length from List.length_map _] at this
  omega
theorem tree_wideV : ∀ t : Tree, wide t.d = true
  | .L => rfl
  | .N l r => by
    show (decide (2 ≤ 1000) && (wide l.d && (wide r.d && true))) = true
    rw [tree_wideV l, tree_wideV r]
    decide
theorem dp_row {K : PySem.W.Frag} {H : Hp} {l : Addr} {ns : List Int} (h : H l = some (.lst (ns.map V.int))) : Dp K H (.ref l) (rowI ns) := Dp.lst (SqL.here h) (dp_ints ns)
def spLawTs (K : PySem.W.Frag) (Ps : List Addr) : Sp := fun vs H Q _ => ∃ (a : Addr) (ns : List Int), vs = [.ref a] ∧ SqL K H a (ns.map V.int) ∧ (∀ P ∈ Ps, H P = some (.tbl #[])) ∧ ∀ H', Q (.bl true) H'
theorem kvR_val {K : PySem.W.Frag} {H : Hp} {o : Addr} : ∀ {kvs : List (Key × V)} {R : List ResE}, KvR K H o kvs R → ∀ {w : Tree}, w ∈ trs1 R → ∃ q vt lp, valV kvs (Sum.inr w.txt) = some (.ref q) ∧ SqT K H q [vt, .ref lp] ∧ TA K H vt w
  | _, _, .nil, _, h => nomatch h
  | (k, v) :: kvs, e :: R, .cons h hs, w, hm => by
    obtain ⟨h1, q, lp, vt, h2, h3, h4, h5, h6⟩ := h
    by_cases z : e.1 = w
    · subst z
      exact ⟨q, vt, lp, by rw [valV_pos h1]; exact congrArg some h2, h3, h4⟩
    · have hm : w ∈ trs1 R := by
        rcases List.mem_cons.mp hm with z2 | hm
        · exact absurd z2.symm z
        · exact hm
      obtain ⟨q', vt', lp', a, b, c⟩ := kvR_val hs hm
      refine ⟨q', vt', lp', ?_, b, c⟩
      rw [valV_neg]
      · exact a
      · intro y
        exact z (Tree.txt_inj (Sum.inr.inj (h1.symm.trans y)))
theorem tabs_lst {T : List (Addr × Str)} {H : Hp} {l : Addr} {xs ys : List V} (hl : H l = some (.lst xs)) (h : LamX.Tabs T H) : LamX.Tabs T (upd H l (.lst ys)) := tabs_set h hl (But.set (o := .lst ys))
def tlD (n : Int) : PyData := .tuple [.str (en 5), .int n]
theorem tlD_shaped (n : Int) : SeqAt.shaped (tlD n) = true := by
  have e1 : (tlD n).canLay0 = (PyData.canLay0 (.str (en 5)) && (PyData.canLay0 (.int n) && true)) := rfl
  have e2 : (tlD n).depth = max (PyData.depth (.str (en 5))) (max (PyData.depth (.int n)) 0) + 1 := rfl
  have e3 : PyData.depth (.str (en 5)) ≤ 1 := by first | exact Nat.le_refl _ | exact Nat.zero_le _
  have e4 : PyData.depth (.int n) ≤ 1 := by first | exact Nat.le_refl _ | exact Nat.zero_le _
  unfold SeqAt.shaped
  rw [e1, show PyData.canLay0 (.int n) = true from rfl, decide_eq_true (by omega)]
  decide +kernel
theorem dp_tlD {K : PySem.W.Frag} {H : Hp} {q : Addr} {n : Int} (h : SqT K H q [.str (en 5), .int n]) : Dp K H (.ref q) (tlD n) := Dp.tup h (.cons (.str _) (.cons (.int _) .nil))
/-- what the list of common terms holds, after i of the sorted texts -/
def ComA (K : PySem.W.Frag) (H0 G : Hp) (D : Addr) (R1 R2 : List ResE) (ys : List Str) (i : Nat) : Prop := Same H0 G ∧ ∃ (ws : List V) (us : List Tree), G D = some (.lst ws) ∧ DpAll K G ws (us.map Tree.d) ∧ us.length ≤ i ∧ ∀ u, u ∈ us ↔ u.txt ∈ ys.take i ∧ u ∈ trs1 R2
theorem ComA.snoc {K : PySem.W.Frag} {H0 G : Hp} {D : Addr} {R1 R2 : List ResE} {ys : List Str} {i : Nat} {w : Tree} {v : V} (h : ComA K H0 G D R1 R2 ys i) (n : H0 D = none) (hy : ys[i]? = some w.txt) (hw : w ∈ trs1 R2) (hv : TA K G v w) (hi : i ≤ 700000) :
    ∃ ws, G D = some (.lst ws) ∧ ws.length < sizeLine ∧ ComA K H0 (upd G D (.lst (ws ++ [v]))) D R1 R2 ys (i + 1) := by
  obtain ⟨sm, ws, us, hD, hA, hl, hm⟩ := h
  have hlw := (dpAll_tree hA).1
  have tp : Tp G (upd G D (.lst (ws ++ [v]))) := Tp.but hD (But.set (o := .lst (ws ++ [v])))
  refine ⟨ws, hD, mil (by omega), fun b o z => by rw [upd_ne (ne_of_none z n)]; exact sm _ _ z, ws ++ [v], us ++ [w], upd_same, ?_, by rw [List.length_append]; show us.length + 1 ≤ _; omega, fun u => ?_⟩
  · rw [List.map_append]
    exact dpAll_snoc (dpAll_tp tp hA) (ta_mono tp hv)
  · rw [List.mem_append, List.mem_singleton, hm, List.take_add_one, hy, List.mem_append]
    constructor
    · rintro (⟨a, b⟩ | rfl)
      · exact ⟨.inl a, b⟩
      · exact ⟨.inr (by simp), hw⟩
    · rintro ⟨a | a, b⟩
      · exact .inl ⟨a, b⟩
      · have a : u.txt = w.txt := by simpa using a
        exact .inr (Tree.txt_inj a)
theorem ComA.skip {K : PySem.W.Frag} {H0 G : Hp} {D : Addr} {R1 R2 : List ResE} {ys : List Str} {i : Nat} {w : Tree} (h : ComA K H0 G D R1 R2 ys i) (hy : ys[i]? = some w.txt) (hw : w ∉ trs1 R2) : ComA K H0 G D R1 R2 ys (i + 1) := by
  obtain ⟨sm, ws, us, hD, hA, hl, hm⟩ := h
  refine ⟨sm, ws, us, hD, hA, by omega, fun u => ?_⟩
  rw [hm, List.take_add_one, hy, List.mem_append]
  constructor
  · rintro ⟨a, b⟩
    exact ⟨.inl a, b⟩
  · rintro ⟨a | a, b⟩
    · exact ⟨a, b⟩
    · have a : u.txt = w.txt := by simpa using a
      exact absurd (Tree.txt_inj a ▸ b) hw
theorem lead_lenV : ∀ {ps : List (List Bool)} {t u : Tree}, lead t ps = some u → ps.length + t.sz ≤ u.sz
  | [], t, u, h => by cases h; exact Nat.le_of_eq (Nat.zero_add _)
  | p :: ps, t, u, h => by
    have h : (t.rwt true p).bind (fun w => lead w ps) = some u := h
    obtain ⟨w, h1, h2⟩ := Option.bind_eq_some_iff.mp h
    have := rwt_sz h1
    have := lead_lenV h2
    show ps.length + 1 + t.sz ≤ u.sz
    omega
/-! ### the law of the lists of expansions -/
open Classical in
noncomputable def ofRow (r : List Int) : Tree := if h : ∃ t : Tree, t.szr = r then h.choose else .L
theorem ofRow_szr (t : Tree) : ofRow t.szr = t := by
  unfold ofRow
  have h : ∃ u : Tree, u.szr = t.szr := ⟨t, rfl⟩
  rw [dif_pos h]
  exact Tree.szr_eq h.choose_spec
theorem dp_bs {K : PySem.W.Frag} {H : Hp} : ∀ {bs : List (V × List Int)}, (∀ b ∈ bs, TA K H b.1 (ofRow b.2)) → DpAll K H (bs.map fun b => b.1) ((bs.map fun b => ofRow b.2).map Tree.d)
  | [], _ => .nil
  | b :: bs, h => .cons (h b List.mem_cons_self) (dp_bs fun c hc => h c (List.mem_cons_of_mem _ hc))
theorem byRow_trees {K : PySem.W.Frag} {H : Hp} {ws : List V} {us : List Tree} {bs : List (V × List Int)} (hd : DpAll K H ws (us.map Tree.d)) (hb : ByRow bs ws (us.map Tree.szr)) :
    ∃ vs : List Tree, vs.Perm us ∧ vs.Pairwise (fun u v => u.szr ≤ v.szr) ∧ DpAll K H (bs.map fun b => b.1) (vs.map Tree.d) := by
  obtain ⟨h1, h2⟩ := hb
  obtain ⟨hl, hat⟩ := dpAll_tree hd
  have key : ∀ b ∈ bs, TA K H b.1 (ofRow b.2) ∧ b.2 = (ofRow b.2).szr := fun b hb => by
    obtain ⟨j, hj⟩ := List.mem_iff_getElem?.mp (h1.mem_iff.mp hb)
    rw [List.getElem?_zip_eq_some] at hj
    obtain ⟨u, a1, a2, a3⟩ := hat j b.1 b.2 hj.1 hj.2
    rw [a3, ofRow_szr]
    exact ⟨a2, rfl⟩
  refine ⟨bs.map fun b => ofRow b.2, ?_, ?_, dp_bs fun b hb => (key b hb).1⟩
  · have h3 := (h1.map fun b => b.2).map ofRow
    rw [show (ws.zip (us.map Tree.szr)).map (fun b => b.2) = us.map Tree.szr from List.map_snd_zip (by rw [List.length_map]; omega), List.map_map, List.map_map, show (ofRow ∘ Tree.szr) = id from funext ofRow_szr, List.map_id] at h3
    exact h3
  · rw [List.pairwise_map]
    refine h2.imp_of_mem fun {p q} hp hq z => ?_
    rw [(key p hp).2, (key q hq).2] at z
    exact z
/-- a sorted list of what is reached is the only one -/
theorem sorted_one {top : Nat} {t : Tree} {us vs : List Tree} (a : AllR top t us) (b : AllR top t vs) (h1 : us.Pairwise fun u v => u.szr ≤ v.szr) (h2 : vs.Pairwise fun u v => u.szr ≤ v.szr) : us = vs :=
  List.Perm.eq_of_pairwise (le := fun u v : Tree => u.szr ≤ v.szr) (fun x y _ _ h3 h4 => Tree.szr_eq (List.le_antisymm h3 h4)) h1 h2 ((List.perm_ext_iff_of_nodup a.1 b.1).mpr fun u => by rw [a.2 u, b.2 u])
theorem AllR.perm {top : Nat} {t : Tree} {us vs : List Tree} (a : AllR top t us) (p : vs.Perm us) : AllR top t vs := ⟨p.nodup_iff.mpr a.1, fun u => by rw [p.mem_iff, a.2 u]⟩
def ComB (K : PySem.W.Frag) (H0 G : Hp) (D : Addr) (ys : List Str) (i : Nat) : Prop := Same H0 G ∧ ∃ (ws : List V) (us : List Tree), G D = some (.lst ws) ∧ DpAll K G ws (us.map Tree.d) ∧ us.map Tree.txt = ys.take i
theorem ComB.snoc {K : PySem.W.Frag} {H0 G : Hp} {D : Addr} {ys : List Str} {i : Nat} {w : Tree} {v : V} (h : ComB K H0 G D ys i) (n : H0 D = none) (hy : ys[i]? = some w.txt) (hv : TA K G v w) (hi : i ≤ 700000) :
    ∃ ws, G D = some (.lst ws) ∧ ws.length < sizeLine ∧ ComB K H0 (upd G D (.lst (ws ++ [v]))) D ys (i + 1) := by
  obtain ⟨sm, ws, us, hD, hA, hm⟩ := h
  have hlw := (dpAll_tree hA).1
  have hlu := congrArg List.length hm
  rw [List.length_map, List.length_take] at hlu
  have tp : Tp G (upd G D (.lst (ws ++ [v]))) := Tp.but hD (But.set (o := .lst (ws ++ [v])))
  refine ⟨ws, hD, mil (by omega), fun b o z => by rw [upd_ne (ne_of_none z n)]; exact sm _ _ z, ws ++ [v], us ++ [w], upd_same, ?_, ?_⟩
  · rw [List.map_append]
    exact dpAll_snoc (dpAll_tp tp hA) (ta_mono tp hv)
  · rw [List.map_append, hm, List.take_add_one, hy]
    rfl
/-- the law's list of all that is reached -/
theorem comB_all {top : Nat} {t : Tree} {R : List ResE} {ys : List Str} {us : List Tree} (hk : ResOk top t R) (hp : ys.Perm ((trs1 R).map Tree.txt)) (h : us.map Tree.txt = ys) : us.Perm (trs1 R) := by
  subst h
  have inj : ∀ {vs : List Tree}, vs.Nodup → (vs.map Tree.txt).Nodup := fun {vs} h => List.pairwise_map.mpr (h.imp fun {a b} ne e => ne (Tree.txt_inj e))
  have n1 : (us.map Tree.txt).Nodup := hp.nodup_iff.mpr (inj hk.nd)
  have n2 : us.Nodup := (List.pairwise_map.mp n1).imp fun {a b} ne e => ne (congrArg Tree.txt e)
  refine (List.perm_ext_iff_of_nodup n2 hk.nd).mpr fun u => ⟨fun hu => ?_, fun hu => ?_⟩
  · obtain ⟨v, h1, h2⟩ := List.mem_map.mp (hp.mem_iff.mp (List.mem_map.mpr ⟨u, hu, rfl⟩))
    rw [← Tree.txt_inj h2]
    exact h1
  · obtain ⟨v, h1, h2⟩ := List.mem_map.mp (hp.mem_iff.mpr (List.mem_map.mpr ⟨u, hu, rfl⟩))
    rw [← Tree.txt_inj h2]
    exact h1
theorem rch_none {top : Nat} {t w : Tree} (h : Rch top t w) : t.sz ≤ top := by
  induction h with
  | base h => exact h
  | step _ _ _ ih => exact ih
theorem trees_wide {us : List Tree} (h : us.length ≤ 1000) : wide (.list (us.map Tree.d)) = true := by
  show (decide ((us.map Tree.d).length ≤ 1000) && wideAll (us.map Tree.d)) = true
  rw [decide_eq_true (by rw [List.length_map]; exact h)]
  induction us with
  | nil => rfl
  | cons u us ih =>
    have ih := ih (by have e : (u :: us).length = us.length + 1 := rfl; omega)
    show (true && (wide u.d && wideAll (us.map Tree.d))) = true
    rw [tree_wideV u]
    exact ih
def vlD (us : List Tree) : PyData := .tuple [.str ("value" : Str), .list (us.map Tree.d)]
theorem vlD_shaped {us : List Tree} (h : ∀ u ∈ us, u.dp ≤ 40) : SeqAt.shaped (vlD us) = true := by
  have e1 : (vlD us).canLay0 = (PyData.canLay0 (.str ("value" : Str)) && (PyData.canLay0 (.list (us.map Tree.d)) && true)) := rfl
  have e2 : (vlD us).depth = max (PyData.depth (.str ("value" : Str))) (max (PyData.list (us.map Tree.d)).depth 0) + 1 := rfl
  have e3 : PyData.depth (.str ("value" : Str)) ≤ 1 := by first | exact Nat.le_refl _ | exact Nat.zero_le _
  have e4 : (PyData.list (us.map Tree.d)).depth = PyData.depthAll (us.map Tree.d) + 1 := rfl
  have e5 := trees_dep us h
  have e6 : (PyData.list (us.map Tree.d)).canLay0 = PyData.canLayAll0 (us.map Tree.d) := rfl
  unfold SeqAt.shaped
  rw [e1, e6, trees_lay, decide_eq_true (by omega)]
  decide +kernel
theorem dp_vlD {K : PySem.W.Frag} {H : Hp} {q l : Addr} {ws : List V} {us : List Tree} (h : SqT K H q [.str ("value" : Str), .ref l]) (hl : H l = some (.lst ws)) (ha : DpAll K H ws (us.map Tree.d)) : Dp K H (.ref q) (vlD us) := Dp.tup h (.cons (.str _) (.cons (Dp.lst (SqL.here hl) ha) .nil))
theorem vlD_depth {us : List Tree} {n : Nat} (h : ∀ u ∈ us, u.dp ≤ n) : (vlD us).depth ≤ n + 3 := by
  have e2 : (vlD us).depth = max (PyData.depth (.str ("value" : Str))) (max (PyData.list (us.map Tree.d)).depth 0) + 1 := rfl
  have e3 : PyData.depth (.str ("value" : Str)) ≤ 1 := by first | exact Nat.le_refl _ | exact Nat.zero_le _
  have e4 : (PyData.list (us.map Tree.d)).depth = PyData.depthAll (us.map Tree.d) + 1 := rfl
  have e5 := trees_dep us h
  omega
theorem vlD_wide {us : List Tree} (h : us.length ≤ 1000) : wide (vlD us) = true := by
  show (decide (2 ≤ 1000) && (true && (wide (.list (us.map Tree.d)) && true))) = true
  rw [trees_wide h]
  rfl
theorem tlD_depth (n : Int) : (tlD n).depth < 20 := by
  have e2 : (tlD n).depth = max (PyData.depth (.str (en 5))) (max (PyData.depth (.int n)) 0) + 1 := rfl
  have e3 : PyData.depth (.str (en 5)) ≤ 1 := by first | exact Nat.le_refl _ | exact Nat.zero_le _
  have e4 : PyData.depth (.int n) ≤ 1 := by first | exact Nat.le_refl _ | exact Nat.zero_le _
  omega
theorem many_none {top : Nat} {t : Tree} (h : top < t.sz) : ¬ Many top t := fun ⟨us, _, h2, h3⟩ => by
  cases us with
  | nil => exact absurd h2 (by show ¬ 500 < 0; omega)
  | cons u us =>
    have := rch_none (h3 u List.mem_cons_self)
    omega
theorem leaf_all {top : Nat} {us : List Tree} (h : 1 ≤ top) (a : AllR top .L us) : us = [.L] := by
  have h1 : Tree.L ∈ us := (a.2 _).mpr (.base h)
  have h2 : ∀ u ∈ us, u = .L := fun u hu => rch_leaf ((a.2 u).mp hu)
  obtain ⟨n, _⟩ := a
  match us, n, h1, h2 with
  | [], _, h1, _ => exact nomatch h1
  | [u], _, _, h2 => rw [h2 u List.mem_cons_self]
  | u :: v :: us, n, _, h2 =>
    have e1 := h2 u List.mem_cons_self
    have e2 := h2 v (List.mem_cons_of_mem _ List.mem_cons_self)
    exact absurd (e1.trans e2.symm) ((List.pairwise_cons.mp n).1 v List.mem_cons_self)
def Exp14 (K : PySem.W.Frag) (G : Hp) (q : Addr) (n N : Nat) (t : Tree) : Prop := (500 < n ∧ SqT K G q [.str (en 5), .int (N : Int)]) ∨ (n ≤ 500 ∧ ∃ (D : Addr) (us : List Tree) (ws : List V), SqT K G q [.str ("value" : Str), .ref D] ∧ G D = some (.lst ws) ∧ DpAll K G ws (us.map Tree.d) ∧ AllR N t us ∧ us.Pairwise fun u v => u.szr ≤ v.szr)
section
variable {P : Program} {w : World} {K : PySem.W.Frag} {mg : Str → Option Value} {base : Heap} {f : Addr} {fd : FuncData}

abbrev s_PInit : Stmt := inClass (top 25) 0
abbrev s_PPair : Stmt := inClass (top 25) 1
abbrev s_PNum : Stmt := inClass (top 25) 2
theorem sc_PInit : FnScope ["self"] ["self"] (defScope s_PInit) := ⟨rfl, rfl, rfl, by decide +kernel, rfl, by decide +kernel, by decide +kernel⟩
theorem sc_PPair : FnScope ["self", "left", "right", "operands"] ["self", "left", "right"] (defScope s_PPair) := ⟨rfl, rfl, rfl, by decide +kernel, rfl, by decide +kernel, by decide +kernel⟩
theorem sc_PNum : FnScope ["self", "term"] ["self", "term"] (defScope s_PNum) := ⟨rfl, rfl, rfl, by decide +kernel, rfl, by decide +kernel, by decide +kernel⟩
theorem ok_PInit {C : Addr} (F : Fun K "__init__" "Pool.__init__" s_PInit f fd) (T : PoolT K mg C) : FnOk P w K mg base CX0 1 f fd ["self"] (spPInit K C) := by
  refine F.ok sc_PInit (fun vs H Q E h => ?_) (fun cdv A outer s H vs Q E hr h => ?_)
  · obtain ⟨_, _, _, rfl, _⟩ := h
    rfl
  obtain ⟨H0, x, dx, rfl, s0, x0, hx, q⟩ := h
  refine ⟨_, pss_cons (ps_fld (pv 0) pe_dnewT rfl) (pss_cons (ps_fld (pv 0) (pe_lst (pa_cons (pe_tup pa_nil) pa_nil)) rfl) (pss_cons (ps_fld (pv 0) (pe_lst (pa_cons pe_int pa_nil)) rfl) (pss_one (ps_fld (pv 0) (pe_lst (pa_cons (pe_tup pa_nil) pa_nil)) rfl)))), ?_⟩
  intro d hd
  have nxd : x ≠ d := ne_of_none hx hd
  refine ⟨_, rfl, x, C, dx, [], rfl, (by rw [upd_ne nxd]; exact hx), T.cl, T.n1, (by show 0 < 1000; decide), ?_⟩
  have d0 : H0 d = none := s0.free hd
  have k1 : ∀ q o, q ≠ x → H q = some o → (upd (upd H d (.dT [])) x (.ins C dx (putF "numbers" (.ref d) []))) q = some o := fun q o nq e => by
    rw [upd_ne nq, upd_ne (ne_of_none e hd)]
    exact e
  have hd1 : (upd (upd H d (.dT [])) x (.ins C dx (putF "numbers" (.ref d) []))) d = some (.dT []) := by rw [upd_ne nxd.symm, upd_same]
  have hx1 : (upd (upd H d (.dT [])) x (.ins C dx (putF "numbers" (.ref d) []))) x = some (.ins C dx (putF "numbers" (.ref d) [])) := upd_same
  generalize (upd (upd H d (.dT [])) x (.ins C dx (putF "numbers" (.ref d) []))) = H1 at *
  refine ⟨zero_le', fun q1 hq1 => ⟨one_le, fun a ha => ?_⟩⟩
  have sq1 := (Same.new hq1 (.tup [])).trans (Same.new ha (.lst [.ref q1]))
  have a0 : H0 a = none := by
    cases e : H0 a with
    | none => rfl
    | some o =>
      have := (Same.new hq1 (.tup [])) _ _ (k1 a o (fun z => by rw [z, x0] at e; cases e) (s0 _ _ e))
      rw [ha] at this
      cases this
  have hq1' : (upd (upd H1 q1 (.tup [])) a (.lst [.ref q1])) q1 = some (.tup []) := (Same.new ha _) _ _ upd_same
  have ha' : (upd (upd H1 q1 (.tup [])) a (.lst [.ref q1])) a = some (.lst [.ref q1]) := upd_same
  have k2 : ∀ q o, q ≠ x → H q = some o → (upd (upd H1 q1 (.tup [])) a (.lst [.ref q1])) q = some o := fun q o nq e => sq1 _ _ (k1 q o nq e)
  have hd2 := sq1 _ _ hd1
  have hx2 := sq1 _ _ hx1
  generalize (upd (upd H1 q1 (.tup [])) a (.lst [.ref q1])) = H2 at *
  refine ⟨_, rfl, x, C, dx, _, rfl, hx2, T.cl, T.n2, (by show 1 < 1000; decide), ?_⟩
  have nax : a ≠ x := ne_of ha' hx2 (by intro z; cases z)
  have ndx : d ≠ x := nxd.symm
  have nqx : q1 ≠ x := ne_of hq1' hx2 (by intro z; cases z)
  have k3 : ∀ q o, q ≠ x → H q = some o → (upd H2 x (.ins C dx (putF "pairs" (.ref a) (putF "numbers" (.ref d) [])))) q = some o := fun q o nq e => by rw [upd_ne nq]; exact k2 q o nq e
  have hd3 : (upd H2 x (.ins C dx (putF "pairs" (.ref a) (putF "numbers" (.ref d) [])))) d = some (.dT []) := by rw [upd_ne ndx]; exact hd2
  have ha3 : (upd H2 x (.ins C dx (putF "pairs" (.ref a) (putF "numbers" (.ref d) [])))) a = some (.lst [.ref q1]) := by rw [upd_ne nax]; exact ha'
  have hq3 : (upd H2 x (.ins C dx (putF "pairs" (.ref a) (putF "numbers" (.ref d) [])))) q1 = some (.tup []) := by rw [upd_ne nqx]; exact hq1'
  have hx3 : (upd H2 x (.ins C dx (putF "pairs" (.ref a) (putF "numbers" (.ref d) [])))) x = some (.ins C dx (putF "pairs" (.ref a) (putF "numbers" (.ref d) []))) := upd_same
  generalize (upd H2 x (.ins C dx (putF "pairs" (.ref a) (putF "numbers" (.ref d) [])))) = H3 at *
  refine ⟨one_le, fun b hb => ?_⟩
  have sb := Same.new hb (.lst [.int 1])
  have b0 : H0 b = none := by
    cases e : H0 b with
    | none => rfl
    | some o =>
      have := k3 b o (fun z => by rw [z, x0] at e; cases e) (s0 _ _ e)
      rw [hb] at this
      cases this
  have hb4 : (upd H3 b (.lst [.int 1])) b = some (.lst [.int 1]) := upd_same
  have nbx : b ≠ x := (ne_of_none hx3 hb).symm
  have nab : a ≠ b := ne_of_none ha3 hb
  have k4 : ∀ q o, q ≠ x → H q = some o → (upd H3 b (.lst [.int 1])) q = some o := fun q o nq e => sb _ _ (k3 q o nq e)
  have hd4 := sb _ _ hd3
  have ha4 := sb _ _ ha3
  have hq4 := sb _ _ hq3
  have hx4 := sb _ _ hx3
  generalize (upd H3 b (.lst [.int 1])) = H4 at *
  refine ⟨_, rfl, x, C, dx, _, rfl, hx4, T.cl, T.n3, (by show 2 < 1000; decide), ?_⟩
  have k5 : ∀ q o, q ≠ x → H q = some o → (upd H4 x (.ins C dx (putF "sizes" (.ref b) (putF "pairs" (.ref a) (putF "numbers" (.ref d) []))))) q = some o := fun q o nq e => by rw [upd_ne nq]; exact k4 q o nq e
  have hd5 : (upd H4 x (.ins C dx (putF "sizes" (.ref b) (putF "pairs" (.ref a) (putF "numbers" (.ref d) []))))) d = some (.dT []) := by rw [upd_ne ndx]; exact hd4
  have ha5 : (upd H4 x (.ins C dx (putF "sizes" (.ref b) (putF "pairs" (.ref a) (putF "numbers" (.ref d) []))))) a = some (.lst [.ref q1]) := by rw [upd_ne nax]; exact ha4
  have hq5 : (upd H4 x (.ins C dx (putF "sizes" (.ref b) (putF "pairs" (.ref a) (putF "numbers" (.ref d) []))))) q1 = some (.tup []) := by rw [upd_ne nqx]; exact hq4
  have hb5 : (upd H4 x (.ins C dx (putF "sizes" (.ref b) (putF "pairs" (.ref a) (putF "numbers" (.ref d) []))))) b = some (.lst [.int 1]) := by rw [upd_ne nbx]; exact hb4
  have hx5 : (upd H4 x (.ins C dx (putF "sizes" (.ref b) (putF "pairs" (.ref a) (putF "numbers" (.ref d) []))))) x = some (.ins C dx (putF "sizes" (.ref b) (putF "pairs" (.ref a) (putF "numbers" (.ref d) [])))) := upd_same
  generalize (upd H4 x (.ins C dx (putF "sizes" (.ref b) (putF "pairs" (.ref a) (putF "numbers" (.ref d) []))))) = H5 at *
  refine ⟨zero_le', fun q2 hq2 => ⟨one_le, fun c hc => ?_⟩⟩
  have sc := (Same.new hq2 (.tup [])).trans (Same.new hc (.lst [.ref q2]))
  have c0 : H0 c = none := by
    cases e : H0 c with
    | none => rfl
    | some o =>
      have := (Same.new hq2 (.tup [])) _ _ (k5 c o (fun z => by rw [z, x0] at e; cases e) (s0 _ _ e))
      rw [hc] at this
      cases this
  have hq26 : (upd (upd H5 q2 (.tup [])) c (.lst [.ref q2])) q2 = some (.tup []) := (Same.new hc _) _ _ upd_same
  have hc6 : (upd (upd H5 q2 (.tup [])) c (.lst [.ref q2])) c = some (.lst [.ref q2]) := upd_same
  have nac : a ≠ c := ne_of_none ((Same.new hq2 _) _ _ ha5) hc
  have nbc : b ≠ c := ne_of_none ((Same.new hq2 _) _ _ hb5) hc
  have hd6 := sc _ _ hd5
  have ha6 := sc _ _ ha5
  have hb6 := sc _ _ hb5
  have hq6 := sc _ _ hq5
  have hx6 := sc _ _ hx5
  have k6 : ∀ q o, q ≠ x → H q = some o → (upd (upd H5 q2 (.tup [])) c (.lst [.ref q2])) q = some o := fun q o nq e => sc _ _ (k5 q o nq e)
  generalize (upd (upd H5 q2 (.tup [])) c (.lst [.ref q2])) = H6 at *
  have ncx : c ≠ x := ne_of hc6 hx6 (by intro z; cases z)
  have nq2x : q2 ≠ x := ne_of hq26 hx6 (by intro z; cases z)
  refine ⟨_, rfl, x, C, dx, _, rfl, hx6, T.cl, T.n4, (by show 3 < 1000; decide), ?_⟩
  refine q d a b c _ ⟨dx, [], [.ref q1], [.ref q2], upd_same, ?_, ?_, ?_, ?_, nab, nac, nbc, ⟨rfl, rfl, (fun i l r h => by simp at h), List.nodup_nil⟩, ⟨rfl, ⟨q1, rfl, SqT.here ?_⟩, fun i l r h => by simp at h⟩, .cons (ta_leaf (SqT.here ?_)) .nil⟩ (fun q o e => ?_) d0 a0 b0 c0
  · rw [upd_ne ndx]
    exact hd6
  · rw [upd_ne nax]
    exact ha6
  · rw [upd_ne nbx]
    exact hb6
  · rw [upd_ne ncx]
    exact hc6
  · rw [upd_ne nqx]
    exact hq6
  · rw [upd_ne nq2x]
    exact hq26
  · have nq : q ≠ x := fun z => by
      rw [z, x0] at e
      cases e
    rw [upd_ne nq]
    exact k6 q o nq (s0 _ _ e)
theorem ok_PPair {C : Addr} (F : Fun K "pair" "Pool.pair" s_PPair f fd) (T : PoolT K mg C) (B : Blt mg) : FnOk P w K mg base CX0 1 f fd ["self", "left", "right"] (spPair K C) := by
  refine F.ok sc_PPair (fun vs H Q E h => ?_) (fun cdv A outer s H vs Q E hr h => ?_)
  · obtain ⟨_, _, _, _, _, _, _, _, _, _, rfl, _⟩ := h
    rfl
  obtain ⟨x, d, a, b, c, l, r, ts, tl, tr, rfl, hP, hlen, hl, hr', q⟩ := h
  refine ⟨_, pss_cons (ps_set (i := 3) sc_PPair.nd rfl (Or.inl rfl) (pe_tup (pa_cons (pv 1) (pa_cons (pv 2) pa_nil))))
    (pss_cons (ps_if (pt_cmp (pc_dnotin (hu_of hr) (pv 3) (pe_fld (pv 0) rfl)))
      (pss_cons (ps_dput (hu_of hr) (pe_fld (pv 0) rfl) (pv 3) (pe_callB call_len_seq (by rfl) B.len PySem.boot_len (pa_cons (pe_fld (pv 0) rfl) pa_nil)) rfl)
      (pss_cons (ps_expr (pe_bm PySem.F.plainAttrs_list PySem.F.slot_list_append PySem.F.type_list_append mt_append (pe_fld (pv 0) rfl) (pa_cons (pv 3) pa_nil)))
      (pss_cons (ps_expr (pe_bm PySem.F.plainAttrs_list PySem.F.slot_list_append PySem.F.type_list_append mt_append (pe_fld (pv 0) rfl) (pa_cons (pe_op op_add (pe_ix ix_list (pe_fld (pv 0) rfl) (pv 1) (fun _ _ => rfl)) (pe_ix ix_list (pe_fld (pv 0) rfl) (pv 2) (fun _ _ => rfl))) pa_nil)))
      (pss_one (ps_expr (pe_bm PySem.F.plainAttrs_list PySem.F.slot_list_append PySem.F.type_list_append mt_append (pe_fld (pv 0) rfl) (pa_cons (pe_tup (pa_cons (pe_ix ix_list (pe_fld (pv 0) rfl) (pv 1) (fun _ _ => rfl)) (pa_cons (pe_ix ix_list (pe_fld (pv 0) rfl) (pv 2) (fun _ _ => rfl)) pa_nil))) pa_nil))))))) pss_nil)
    (pss_one (ps_ret (pe_dget (hu_of hr) (pe_fld (pv 0) rfl) (pv 3) (fun _ _ => rfl))))), ?_⟩
  refine ⟨_, rfl, _, rfl, two_le, fun o ho => ?_⟩
  have so := Same.new ho (.tup [.int (l : Nat), .int (r : Nat)])
  have hP1 := hP.same so
  have ho1 : (upd H o (.tup [.int (l : Nat), .int (r : Nat)])) o = some (.tup ((key2 l r).map kV)) := upd_same
  generalize (upd H o (.tup [.int (l : Nat), .int (r : Nat)])) = H1 at *
  obtain ⟨dx, es, ps, cs, hx, hd, ha, hb, hc, nab, nac, nbc, gd, op, dd⟩ := id hP1
  refine ⟨_, rfl, _, rfl, x, C, dx, _, _, rfl, hx, T.cl, T.n1, pf_n _ _ _ _, d, _, rfl, DGet.t (k := key2 l r) hd ho1, _, rfl, ?_⟩
  cases e : valV (kv es 1) (key2 l r) with
  | some v =>
    obtain ⟨n, rfl, hn⟩ := kv_some es 1 l r v e
    have hg := DGet.t (k := key2 l r) hd ho1
    rw [e] at hg
    refine iteF ⟨_, rfl, x, C, dx, _, _, rfl, hx, T.cl, T.n1, pf_n _ _ _ _, _, rfl, d, _, rfl, hg, ?_⟩
    · obtain ⟨tl', tr', h1, h2, h3⟩ := gd.pair n l r hn
      have e1 : tl' = tl := Option.some.inj (h1.symm.trans hl)
      have e2 : tr' = tr := Option.some.inj (h2.symm.trans hr')
      subst e1 e2
      exact q (n + 1) ts H1 hP1 (Ex4.same so) (fun _ _ h => h) h3 (Nat.le_succ _)
  | none =>
    have hk := val_none e
    have lts := gd.len
    have lps := op.len
    have les : es.length ≤ 1000000 := by omega
    have eput : putK (kv es 1) (key2 l r) (.int ((ps.length : Nat) : Int)) = kv (es ++ [(l, r)]) 1 := by
      unfold putK
      rw [hk, if_neg Bool.false_ne_true, kv_snoc, lps, Nat.add_comm]
    have hput := DPut.t (v := V.int ((ps.length : Nat) : Int)) (k := key2 l r) hd ho1 (by rw [kv_len]; exact mil les)
    rw [eput] at hput
    have nda : d ≠ a := ne_of hd ha (by intro z; cases z)
    have ndb : d ≠ b := ne_of hd hb (by intro z; cases z)
    have ndc : d ≠ c := ne_of hd hc (by intro z; cases z)
    have ndx : x ≠ d := ne_of hx hd (by intro z; cases z)
    have nxa : x ≠ a := ne_of hx ha (by intro z; cases z)
    have nxb : x ≠ b := ne_of hx hb (by intro z; cases z)
    have nxc : x ≠ c := ne_of hx hc (by intro z; cases z)
    have nod : o ≠ d := ne_of ho1 hd (by intro z; cases z)
    have noa : o ≠ a := ne_of ho1 ha (by intro z; cases z)
    have nob : o ≠ b := ne_of ho1 hb (by intro z; cases z)
    have noc : o ≠ c := ne_of ho1 hc (by intro z; cases z)
    have il : l < ts.length := (List.getElem?_eq_some_iff.mp hl).1
    have ir : r < ts.length := (List.getElem?_eq_some_iff.mp hr').1
    have al : atI (ts.map fun t => V.int (t.sz : Nat)) (l : Int) = some (.int (tl.sz : Nat)) := atI_nat (by rw [List.getElem?_map, hl]; rfl)
    have ar : atI (ts.map fun t => V.int (t.sz : Nat)) (r : Int) = some (.int (tr.sz : Nat)) := atI_nat (by rw [List.getElem?_map, hr']; rfl)
    obtain ⟨vl, evl, dvl⟩ := dpAll_at dd l tl.d (by rw [List.getElem?_map, hl]; rfl)
    obtain ⟨vr, evr, dvr⟩ := dpAll_at dd r tr.d (by rw [List.getElem?_map, hr']; rfl)
    have lcs := dpAll_len dd
    rw [List.length_map] at lcs
    refine iteT ?_
    -- self.numbers[operands] = len(self.pairs)
    refine ⟨_, rfl, x, C, dx, _, _, rfl, hx, T.cl, T.n2, pf_p _ _ _ _, a, _, rfl, .inl (SqL.here ha), _, rfl, x, C, dx, _, _, rfl, hx, T.cl, T.n1, pf_n _ _ _ _, _, rfl, d, _, rfl, hput, ?_⟩
    have ex2 : Ex4 d a b c H1 (upd H1 d (.dT (kv (es ++ [(l, r)]) 1))) := fun q' o' e' n1 _ _ _ => by rw [upd_ne n1]; exact e'
    have hx2 : (upd H1 d (.dT (kv (es ++ [(l, r)]) 1))) x = some (.ins C dx (pf d a b c)) := by rw [upd_ne ndx]; exact hx
    have hd2 : (upd H1 d (.dT (kv (es ++ [(l, r)]) 1))) d = some (.dT (kv (es ++ [(l, r)]) 1)) := upd_same
    have ha2 : (upd H1 d (.dT (kv (es ++ [(l, r)]) 1))) a = some (.lst ps) := by rw [upd_ne nda.symm]; exact ha
    have hb2 : (upd H1 d (.dT (kv (es ++ [(l, r)]) 1))) b = some (.lst (ts.map fun t => V.int (t.sz : Nat))) := by rw [upd_ne ndb.symm]; exact hb
    have hc2 : (upd H1 d (.dT (kv (es ++ [(l, r)]) 1))) c = some (.lst cs) := by rw [upd_ne ndc.symm]; exact hc
    have ho2 : (upd H1 d (.dT (kv (es ++ [(l, r)]) 1))) o = some (.tup ((key2 l r).map kV)) := by rw [upd_ne nod]; exact ho1
    generalize (upd H1 d (.dT (kv (es ++ [(l, r)]) 1))) = H2 at *
    -- self.pairs.append(operands)
    refine ⟨_, rfl, x, C, dx, _, _, rfl, hx2, T.cl, T.n2, pf_p _ _ _ _, .inl ⟨rfl, _, SqL.here ha2⟩, _, rfl, a, _, _, rfl, rfl, ha2, mil (by omega), ?_⟩
    have ex3 : Ex4 d a b c H1 (upd H2 a (.lst (ps ++ [.ref o]))) := fun q' o' e' n1 n2 n3 n4 => by rw [upd_ne n2]; exact ex2 q' o' e' n1 n2 n3 n4
    have hx3 : (upd H2 a (.lst (ps ++ [.ref o]))) x = some (.ins C dx (pf d a b c)) := by rw [upd_ne nxa]; exact hx2
    have hd3 : (upd H2 a (.lst (ps ++ [.ref o]))) d = some (.dT (kv (es ++ [(l, r)]) 1)) := by rw [upd_ne nda]; exact hd2
    have ha3 : (upd H2 a (.lst (ps ++ [.ref o]))) a = some (.lst (ps ++ [.ref o])) := upd_same
    have hb3 : (upd H2 a (.lst (ps ++ [.ref o]))) b = some (.lst (ts.map fun t => V.int (t.sz : Nat))) := by rw [upd_ne nab.symm]; exact hb2
    have hc3 : (upd H2 a (.lst (ps ++ [.ref o]))) c = some (.lst cs) := by rw [upd_ne nac.symm]; exact hc2
    have ho3 : (upd H2 a (.lst (ps ++ [.ref o]))) o = some (.tup ((key2 l r).map kV)) := by rw [upd_ne noa]; exact ho2
    generalize (upd H2 a (.lst (ps ++ [.ref o]))) = H3 at *
    -- self.sizes.append(..)
    refine ⟨_, rfl, x, C, dx, _, _, rfl, hx3, T.cl, T.n3, pf_s _ _ _ _, .inl ⟨rfl, _, SqL.here hb3⟩, _, rfl, x, C, dx, _, _, rfl, hx3, T.cl, T.n3, pf_s _ _ _ _, _, rfl, b, _, _, _, rfl, rfl, SqL.here hb3, al, _, rfl, x, C, dx, _, _, rfl, hx3, T.cl, T.n3, pf_s _ _ _ _, _, rfl, b, _, _, _, rfl, rfl, SqL.here hb3, ar, _, _, rfl, rfl, b, _, _, rfl, rfl, hb3, mil (by rw [List.length_map]; omega), ?_⟩
    have esz : ((ts.map fun t => V.int (t.sz : Nat)) ++ [V.int ((tl.sz : Int) + (tr.sz : Int))]) = (ts ++ [Tree.N tl tr]).map fun t => V.int (t.sz : Nat) := by
      rw [List.map_append]
      show _ = _ ++ [V.int (((tl.sz + tr.sz : Nat) : Nat) : Int)]
      rw [Int.natCast_add]
    have ex4 : Ex4 d a b c H1 (upd H3 b (.lst ((ts.map fun t => V.int (t.sz : Nat)) ++ [V.int ((tl.sz : Int) + (tr.sz : Int))]))) := fun q' o' e' n1 n2 n3 n4 => by rw [upd_ne n3]; exact ex3 q' o' e' n1 n2 n3 n4
    have hx4 : (upd H3 b (.lst ((ts.map fun t => V.int (t.sz : Nat)) ++ [V.int ((tl.sz : Int) + (tr.sz : Int))]))) x = some (.ins C dx (pf d a b c)) := by rw [upd_ne nxb]; exact hx3
    have hd4 : (upd H3 b (.lst ((ts.map fun t => V.int (t.sz : Nat)) ++ [V.int ((tl.sz : Int) + (tr.sz : Int))]))) d = some (.dT (kv (es ++ [(l, r)]) 1)) := by rw [upd_ne ndb]; exact hd3
    have ha4 : (upd H3 b (.lst ((ts.map fun t => V.int (t.sz : Nat)) ++ [V.int ((tl.sz : Int) + (tr.sz : Int))]))) a = some (.lst (ps ++ [.ref o])) := by rw [upd_ne nab]; exact ha3
    have hb4 : (upd H3 b (.lst ((ts.map fun t => V.int (t.sz : Nat)) ++ [V.int ((tl.sz : Int) + (tr.sz : Int))]))) b = some (.lst ((ts ++ [Tree.N tl tr]).map fun t => V.int (t.sz : Nat))) := by rw [upd_same, esz]
    have hc4 : (upd H3 b (.lst ((ts.map fun t => V.int (t.sz : Nat)) ++ [V.int ((tl.sz : Int) + (tr.sz : Int))]))) c = some (.lst cs) := by rw [upd_ne nbc.symm]; exact hc3
    have ho4 : (upd H3 b (.lst ((ts.map fun t => V.int (t.sz : Nat)) ++ [V.int ((tl.sz : Int) + (tr.sz : Int))]))) o = some (.tup ((key2 l r).map kV)) := by rw [upd_ne nob]; exact ho3
    clear esz
    generalize (upd H3 b (.lst ((ts.map fun t => V.int (t.sz : Nat)) ++ [V.int ((tl.sz : Int) + (tr.sz : Int))]))) = H4 at *
    -- self.terms.append(..)
    refine ⟨_, rfl, x, C, dx, _, _, rfl, hx4, T.cl, T.n4, pf_t _ _ _ _, .inl ⟨rfl, _, SqL.here hc4⟩, _, rfl, x, C, dx, _, _, rfl, hx4, T.cl, T.n4, pf_t _ _ _ _, _, rfl, c, _, _, _, rfl, rfl, SqL.here hc4, atI_nat evl, _, rfl, x, C, dx, _, _, rfl, hx4, T.cl, T.n4, pf_t _ _ _ _, _, rfl, c, _, _, _, rfl, rfl, SqL.here hc4, atI_nat evr, two_le, fun q2 hq2 => ?_⟩
    have sq2 := Same.new hq2 (.tup [vl, vr])
    have nq2c : q2 ≠ c := (ne_of_none hc4 hq2).symm
    refine ⟨c, _, _, rfl, rfl, sq2 _ _ hc4, mil (by omega), ?_⟩
    have ex6 : Ex4 d a b c H1 (upd (upd H4 q2 (.tup [vl, vr])) c (.lst (cs ++ [.ref q2]))) := fun q' o' e' n1 n2 n3 n4 => by rw [upd_ne n4]; exact sq2 _ _ (ex4 q' o' e' n1 n2 n3 n4)
    have hx6 : (upd (upd H4 q2 (.tup [vl, vr])) c (.lst (cs ++ [.ref q2]))) x = some (.ins C dx (pf d a b c)) := by rw [upd_ne nxc]; exact sq2 _ _ hx4
    have hd6 : (upd (upd H4 q2 (.tup [vl, vr])) c (.lst (cs ++ [.ref q2]))) d = some (.dT (kv (es ++ [(l, r)]) 1)) := by rw [upd_ne ndc]; exact sq2 _ _ hd4
    have ha6 : (upd (upd H4 q2 (.tup [vl, vr])) c (.lst (cs ++ [.ref q2]))) a = some (.lst (ps ++ [.ref o])) := by rw [upd_ne nac]; exact sq2 _ _ ha4
    have hb6 : (upd (upd H4 q2 (.tup [vl, vr])) c (.lst (cs ++ [.ref q2]))) b = some (.lst ((ts ++ [Tree.N tl tr]).map fun t => V.int (t.sz : Nat))) := by rw [upd_ne nbc]; exact sq2 _ _ hb4
    have hc6 : (upd (upd H4 q2 (.tup [vl, vr])) c (.lst (cs ++ [.ref q2]))) c = some (.lst (cs ++ [.ref q2])) := upd_same
    have ho6 : (upd (upd H4 q2 (.tup [vl, vr])) c (.lst (cs ++ [.ref q2]))) o = some (.tup ((key2 l r).map kV)) := by rw [upd_ne noc]; exact sq2 _ _ ho4
    have hq6 : (upd (upd H4 q2 (.tup [vl, vr])) c (.lst (cs ++ [.ref q2]))) q2 = some (.tup [vl, vr]) := by rw [upd_ne nq2c, upd_same]
    generalize (upd (upd H4 q2 (.tup [vl, vr])) c (.lst (cs ++ [.ref q2]))) = H6 at *
    have tp := hP1.tp ex6
    have hg := DGet.t (k := key2 l r) hd6 ho6
    have ev : valV (kv (es ++ [(l, r)]) 1) (key2 l r) = some (.int ((es.length + 1 : Nat) : Int)) := by
      rw [kv_snoc, Nat.add_comm]
      exact val_snoc e
    rw [ev] at hg
    refine ⟨_, rfl, x, C, dx, _, _, rfl, hx6, T.cl, T.n1, pf_n _ _ _ _, _, rfl, d, _, rfl, hg, ?_⟩
    have pre : Pre ts (ts ++ [Tree.N tl tr]) := fun i t h => by
      have hi := (List.getElem?_eq_some_iff.mp h).1
      rw [List.getElem?_append_left hi]
      exact h
    have last : (ts ++ [Tree.N tl tr])[es.length + 1]? = some (.N tl tr) := by
      rw [← lts, List.getElem?_append_right (Nat.le_refl _), Nat.sub_self]
      rfl
    refine q (es.length + 1) (ts ++ [Tree.N tl tr]) H6 ⟨dx, es ++ [(l, r)], ps ++ [.ref o], cs ++ [.ref q2], hx6, hd6, ha6, hb6, hc6, nab, nac, nbc, ⟨?_, pre _ _ gd.zero, fun i l' r' h => ?_, nodup_snoc gd.nd (kv_none es 1 l r e)⟩, ⟨?_, ?_, fun i l' r' h => ?_⟩, ?_⟩ ((Ex4.same so).trans ex6) pre last (by rw [List.length_append]; exact Nat.le_refl _)
    · rw [List.length_append, List.length_append, lts]
      rfl
    · by_cases hi : i < es.length
      · rw [List.getElem?_append_left hi] at h
        obtain ⟨t1, t2, h1, h2, h3⟩ := gd.pair i l' r' h
        exact ⟨t1, t2, pre _ _ h1, pre _ _ h2, pre _ _ h3⟩
      · have ei : i = es.length := by
          have := (List.getElem?_eq_some_iff.mp h).1
          rw [List.length_append, List.length_singleton] at this
          omega
        subst ei
        rw [List.getElem?_append_right (Nat.le_refl _), Nat.sub_self] at h
        cases h
        exact ⟨tl, tr, pre _ _ hl, pre _ _ hr', last⟩
    · rw [List.length_append, List.length_append, lps]
      rfl
    · obtain ⟨q0, h1, h2⟩ := op.zero
      exact ⟨q0, by rw [List.getElem?_append_left (by omega)]; exact h1, tp.sqT h2⟩
    · by_cases hi : i < es.length
      · rw [List.getElem?_append_left hi] at h
        obtain ⟨q0, h1, h2⟩ := op.pair i l' r' h
        exact ⟨q0, by rw [List.getElem?_append_left (by omega)]; exact h1, tp.sqT h2⟩
      · have ei : i = es.length := by
          have := (List.getElem?_eq_some_iff.mp h).1
          rw [List.length_append, List.length_singleton] at this
          omega
        subst ei
        rw [List.getElem?_append_right (Nat.le_refl _), Nat.sub_self] at h
        cases h
        exact ⟨o, by rw [← lps, List.getElem?_append_right (Nat.le_refl _), Nat.sub_self]; rfl, SqT.here ho6⟩
    · rw [List.map_append]
      exact dpAll_snoc (dpAll_tp tp dd) (ta_node (SqT.here hq6) (ta_mono tp dvl) (ta_mono tp dvr))
theorem ok_PNum {C fP : Addr} {fdP : FuncData} (F : Fun K "number_of" "Pool.number_of" s_PNum f fd) (bN : Binds K fd ["self", "term"] []) (mN : Meth K C "number_of" f) (T : PoolT K mg C) (B : Blt mg) (GEN : ∃ t, mg "GENERATOR" = some (.int 0 t))
    (FP : Fun K "pair" "Pool.pair" s_PPair fP fdP) (bP : Binds K fdP ["self", "left", "right"] []) (mP : Meth K C "pair" fP) : ∀ n : Nat, FnOk P w K mg base CX0 (n + 1) f fd ["self", "term"] (spNum K C n)
  | 0 => fn_none fun vs H Q E h => by
    obtain ⟨_, _, _, _, _, _, _, _, _, _, _, h, _⟩ := h
    omega
  | n + 1 => by
    have GN := ok_PNum F bN mN T B GEN FP bP mP n
    have GP : FnOk P w K mg base CX0 1 fP fdP ["self", "left", "right"] (spPair K C) := ok_PPair FP T B
    obtain ⟨tg, C_GENERATOR⟩ := GEN
    refine F.ok sc_PNum (fun vs H Q E h => ?_) (fun cdv A outer s H vs Q E hr h => ?_)
    · obtain ⟨_, _, _, _, _, _, _, _, rfl, _⟩ := h
      rfl
    obtain ⟨x, d, a, b, c, v, t, ts, rfl, hP, ht, hd, hn, hlen, q⟩ := h
    refine ⟨_, pss_cons (ps_if (pt_cmpR (op_eqD hr.units) (pv 1) (pe_tup pa_nil) (nomark _)) (pss_one (ps_ret (pe_glob (v := .int 0) rfl C_GENERATOR ⟨_, rfl⟩))) pss_nil)
      (pss_one (ps_ret (pe_meth (pv 0) T.cl mP GP (hr.mono (by omega)) bP .nil pass0 (pa_cons (pe_meth (pv 0) T.cl mN GN hr bN .nil pass0 (pa_cons (pe_ix ix_tup (pv 1) pe_int (fun _ _ => rfl)) pa_nil)) (pa_cons (pe_meth (pv 0) T.cl mN GN hr bN .nil pass0 (pa_cons (pe_ix ix_tup (pv 1) pe_int (fun _ _ => rfl)) pa_nil)) pa_nil))))), ?_⟩
    refine ⟨_, rfl, zero_le', fun p hp => ⟨t.d, .tuple [], ta_mono (Tp.same (Same.new hp _)) ht, Dp.tup (SqT.here upd_same) .nil, Tree.shaped (by omega), shapedE, _, rfl, ite_eq (Tree.eqvL t) ?_⟩⟩
    have s1 := Same.new hp (.tup [])
    have hP1 := hP.same s1
    have n1 : ∀ {z : Str}, z = "number_of" ∨ z = "pair" → (pf d a b c).lookup z = none := fun {z} hz => by
      rcases hz with rfl | rfl
      · exact pf_no _ _ _ _ (by decide +kernel) (by decide +kernel) (by decide +kernel) (by decide +kernel)
      · exact pf_no _ _ _ _ (by decide +kernel) (by decide +kernel) (by decide +kernel) (by decide +kernel)
    cases t with
    | L =>
      obtain ⟨dx, es, ps, cs, hx, r1, r2, r3, r4, r5, r6, r7, gd, r8⟩ := id hP1
      exact iteT (q 0 ts _ hP1 (Ex4.same s1) (fun _ _ h => h) gd.zero (Nat.le_add_right _ _))
    | N l r =>
      have hd : max l.dp r.dp + 1 < n + 1 := hd
      have hlen : ts.length + (l.nodes + r.nodes + 1) ≤ 1000000 := hlen
      obtain ⟨qq, x1, x2, rfl, hS, hL, hR⟩ := ta_invN (ta_mono (Tp.same s1) ht)
      obtain ⟨dx, es, ps, cs, hx, _⟩ := id hP1
      refine iteF ⟨_, rfl, x, dx, _, rfl, hx, n1 (.inr rfl), _, rfl, x, dx, _, rfl, hx, n1 (.inl rfl), _, rfl, qq, _, 0, _, rfl, rfl, hS, rfl, x, d, a, b, c, x1, l, ts, rfl, hP1, hL, by omega, by omega, by omega, fun m1 ts1 H2 P2 e2 pr2 hm1 ln1 => ?_⟩
      have tp2 := hP1.tp e2
      obtain ⟨dx2, es2, ps2, cs2, hx2, _⟩ := id P2
      refine ⟨_, rfl, x, dx2, _, rfl, hx2, n1 (.inl rfl), _, rfl, qq, _, 1, _, rfl, rfl, tp2.sqT hS, rfl, x, d, a, b, c, x2, r, ts1, rfl, P2, ta_mono tp2 hR, by omega, by omega, by omega, fun m2 ts2 H3 P3 e3 pr3 hm2 ln2 => ?_⟩
      refine ⟨x, d, a, b, c, m1, m2, ts2, l, r, rfl, P3, by omega, pr3 _ _ hm1, hm2, fun m ts3 H4 P4 e4 pr4 hm ln3 => ?_⟩
      exact q m ts3 H4 P4 ((((Ex4.same s1).trans e2).trans e3).trans e4) ((pr2.trans pr3).trans pr4) hm (by show ts3.length ≤ ts.length + (l.nodes + r.nodes + 1); omega)
abbrev s_TLInit : Stmt := inClass (top 4) 0
theorem sc_TLInit : SupScope ["self", "size"] (defScope s_TLInit) := ⟨rfl, rfl, rfl, by decide +kernel, by decide +kernel, by decide +kernel, by decide +kernel, by decide +kernel, fun x h => by
  have z : ∀ y ∈ (defScope s_TLInit).names, y.2 = .free → y.1 = ("__class__" : Str) := by decide +kernel
  exact z _ (PySem.mem_of_lookup h) rfl⟩
theorem ok_TLInit {C : Addr} (F : FunS P K mg "TooLarge" "TooLarge.__init__" s_TLInit ["self", "size"] C f fd) (hno : PySem.W.findIn K (.ref C) "size" = some none) : FnOk P w K mg base CX0 1 f fd ["self", "size"] (spS C "size" okInt) := by
  obtain ⟨oc, od, dV, kV, doc, pm, an, cda, ct, osl, cc, cl, cld, csl, ccl, cdd, cvs, ccs, file, tf, rfl, lk, hcd, hcode, hvs, hfile, hcell⟩ := F.ex
  refine ok_sup (sf := "self") (xn := "size") (fld := "size") lk hcd sc_TLInit rfl rfl hcode hvs hfile F.top hcell F.T F.mro F.sup F.any F.ini F.val hno (fun A outer s H E a v hv => ?_)
  obtain ⟨n, rfl, h1, h2⟩ := hv
  refine ⟨_, pa_cons pe_str pa_nil, ?_⟩
  refine ⟨?_, rfl⟩
  show 1 ≤ 1000
  omega
abbrev s__law_draws : Stmt := top 43
theorem sc__law_draws : FnScope ["_law_script", "_law_salt", "_law_cell"] ["_law_script"] (defScope s__law_draws) := ⟨rfl, rfl, rfl, by decide +kernel, rfl, by decide +kernel, by decide +kernel⟩
theorem ok__law_draws (d : D K mg "_law_draws" s__law_draws ["_law_script"] f fd) (B : Blt mg) : FnOk P w K mg base CX0 1 f fd ["_law_script"] (spDraws K) := by
  refine d.F.ok sc__law_draws (fun vs H Q E h => ?_) (fun cdv A outer s H vs Q E hr h => ?_)
  · obtain ⟨a, ns, rfl, _⟩ := h
    rfl
  obtain ⟨a, ns, rfl, hS, q⟩ := h
  refine ⟨_, (pss_cons (ps_set (i := 1) sc__law_draws.nd rfl (Or.inl rfl) pe_int)
 (pss_cons (ps_for PassesOwn.never rfl (pi_list (pe_slice sl_list (pv 0) po_none (po_some pe_int))) (pg_name (i := 2) sc__law_draws.nd rfl (Or.inl rfl))
  (pss_one (ps_set (i := 1) sc__law_draws.nd rfl (Or.inl rfl) (pe_op op_mod (pe_op op_add (pe_op op_add (pe_op op_mul (pv 1) pe_int) (pe_op op_mod (pv 2) pe_int)) pe_int) pe_int))))
 (pss_one (ps_ret (pe_lst (pa_cons (pe_callTy call_list_of (by rfl) B.list (by decide +kernel) (pa_cons (pe_slice sl_list (pv 0) po_none (po_some pe_int)) pa_nil)) (pa_cons pe_int (pa_cons pe_int (pa_cons (pv 1) pa_nil))))))))), ?_⟩
  refine ⟨_, rfl, 63, rfl, a, _, rfl, hS, fun p hp => ?_⟩
  rw [cut63]
  have s1 : Same H (upd H p (.lst ((ns.take 63).map V.int))) := Same.new hp _
  refine ⟨p, rfl, ⟨_, SqL.here upd_same⟩, for_list (K := K) (a := p) (xs := (ns.take 63).map V.int) (fun i σ H' => ∃ (s : Int) (v : Option V), σ = [some (.ref a), some (.int s), v] ∧ 0 ≤ s ∧ s < 2147483647 ∧ H' = upd H p (.lst ((ns.take 63).map V.int)))
    ⟨9471, none, rfl, by decide, by decide, rfl⟩ (fun i σ H' _ ⟨_, _, _, _, _, e⟩ => by rw [e]; exact SqL.here upd_same) ?_ ?_⟩
  · rintro i x σ H' hi ⟨s, v, rfl, h0, h1, rfl⟩
    obtain ⟨u, rfl⟩ : ∃ u, x = V.int u := by
      rw [List.getElem?_map] at hi
      cases e : (ns.take 63)[i]? with
      | none =>
        rw [e] at hi
        cases hi
      | some u =>
        rw [e] at hi
        exact ⟨u, (Option.some.inj hi).symm⟩
    refine ⟨_, rfl, _, _, rfl, rfl, .inl ⟨by omega, by omega⟩, _, rfl, _, _, rfl, rfl, (by show (0 : Int) < 2147483587; decide), _, _, rfl, rfl, _, _, rfl, rfl, _, _, rfl, rfl, (by show (0 : Int) < 2147483647; decide), ?_⟩
    exact ⟨_, _, rfl, Int.emod_nonneg _ (by decide), Int.emod_lt_of_pos _ (by decide), rfl⟩
  · rintro σ H' ⟨s, v, rfl, h0, h1, rfl⟩
    refine ⟨_, rfl, 63, rfl, a, _, rfl, s1.seq hS, fun p2 hp2 => ?_⟩
    rw [cut63]
    have s2 := s1.trans (Same.new hp2 (.lst ((ns.take 63).map V.int)))
    refine ⟨p2, _, rfl, .inl (SqL.here upd_same), fun c hc => ?_⟩
    have s3 := s2.trans (Same.new hc (.lst ((ns.take 63).map V.int)))
    refine ⟨_, rfl, four_le, fun r hr' => ?_⟩
    have nrc : c ≠ r := fun e => by
      rw [← e, upd_same] at hr'
      cases hr'
    refine q r _ (s3.trans (Same.new hr' _)) (s3.free hr') ⟨c, ns.take 63, 0, 0, s, upd_same, ?_, nrc, by decide, by decide, h0, h1⟩
    rw [upd_ne nrc, upd_same]

abbrev s__law_draw : Stmt := top 44
theorem sc__law_draw : FnScope ["_law_rng", "_law_amount", "_law_cell", "_law_got", "_law_seed"] ["_law_rng", "_law_amount"] (defScope s__law_draw) := ⟨rfl, rfl, rfl, by decide +kernel, rfl, by decide +kernel, by decide +kernel⟩
theorem ok__law_drawC (d : D K mg "_law_draw" s__law_draw ["_law_rng", "_law_amount"] f fd) (B : Blt mg) : FnOk P w K mg base CX0 1 f fd ["_law_rng", "_law_amount"] spDrawC := by
  refine d.F.ok sc__law_draw (fun vs H Q E h => ?_) (fun cdv A outer s H vs Q E hr h => ?_)
  · obtain ⟨_, _, _, rfl, _⟩ := h
    rfl
  obtain ⟨r, n, c, rfl, ⟨ns, i, b, s, hR, hC, ncr, hi, hb, h0, h1⟩, hn, hn2, q⟩ := h
  refine ⟨_, (C8.pss_cut (ps_if (PW.pt (pw_and (pt_cmpR op_eq (pe_ix ix_list (pv 0) pe_int (fun _ _ => rfl)) pe_int (nomark _)) (pw_and1 (pt_cmpR op_lt (pe_ix ix_list (pv 0) pe_int (fun _ _ => rfl)) (pe_callB call_len_seq (by rfl) B.len PySem.boot_len (pa_cons (pe_ix ix_list (pv 0) pe_int (fun _ _ => rfl)) pa_nil)) (nomark _))))) (pss_cons (ps_set (i := 2) sc__law_draw.nd rfl (Or.inl rfl) (pe_ix ix_list (pe_ix ix_list (pv 0) pe_int (fun _ _ => rfl)) (pe_ix ix_list (pv 0) pe_int (fun _ _ => rfl)) (fun _ _ => rfl)))
 (pss_cons (ps_asg (pe_op op_add (pe_ix ix_list (pv 0) pe_int (fun _ _ => rfl)) pe_int) (pg_sub (pv 0) pe_int set_list))
 (pss_one (ps_if (pt_cmpR op_ge (pv 2) (pe_op op_pow pe_int pe_int) (nomark _)) (pss_one (ps_asg (pv 2) (pg_sub (pv 0) pe_int set_list))) (pss_one (ps_asg (pe_op op_mod (pe_op op_add (pe_op op_add (pe_op op_mul (pe_ix ix_list (pv 0) pe_int (fun _ _ => rfl)) pe_int) (pe_op op_mul (pe_op op_mod (pv 2) pe_int) pe_int)) pe_int) pe_int) (pg_sub (pv 0) pe_int set_list))))))) pss_nil)
 (pss_cons (ps_if (pt_cmpR op_gt (pe_ix ix_list (pv 0) pe_int (fun _ _ => rfl)) pe_int (nomark _)) (pss_cons (ps_set (i := 3) sc__law_draw.nd rfl (Or.inl rfl) (pe_op op_mod (pe_ix ix_list (pv 0) pe_int (fun _ _ => rfl)) (pv 1)))
 (pss_cons (ps_asg (pe_op op_fdiv (pe_ix ix_list (pv 0) pe_int (fun _ _ => rfl)) (pv 1)) (pg_sub (pv 0) pe_int set_list))
 (pss_one (ps_ret (pv 3))))) pss_nil)
 (pss_cons (ps_set (i := 4) sc__law_draw.nd rfl (Or.inl rfl) (pe_ix ix_list (pv 0) pe_int (fun _ _ => rfl)))
 (pss_cons (ps_asg (pe_op op_mod (pe_op op_add (pe_op op_add (pe_op op_mul (pv 4) pe_int) (pe_op op_mul (pe_op op_fdiv (pv 4) pe_int) pe_int)) pe_int) pe_int) (pg_sub (pv 0) pe_int set_list))
 (pss_one (ps_ret (pe_op op_mod (pe_op op_add (pe_op op_fdiv (pe_ix ix_list (pv 0) pe_int (fun _ _ => rfl)) pe_int) (pe_op op_mul (pe_op op_mod (pe_ix ix_list (pv 0) pe_int (fun _ _ => rfl)) pe_int) pe_int)) (pv 1)))))))), ?_⟩
  refine ⟨fun σ H1 => ∃ (i b s : Int) (cell : Option V), σ = [some (.ref r), some (.int n), cell, none, none] ∧ But r H H1 ∧ H1 r = some (.lst [.ref c, .int i, .int b, .int s]) ∧ H1 c = some (.lst (ns.map V.int)) ∧ 0 ≤ i ∧ 0 ≤ b ∧ 0 ≤ s ∧ s < 2147483647, ?_, ?_⟩
  · refine ⟨_, rfl, r, _, 2, _, rfl, rfl, SqL.here hR, rfl, rfl, _, rfl, ?_⟩
    refine ite2 (fun c1 => ?_) (fun c1 => ?_)
    · refine ⟨_, rfl, r, _, 1, _, rfl, rfl, SqL.here hR, rfl, _, rfl, r, _, 0, _, rfl, rfl, SqL.here hR, rfl, c, _, rfl, .inl (SqL.here hC), _, _, rfl, rfl, _, rfl, ?_⟩
      refine ite2 (fun c2 => ?_) (fun c2 => ?_)
      · have c3 : i < (((ns.map V.int).length : Nat) : Int) := of_decide_eq_true c2
        rw [List.length_map] at c3
        have hk : i.toNat < ns.length := by omega
        have ek : i = ((i.toNat : Nat) : Int) := by omega
        obtain ⟨u, q1⟩ : ∃ u, atI (ns.map V.int) i = some (.int u) := by
          refine ⟨ns[i.toNat], ?_⟩
          have q0 : atI (ns.map V.int) ((i.toNat : Nat) : Int) = some (.int ns[i.toNat]) := atI_nat (by rw [List.getElem?_map, List.getElem?_eq_getElem hk] <;> rfl)
          rw [← ek] at q0
          exact q0
        refine ⟨_, rfl, r, _, 0, _, rfl, rfl, SqL.here hR, rfl, _, rfl, r, _, 1, _, rfl, rfl, SqL.here hR, rfl, c, _, i, _, rfl, rfl, SqL.here hC, q1, ?_⟩
        -- rng[1] = rng[1] + 1
        refine ⟨_, rfl, r, _, 1, _, rfl, rfl, SqL.here hR, rfl, _, _, rfl, rfl, _, rfl, r, _, 1, 1, rfl, rfl, hR, rfl, ?_⟩
        have hC2 : (upd H r (.lst [.ref c, .int (i + 1), .int b, .int s])) c = some (.lst (ns.map V.int)) := by rw [upd_ne ncr]; exact hC
        refine ⟨_, rfl, _, _, rfl, rfl, ⟨by decide, by decide, by decide⟩, _, _, rfl, rfl, _, rfl, ?_⟩
        refine ite2 (fun c4 => ?_) (fun c4 => ?_)
        · have c5 : (10 : Int) ^ (18 : Int).toNat ≤ u := of_decide_eq_true c4
          have c6 : (0 : Int) ≤ (10 : Int) ^ (18 : Int).toNat := by decide
          refine ⟨_, rfl, _, rfl, r, _, 2, 2, rfl, rfl, upd_same, rfl, ?_⟩
          refine ⟨i + 1, u, s, _, rfl, But.set.trans But.set, upd_same, ?_, by omega, by omega, h0, h1⟩
          rw [upd_ne ncr]
          exact hC2
        · refine ⟨_, rfl, r, _, 3, _, rfl, rfl, SqL.here upd_same, rfl, _, _, rfl, rfl, .inl ⟨by omega, by omega⟩, _, rfl, _, _, rfl, rfl, (by show (0 : Int) < 2147483587; decide), _, _, rfl, rfl, .inl ⟨?_, ?_⟩, _, _, rfl, rfl, _, _, rfl, rfl, _, _, rfl, rfl, (by show (0 : Int) < 2147483647; decide), _, rfl, r, _, 3, 3, rfl, rfl, upd_same, rfl, ?_⟩
          · have := Int.emod_nonneg u (show (2147483587 : Int) ≠ 0 by decide)
            omega
          · have := Int.emod_lt_of_pos u (show (0 : Int) < 2147483587 by decide)
            omega
          · refine ⟨i + 1, b, _, _, rfl, But.set.trans But.set, upd_same, ?_, by omega, hb, Int.emod_nonneg _ (by decide), Int.emod_lt_of_pos _ (by decide)⟩
            rw [upd_ne ncr]
            exact hC2
      · exact ⟨i, b, s, none, rfl, fun _ _ _ h => h, hR, hC, hi, hb, h0, h1⟩
    · exact iteF ⟨i, b, s, none, rfl, fun _ _ _ h => h, hR, hC, hi, hb, h0, h1⟩
  · rintro σ H1 ⟨i, b, s, cell, rfl, e1, hR, hC, hi, hb, h0, h1⟩
    refine ⟨_, rfl, r, _, 2, _, rfl, rfl, SqL.here hR, rfl, _, _, rfl, rfl, _, rfl, ?_⟩
    refine ite2 (fun c1 => ?_) (fun c1 => ?_)
    · refine ⟨_, rfl, r, _, 2, _, rfl, rfl, SqL.here hR, rfl, _, rfl, _, _, rfl, rfl, hn, ?_⟩
      refine ⟨_, rfl, r, _, 2, _, rfl, rfl, SqL.here hR, rfl, _, rfl, _, _, rfl, rfl, ⟨hn, hn2⟩, _, rfl, r, _, 2, 2, rfl, rfl, hR, rfl, _, rfl, ?_⟩
      refine q _ _ (Int.emod_nonneg _ (by omega)) (Int.emod_lt_of_pos _ hn) ⟨ns, i, _, s, upd_same, ?_, ncr, hi, Int.ediv_nonneg hb (by omega), h0, h1⟩ (e1.trans But.set)
      rw [upd_ne ncr]
      exact hC
    · refine ⟨_, rfl, r, _, 3, _, rfl, rfl, SqL.here hR, rfl, ?_⟩
      refine ⟨_, rfl, _, _, rfl, rfl, .inl ⟨by omega, by omega⟩, _, rfl, _, _, rfl, rfl, ⟨by decide, by decide⟩, _, _, rfl, rfl, .inl ⟨?_, ?_⟩, _, _, rfl, rfl, _, _, rfl, rfl, _, _, rfl, rfl, (by show (0 : Int) < 2147483647; decide), _, rfl, r, _, 3, 3, rfl, rfl, hR, rfl, ?_⟩
      · have := Int.ediv_nonneg h0 (show (0 : Int) ≤ 65539 by decide)
        omega
      · have : s / 65539 ≤ s := Int.ediv_le_self _ h0
        omega
      · have z0 : 0 ≤ (s * 62089 + s / 65539 * 29 + 1013904223) % 2147483647 := Int.emod_nonneg _ (by decide)
        have z1 : (s * 62089 + s / 65539 * 29 + 1013904223) % 2147483647 < 2147483647 := Int.emod_lt_of_pos _ (by decide)
        refine ⟨_, rfl, r, _, 3, _, rfl, rfl, SqL.here upd_same, rfl, _, _, rfl, rfl, ⟨by decide, by decide⟩, _, rfl, r, _, 3, _, rfl, rfl, SqL.here upd_same, rfl, _, _, rfl, rfl, (by show (0 : Int) < 8191; decide), _, _, rfl, rfl, .inl ⟨?_, ?_⟩, _, _, rfl, rfl, _, rfl, _, _, rfl, rfl, hn, ?_⟩
        · have := Int.emod_nonneg ((s * 62089 + s / 65539 * 29 + 1013904223) % 2147483647) (show (8191 : Int) ≠ 0 by decide)
          omega
        · have := Int.emod_lt_of_pos ((s * 62089 + s / 65539 * 29 + 1013904223) % 2147483647) (show (0 : Int) < 8191 by decide)
          omega
        · refine q _ _ (Int.emod_nonneg _ (by omega)) (Int.emod_lt_of_pos _ hn) ⟨ns, i, b, _, upd_same, ?_, ncr, hi, hb, z0, z1⟩ (e1.trans But.set)
          rw [upd_ne ncr]
          exact hC
theorem ok__law_draw (d : D K mg "_law_draw" s__law_draw ["_law_rng", "_law_amount"] f fd) (B : Blt mg) : FnOk P w K mg base CX0 1 f fd ["_law_rng", "_law_amount"] spDraw := (ok__law_drawC d B).imp fun _ _ _ _ => spDraw_C

abbrev s__law_pick : Stmt := top 45
theorem sc__law_pick : FnScope ["_law_rng", "_law_terms"] ["_law_rng", "_law_terms"] (defScope s__law_pick) := ⟨rfl, rfl, rfl, by decide +kernel, rfl, by decide +kernel, by decide +kernel⟩
theorem ok__law_pickC {f1 : Addr} {e1 : FuncData} (d__law_pick : D K mg "_law_pick" s__law_pick ["_law_rng", "_law_terms"] f fd) (B : Blt mg) (d__law_draw : D K mg "_law_draw" s__law_draw ["_law_rng", "_law_amount"] f1 e1) : FnOk P w K mg base CX0 2 f fd ["_law_rng", "_law_terms"] (spPickC K) := by
  have G__law_draw : FnOk P w K mg base CX0 1 f1 e1 ["_law_rng", "_law_amount"] spDrawC := ok__law_drawC d__law_draw B
  refine d__law_pick.F.ok sc__law_pick (fun vs H Q E h => ?_) (fun cdv A outer s H vs Q E hr h => ?_)
  · obtain ⟨_, _, _, _, rfl, _⟩ := h
    rfl
  obtain ⟨r, l, c, xs, rfl, hR, hS, h0, h1, hn, q⟩ := h
  refine ⟨_, (pss_one (ps_ret (pe_ix (r := rIx K) ix_seq (pv 1) (pe_call G__law_draw (hr.mono (by decide)) rfl d__law_draw.m d__law_draw.F.kp d__law_draw.b .nil pass0 (pa_cons (pv 0) (pa_cons (pe_callB call_len_seq (by rfl) B.len PySem.boot_len (pa_cons (pv 1) pa_nil)) pa_nil))) (fun _ _ => rfl)))), ?_⟩
  refine ⟨_, rfl, _, rfl, _, rfl, l, xs, rfl, hS, r, _, c, rfl, hR, by omega, by omega, fun n H' n0 n1 R' b' => ?_⟩
  exact rix_in (hS.imp (b'.sqL hn) (b'.sqT hn)) n0 n1 fun v hv => q v H' hv R' b'
theorem ok__law_pick {f1 : Addr} {e1 : FuncData} (d__law_pick : D K mg "_law_pick" s__law_pick ["_law_rng", "_law_terms"] f fd) (B : Blt mg) (d__law_draw : D K mg "_law_draw" s__law_draw ["_law_rng", "_law_amount"] f1 e1) : FnOk P w K mg base CX0 2 f fd ["_law_rng", "_law_terms"] (spPick K) := (ok__law_pickC d__law_pick B d__law_draw).imp fun _ _ _ _ => spPick_C

abbrev s__law_same : Stmt := top 46
theorem sc__law_same : FnScope ["_law_result", "_law_expected", "_law_k"] ["_law_result", "_law_expected"] (defScope s__law_same) := ⟨rfl, rfl, rfl, by decide +kernel, rfl, by decide +kernel, by decide +kernel⟩
theorem same_ix {H : Hp} {x y : V} {d : PyData} {ds : List PyData} (hd : d = .list ds ∨ d = .tuple ds) (hx : Dp K H x d) : ∃ a xs, x = .ref a ∧ (SqL K H a xs ∨ SqT K H a xs) ∧ DpAll K H xs ds := by
  rcases hd with rfl | rfl
  · cases hx with
    | lst hs ha => exact ⟨_, _, rfl, .inl hs, ha⟩
  · cases hx with
    | tup hs ha => exact ⟨_, _, rfl, .inr hs, ha⟩
theorem rix_of {H : Hp} {a : Addr} {xs : List V} {i : Nat} {v : V} {Q : VK} (h : SqL K H a xs ∨ SqT K H a xs) (hi : xs[i]? = some v) (q : Q v H) : rIx K (.ref a) (.int (0 + (i : Int))) H Q := by
  have e : (0 + (i : Int)) = (i : Int) := by omega
  rcases h with h | h
  · exact .inl ⟨a, xs, _, v, rfl, rfl, h, by rw [e]; exact atI_nat hi, q⟩
  · exact .inr (.inl ⟨a, xs, _, v, rfl, rfl, h, by rw [e]; exact atI_nat hi, q⟩)
theorem same_sq {H H' : Hp} {a : Addr} {xs : List V} (e : Same H H') (h : SqL K H a xs ∨ SqT K H a xs) : SqL K H' a xs ∨ SqT K H' a xs := by
  rcases h with h | h
  · exact .inl (e.seq h)
  · exact .inr ((Tp.same e).sqT h)
theorem ok__law_same (d__law_same : D K mg "_law_same" s__law_same ["_law_result", "_law_expected"] f fd) (B : Blt mg) : ∀ n : Nat, FnOk P w K mg base CX0 n f fd ["_law_result", "_law_expected"] (spSame K n)
  | 0 => fn_none fun vs H Q E h => by
    obtain ⟨_, _, _, _, _, _, _, h, _⟩ := h
    omega
  | n + 1 => by
    have G__law_same := ok__law_same d__law_same B n
    refine d__law_same.F.ok sc__law_same (fun vs H Q E h => ?_) (fun cdv A outer s H vs Q E hr h => ?_)
    · obtain ⟨_, _, _, rfl, _⟩ := h
      rfl
    obtain ⟨x, y, d, rfl, hx, hy, hs, hd, hw, q⟩ := h
    refine ⟨_, (pss_cons (ps_if (pt_val (pe_callB call_isi (by rfl) B.isinstance (by decide +kernel) (pa_cons (pv 1) (pa_cons (pe_bltn (v := .ty "dict") (by rfl) B.dict (by decide +kernel) rfl) pa_nil)))) (pss_one ps_never) pss_nil)
 (pss_cons (ps_if (PW.pt (pw_or (pt_cmpR op_ne (pe_callB call_isi (by rfl) B.isinstance (by decide +kernel) (pa_cons (pv 1) (pa_cons (pe_bltn (v := .ty "tuple") (by rfl) B.tuple (by decide +kernel) rfl) pa_nil))) (pe_callB call_isi (by rfl) B.isinstance (by decide +kernel) (pa_cons (pv 0) (pa_cons (pe_bltn (v := .ty "tuple") (by rfl) B.tuple (by decide +kernel) rfl) pa_nil))) (nomark _)) (pw_or1 (pt_cmpR op_ne (pe_callB call_isi (by rfl) B.isinstance (by decide +kernel) (pa_cons (pv 1) (pa_cons (pe_bltn (v := .ty "list") (by rfl) B.list (by decide +kernel) rfl) pa_nil))) (pe_callB call_isi (by rfl) B.isinstance (by decide +kernel) (pa_cons (pv 0) (pa_cons (pe_bltn (v := .ty "list") (by rfl) B.list (by decide +kernel) rfl) pa_nil))) (nomark _))))) (pss_one (ps_ret pe_bl)) pss_nil)
 (pss_cons (ps_if (pt_not (pt_val (pe_callB call_isiT (by rfl) B.isinstance (by decide +kernel) (pa_cons (pv 1) (pa_cons (pe_tup (pa_cons (pe_bltn (v := .ty "tuple") (by rfl) B.tuple (by decide +kernel) rfl) (pa_cons (pe_bltn (v := .ty "list") (by rfl) B.list (by decide +kernel) rfl) pa_nil))) pa_nil))))) (pss_one (ps_ret (pe_and (pe_cmpR op_eq (pe_callB call_isi (by rfl) B.isinstance (by decide +kernel) (pa_cons (pv 0) (pa_cons (pe_bltn (v := .ty "bool") (by rfl) B.bool (by decide +kernel) rfl) pa_nil))) (pe_callB call_isi (by rfl) B.isinstance (by decide +kernel) (pa_cons (pv 1) (pa_cons (pe_bltn (v := .ty "bool") (by rfl) B.bool (by decide +kernel) rfl) pa_nil))) (nomark _)) (pe_one (pe_cmpR (op_eqD hr.units) (pv 0) (pv 1) (nomark _)))))) pss_nil)
 (pss_one (ps_ret (pe_and (pe_cmpR op_eq (pe_callB call_len_seq (by rfl) B.len PySem.boot_len (pa_cons (pv 0) pa_nil)) (pe_callB call_len_seq (by rfl) B.len PySem.boot_len (pa_cons (pv 1) pa_nil)) (nomark _)) (pe_one (pe_callB (cr_all rfl) (by rfl) B.all (by decide +kernel) (pa_cons (pe_lc (own := [("_law_k", 2)]) (g := gName 2) (tt := tYes) (by rfl) sc__law_same.nd (pi_range1 (by rfl) B.range (pa_cons (pe_callB call_len_seq (by rfl) B.len PySem.boot_len (pa_cons (pv 1) pa_nil)) pa_nil)) (blkOk_by (own := [("_law_k", 2)]) (N := ["_law_result", "_law_expected", "_law_k"]) (sc := defScope s__law_same) (by decide +kernel)) (fun _ _ _ _ _ => (pg_name (i := 2) sc__law_same.nd rfl (Or.inl rfl))) (fun _ _ _ _ _ => pts_nil) (fun _ _ _ _ _ => (pe_call G__law_same hr rfl d__law_same.m d__law_same.F.kp d__law_same.b .nil pass0 (pa_cons (pe_ix (r := rIx K) ix_seq (pv 0) (pv 2) (fun _ _ => rfl)) (pa_cons (pe_ix (r := rIx K) ix_seq (pv 1) (pv 2) (fun _ _ => rfl)) pa_nil))))) pa_nil))))))))), ?_⟩
    refine ⟨_, rfl, _, _, _, _, false, rfl, .ty "dict", dp_ty hy, kit_dict hy, false, rfl, iteF ?_⟩
    refine ⟨_, rfl, _, _, _, _, _, rfl, .ty "tuple", dp_ty hy, kit_tuple hy, _, rfl, _, _, _, _, _, rfl, .ty "tuple", dp_ty hx, kit_tuple hx, rfl, _, rfl, ite_no ?_ ?_⟩
    · rw [decide_eq_true rfl]
      rfl
    refine ⟨_, rfl, _, _, _, _, _, rfl, .ty "list", dp_ty hy, kit_list hy, _, rfl, _, _, _, _, _, rfl, .ty "list", dp_ty hx, kit_list hx, rfl, _, rfl, ite_no ?_ ?_⟩
    · rw [decide_eq_true rfl]
      rfl
    refine ⟨_, rfl, two_le, fun p hp => ?_⟩
    have s1 := Same.new hp (.tup [.ty "tuple", .ty "list"])
    have hx1 := dp_same s1 d hx
    have hy1 := dp_same s1 d hy
    refine ⟨_, p, _, _, _, _, rfl, upd_same, .cons (.ty _) (.cons (.ty _) .nil), dp_ty hy1, kit_seq hy1, _, rfl, ?_⟩
    generalize (upd H p (.tup [.ty "tuple", .ty "list"])) = H1 at *
    cases hsq : (isT d || isLs d) with
    | false =>
      refine iteT ?_
      refine ⟨_, rfl, _, _, _, _, _, rfl, .ty "bool", dp_ty hx1, kit_bool hx1, _, rfl, _, _, _, _, _, rfl, .ty "bool", dp_ty hy1, kit_bool hy1, rfl, true, ?_, iteT ?_⟩
      · rw [decide_eq_true rfl]
      · refine ⟨_, rfl, _, rfl, d, d, hx1, hy1, hs, hs, ?_⟩
        rw [SeqAt.eqv_refl d (SeqAt.canLay_of_shaped hs)]
        exact q H1 s1
    | true =>
      refine iteF ?_
      obtain ⟨ds, hds⟩ : ∃ ds, d = .list ds ∨ d = .tuple ds := by
        cases d <;> first | exact ⟨_, .inl rfl⟩ | exact ⟨_, .inr rfl⟩ | exact absurd (show false = true from hsq) (by decide)
      obtain ⟨a, xs, rfl, hX, hXA⟩ := same_ix (y := y) hds hx1
      obtain ⟨b, ys, rfl, hY, hYA⟩ := same_ix (y := .ref a) hds hy1
      have lx := dpAll_len hXA
      have ly := dpAll_len hYA
      have hcan : PyData.canLayAll0 ds = true := by
        have := SeqAt.canLay_of_shaped hs
        rcases hds with rfl | rfl <;> exact this
      have hdep : d.depth = PyData.depthAll ds + 1 := by rcases hds with rfl | rfl <;> rfl
      have hd64 := SeqAt.depth_of_shaped hs
      have hwd : ds.length ≤ 1000 ∧ wideAll ds = true := by
        have h0 : (decide (ds.length ≤ 1000) && wideAll ds) = true := by rcases hds with rfl | rfl <;> exact hw
        have h1 := Bool.and_eq_true_iff.mp h0
        exact ⟨of_decide_eq_true h1.1, h1.2⟩
      refine ⟨_, rfl, a, _, rfl, hX, _, rfl, b, _, rfl, hY, rfl, true, ?_, iteT ?_⟩
      · rw [lx, ly, decide_eq_true rfl]
      refine ⟨_, rfl, b, _, rfl, hY, (ys.length : Int), rfl, by omega, by omega, fun D hD => ?_⟩
      refine lc_range (lo := 0) (n := ((ys.length : Int)).toNat) (fun i H' => Same H1 H' ∧ H' D = some (.lst (List.replicate i (V.bl true)))) ⟨Same.new hD _, upd_same⟩ ?_ ?_
      · rintro i H' hi ⟨sm, hl⟩
        have hi' : i < ds.length := by omega
        obtain ⟨u, eu, hu⟩ := dpAll_at hXA i ds[i] (List.getElem?_eq_getElem hi')
        obtain ⟨v, ev, hv⟩ := dpAll_at hYA i ds[i] (List.getElem?_eq_getElem hi')
        have hm : ds[i] ∈ ds := List.getElem_mem hi'
        have hdi := depth_at hm
        refine ⟨rfl, ?_⟩
        refine ⟨_, rfl, _, rfl, rix_of (same_sq sm hX) eu ⟨_, rfl, _, rfl, rix_of (same_sq sm hY) ev ⟨u, v, ds[i], rfl, dp_same sm _ hu, dp_same sm _ hv, ?_, by omega, wide_at hwd.2 hm, fun H2 s2 => ?_⟩⟩⟩
        · unfold SeqAt.shaped
          rw [shaped_at hcan hm, decide_eq_true (by omega)]
          rfl
        · refine ⟨_, s2 _ _ hl, by rw [List.length_replicate]; exact small1000 (by omega), fun c o e => ?_, ?_⟩
          · rw [upd_ne (ne_of_none e hD)]
            exact s2 _ _ (sm _ _ e)
          · rw [upd_same, List.replicate_succ']
      · rintro H' ⟨sm, hl⟩
        refine ⟨D, List.replicate ((ys.length : Int)).toNat true, rfl, SqL.here (by rw [hl, List.map_replicate]), ?_⟩
        rw [all_rep]
        exact q H' (s1.trans sm)

abbrev s__law_error_name : Stmt := top 47
theorem sc__law_error_name : FnScope ["_law_e", "_law_some", "_law_word", "_law_so"] ["_law_e"] (defScope s__law_error_name) := ⟨rfl, rfl, rfl, by decide +kernel, rfl, by decide +kernel, by decide +kernel⟩
theorem ok__law_error_name {CT : Addr} {word : Addr → Option Str} {cl : Nat → Addr} (d : D K mg "_law_error_name" s__law_error_name ["_law_e"] f fd) (B : Blt mg) (M : Errs mg cl) (hw : ∀ D nm, word D = some nm → ∃ j, Isw K cl D j ∧ nm = en j) : FnB P w K mg base 1 f fd ["_law_e"] (spName2 K CT word) := by
  refine Fun.okB2 d.F sc__law_error_name (fun cdv A outer s H vs Q xh oh hr hb hok h => ?_)
  obtain ⟨D0, nm, hcl, W, ew, rfl, q⟩ := h
  obtain ⟨j, hj, rfl⟩ := hw _ _ ew
  have hdd : ∀ d, oh.dict = some d → (∃ o, s.heap.get? d = some o) ∧ d ∉ ([] : List Addr) := fun d e => by
    obtain ⟨fs, hfs⟩ := W.nod d e
    exact ⟨xd_there hok hfs, by simp⟩
  have C := W.exc
  refine ⟨_, (pss_cons (ps_set (i := 1) sc__law_error_name.nd rfl (Or.inl rfl) (pe_lst (pa_cons (pe_tup (pa_cons pe_str (pa_cons (pe_callB (call_isB2 hb C hcl hdd) (by rfl) B.isinstance (by decide +kernel) (pa_cons (pv 0) (pa_cons (pe_glob (v := .ref (cl 0)) rfl (M 0 (by decide)) rfl) pa_nil))) pa_nil))) (pa_cons (pe_tup (pa_cons pe_str (pa_cons (pe_callB (call_isB2 hb C hcl hdd) (by rfl) B.isinstance (by decide +kernel) (pa_cons (pv 0) (pa_cons (pe_glob (v := .ref (cl 1)) rfl (M 1 (by decide)) rfl) pa_nil))) pa_nil))) pa_nil))))
 (pss_cons (ps_set (i := 1) sc__law_error_name.nd rfl (Or.inl rfl) (pe_op op_cat (pv 1) (pe_lst (pa_cons (pe_tup (pa_cons pe_str (pa_cons (pe_callB (call_isB2 hb C hcl hdd) (by rfl) B.isinstance (by decide +kernel) (pa_cons (pv 0) (pa_cons (pe_glob (v := .ref (cl 2)) rfl (M 2 (by decide)) rfl) pa_nil))) pa_nil))) (pa_cons (pe_tup (pa_cons pe_str (pa_cons (pe_callB (call_isB2 hb C hcl hdd) (by rfl) B.isinstance (by decide +kernel) (pa_cons (pv 0) (pa_cons (pe_glob (v := .ref (cl 3)) rfl (M 3 (by decide)) rfl) pa_nil))) pa_nil))) pa_nil)))))
 (pss_cons (ps_set (i := 1) sc__law_error_name.nd rfl (Or.inl rfl) (pe_op op_cat (pv 1) (pe_lst (pa_cons (pe_tup (pa_cons pe_str (pa_cons (pe_callB (call_isB2 hb C hcl hdd) (by rfl) B.isinstance (by decide +kernel) (pa_cons (pv 0) (pa_cons (pe_glob (v := .ref (cl 4)) rfl (M 4 (by decide)) rfl) pa_nil))) pa_nil))) (pa_cons (pe_tup (pa_cons pe_str (pa_cons (pe_callB (call_isB2 hb C hcl hdd) (by rfl) B.isinstance (by decide +kernel) (pa_cons (pv 0) (pa_cons (pe_glob (v := .ref (cl 5)) rfl (M 5 (by decide)) rfl) pa_nil))) pa_nil))) pa_nil)))))
 (pss_cons (ps_set (i := 1) sc__law_error_name.nd rfl (Or.inl rfl) (pe_op op_cat (pv 1) (pe_lst (pa_cons (pe_tup (pa_cons pe_str (pa_cons (pe_callB (call_isB2 hb C hcl hdd) (by rfl) B.isinstance (by decide +kernel) (pa_cons (pv 0) (pa_cons (pe_glob (v := .ref (cl 6)) rfl (M 6 (by decide)) rfl) pa_nil))) pa_nil))) (pa_cons (pe_tup (pa_cons pe_str (pa_cons (pe_callB (call_isB2 hb C hcl hdd) (by rfl) B.isinstance (by decide +kernel) (pa_cons (pv 0) (pa_cons (pe_glob (v := .ref (cl 7)) rfl (M 7 (by decide)) rfl) pa_nil))) pa_nil))) pa_nil)))))
 (pss_cons (ps_set (i := 1) sc__law_error_name.nd rfl (Or.inl rfl) (pe_op op_cat (pv 1) (pe_lst (pa_cons (pe_tup (pa_cons pe_str (pa_cons (pe_callB (call_isB2 hb C hcl hdd) (by rfl) B.isinstance (by decide +kernel) (pa_cons (pv 0) (pa_cons (pe_glob (v := .ref (cl 8)) rfl (M 8 (by decide)) rfl) pa_nil))) pa_nil))) (pa_cons (pe_tup (pa_cons pe_str (pa_cons (pe_callB (call_isB2 hb C hcl hdd) (by rfl) B.isinstance (by decide +kernel) (pa_cons (pv 0) (pa_cons (pe_glob (v := .ref (cl 9)) rfl (M 9 (by decide)) rfl) pa_nil))) pa_nil))) pa_nil)))))
 (pss_cons (ps_set (i := 1) sc__law_error_name.nd rfl (Or.inl rfl) (pe_op op_cat (pv 1) (pe_lst (pa_cons (pe_tup (pa_cons pe_str (pa_cons (pe_callB (call_isB2 hb C hcl hdd) (by rfl) B.isinstance (by decide +kernel) (pa_cons (pv 0) (pa_cons (pe_glob (v := .ref (cl 10)) rfl (M 10 (by decide)) rfl) pa_nil))) pa_nil))) (pa_cons (pe_tup (pa_cons pe_str (pa_cons (pe_callB (call_isB2 hb C hcl hdd) (by rfl) B.isinstance (by decide +kernel) (pa_cons (pv 0) (pa_cons (pe_glob (v := .ref (cl 11)) rfl (M 11 (by decide)) rfl) pa_nil))) pa_nil))) pa_nil)))))
 (pss_cons (ps_set (i := 1) sc__law_error_name.nd rfl (Or.inl rfl) (pe_op op_cat (pv 1) (pe_lst (pa_cons (pe_tup (pa_cons pe_str (pa_cons (pe_callB (call_isB2 hb C hcl hdd) (by rfl) B.isinstance (by decide +kernel) (pa_cons (pv 0) (pa_cons (pe_glob (v := .ref (cl 12)) rfl (M 12 (by decide)) rfl) pa_nil))) pa_nil))) (pa_cons (pe_tup (pa_cons pe_str (pa_cons (pe_callB (call_isB2 hb C hcl hdd) (by rfl) B.isinstance (by decide +kernel) (pa_cons (pv 0) (pa_cons (pe_glob (v := .ref (cl 13)) rfl (M 13 (by decide)) rfl) pa_nil))) pa_nil))) pa_nil)))))
 (pss_cons (ps_set (i := 1) sc__law_error_name.nd rfl (Or.inl rfl) (pe_op op_cat (pv 1) (pe_lst (pa_cons (pe_tup (pa_cons pe_str (pa_cons (pe_callB (call_isB2 hb C hcl hdd) (by rfl) B.isinstance (by decide +kernel) (pa_cons (pv 0) (pa_cons (pe_glob (v := .ref (cl 14)) rfl (M 14 (by decide)) rfl) pa_nil))) pa_nil))) (pa_cons (pe_tup (pa_cons pe_str (pa_cons (pe_callB (call_isB2 hb C hcl hdd) (by rfl) B.isinstance (by decide +kernel) (pa_cons (pv 0) (pa_cons (pe_glob (v := .ref (cl 15)) rfl (M 15 (by decide)) rfl) pa_nil))) pa_nil))) pa_nil)))))
 (pss_cons (ps_set (i := 1) sc__law_error_name.nd rfl (Or.inl rfl) (pe_op op_cat (pv 1) (pe_lst (pa_cons (pe_tup (pa_cons pe_str (pa_cons (pe_callB (call_isB2 hb C hcl hdd) (by rfl) B.isinstance (by decide +kernel) (pa_cons (pv 0) (pa_cons (pe_glob (v := .ref (cl 16)) rfl (M 16 (by decide)) rfl) pa_nil))) pa_nil))) (pa_cons (pe_tup (pa_cons pe_str (pa_cons (pe_callB (call_isB2 hb C hcl hdd) (by rfl) B.isinstance (by decide +kernel) (pa_cons (pv 0) (pa_cons (pe_glob (v := .ref (cl 17)) rfl (M 17 (by decide)) rfl) pa_nil))) pa_nil))) pa_nil)))))
 (pss_cons (ps_set (i := 1) sc__law_error_name.nd rfl (Or.inl rfl) (pe_op op_cat (pv 1) (pe_lst (pa_cons (pe_tup (pa_cons pe_str (pa_cons (pe_callB (call_isB2 hb C hcl hdd) (by rfl) B.isinstance (by decide +kernel) (pa_cons (pv 0) (pa_cons (pe_glob (v := .ref (cl 18)) rfl (M 18 (by decide)) rfl) pa_nil))) pa_nil))) (pa_cons (pe_tup (pa_cons pe_str (pa_cons (pe_callB (call_isB2 hb C hcl hdd) (by rfl) B.isinstance (by decide +kernel) (pa_cons (pv 0) (pa_cons (pe_glob (v := .ref (cl 19)) rfl (M 19 (by decide)) rfl) pa_nil))) pa_nil))) pa_nil)))))
 (pss_one (ps_ret (pe_join pe_str (pe_lcB (own := [("_law_word", 2), ("_law_so", 3)]) (g := gTup K 2 (gCons (gName 2) (gCons (gName 3) gNil))) (tt := fun σ H Q => tVar 3 σ H fun x G => ∃ k, TruV K x G k ∧ Q k G) (te := tVar 2) hb sc__law_error_name.nd (pv 1) (blkOk_by (own := [("_law_word", 2), ("_law_so", 3)]) (N := ["_law_e", "_law_some", "_law_word", "_law_so"]) (sc := defScope s__law_error_name) (by decide +kernel)) (fun _ _ _ _ _ hb2 => pg_tupB hb2 (pgs_cons (pg_name (i := 2) sc__law_error_name.nd rfl (Or.inl rfl)) (pgs_cons (pg_name (i := 3) sc__law_error_name.nd rfl (Or.inl rfl)) pgs_nil))) (fun _ _ _ _ _ => (pts_one (pt_truth (pv 3) (by intro _; rfl)))) (fun _ _ _ _ _ => (pv 2)))))))))))))))), ?_⟩
  refine nm_first (cl := cl) hj fun σ1 H1 I1 => ?_
  refine nm_step (n := 2) hj (by decide) I1 fun σ1 H1 I1 => ?_
  refine nm_step (n := 4) hj (by decide) I1 fun σ1 H1 I1 => ?_
  refine nm_step (n := 6) hj (by decide) I1 fun σ1 H1 I1 => ?_
  refine nm_step (n := 8) hj (by decide) I1 fun σ1 H1 I1 => ?_
  refine nm_step (n := 10) hj (by decide) I1 fun σ1 H1 I1 => ?_
  refine nm_step (n := 12) hj (by decide) I1 fun σ1 H1 I1 => ?_
  refine nm_step (n := 14) hj (by decide) I1 fun σ1 H1 I1 => ?_
  refine nm_step (n := 16) hj (by decide) I1 fun σ1 H1 I1 => ?_
  refine nm_step (n := 18) hj (by decide) I1 fun σ1 H1 I1 => ?_
  obtain ⟨L, ps, rfl, sm, hl, hL, hp⟩ := I1
  refine ⟨⟨_, rfl⟩, _, rfl, L, ps.map V.ref, rfl, SqL.here hL, fun D1 nD => ⟨fun i G => Same H1 G ∧ G D1 = some (.lst (if j < i then [.str (en j)] else [])), ⟨Same.new nD _, upd_same⟩, fun i G _ z => SqL.here (z.1 _ _ hL), ?_, ?_⟩⟩
  · rintro i v G hi ⟨sG, hD⟩
    rw [List.getElem?_map] at hi
    obtain ⟨p, ep, rfl⟩ := Option.map_eq_some_iff.mp hi
    have tp := sG _ _ (hp i p ep)
    have nDp : p ≠ D1 := fun z => by
      have z1 := hp i p ep
      rw [z, nD] at z1
      cases z1
    refine ⟨p, _, rfl, SqT.here tp, rfl, _, _, rfl, _, _, rfl, rfl, rfl, _, rfl, _, rfl, ?_⟩
    refine ite2 (fun c' => ?_) (fun c' => ?_)
    · have c : i = j := of_decide_eq_true c'
      refine ⟨_, rfl, _, hD, ?_, fun b u z => (by rw [upd_ne (ne_of_none z nD)]; exact sG b u z), ?_⟩
      · rw [if_neg (by omega)]
        exact Nat.lt_of_lt_of_le (show 0 < 1 by decide) (show 1 ≤ sizeLine by decide)
      · rw [upd_same, if_neg (by omega), if_pos (by omega), c]
        rfl
    · have c : ¬ i = j := by first | exact of_decide_eq_false c' | exact fun z => c' (decide_eq_true z)
      refine ⟨sG, ?_⟩
      rw [hD]
      by_cases c2 : j < i
      · rw [if_pos c2, if_pos (by omega)]
      · rw [if_neg c2, if_neg (by omega)]
  · rintro G ⟨sG, hD⟩
    rw [List.length_map, hl, if_pos hj.lt] at hD
    refine ⟨_, D1, [en j], rfl, rfl, .inl (SqL.here hD), ?_, ?_⟩
    · have z : ∀ i, i < 20 → ((([en i] : List Str).map (·.length)).sum + ([en i] : List Str).length * ("+" : Str).length) ≤ 16777216 := by decide +kernel
      exact z j hj.lt
    · exact q G (sm.trans sG)

abbrev s__law_error_field : Stmt := top 48
theorem sc__law_error_field : FnScope ["_law_e", "_law_word"] ["_law_e", "_law_word"] (defScope s__law_error_field) := ⟨rfl, rfl, rfl, by decide +kernel, rfl, by decide +kernel, by decide +kernel⟩
theorem ok__law_error_field {word : Addr → Option Str} {fld : Addr → Option Addr → Hp → V → Prop} (d : D K mg "_law_error_field" s__law_error_field ["_law_e", "_law_word"] f fd) (B : Blt mg)
    (hx : ∀ D nm, word D = some nm → XfC K D ∧ PySem.W.findIn K (.ref D) "position" = some none ∧ PySem.W.findIn K (.ref D) "name" = some none ∧ PySem.W.findIn K (.ref D) "size" = some none ∧ PySem.W.findIn K (.ref D) "row" = some none)
    (hw : ∀ D nm dd H v, word D = some nm → fld D dd H v → ∃ j, j < 20 ∧ nm = en j ∧ ((fk j = 0 ∧ v = .non) ∨ ∃ (e : Addr) (fs : List (Str × V)), fk j ≠ 0 ∧ dd = some e ∧ H e = some (.xd fs) ∧ fs.lookup (fnm (fk j)) = some v)) : FnB P w K mg base 1 f fd ["_law_e", "_law_word"] (spField word fld) := by
  refine Fun.okB d.F sc__law_error_field (fun cdv A outer s H vs Q xh oh hr hb h => ?_)
  obtain ⟨D0, nm, v, hcl, ew, hf, rfl, q⟩ := h
  obtain ⟨j, hj, rfl, hv⟩ := hw _ _ _ _ _ ew hf
  have XF := hx _ _ ew
  have get : ∀ n, fk j = n → n ≠ 0 → ∀ H', Same H H' → ∃ (e : Addr) (fs : List (Str × V)), oh.dict = some e ∧ H' e = some (.xd fs) ∧ fs.lookup (fnm n) = some v := fun n e0 nz H' sm => by
    rcases hv with ⟨z, _⟩ | ⟨e, fs, _, h1, h2, h3⟩
    · exact absurd (e0.symm.trans z) nz
    · exact ⟨e, fs, h1, sm _ _ h2, by rw [← e0]; exact h3⟩
  refine ⟨_, (pss_cons (ps_if (pt_cmpR op_in_seq (pv 1) (pe_lst (pa_cons pe_str (pa_cons pe_str (pa_cons pe_str pa_nil)))) (by with_unfolding_all rfl)) (pss_one (ps_ret (pe_xfB hb XF.1 XF.2.1 hcl (pv 0)))) pss_nil)
 (pss_cons (ps_if (pt_cmpR op_in_seq (pv 1) (pe_lst (pa_cons pe_str (pa_cons pe_str pa_nil))) (by with_unfolding_all rfl)) (pss_one (ps_ret (pe_xfB hb XF.1 XF.2.2.1 hcl (pv 0)))) pss_nil)
 (pss_cons (ps_if (pt_cmpR op_eq (pv 1) pe_str (nomark _)) (pss_one (ps_ret (pe_xfB hb XF.1 XF.2.2.2.1 hcl (pv 0)))) pss_nil)
 (pss_one (ps_ret (pe_ifExp (pt_cmpR op_eq (pv 1) pe_str (nomark _)) (pe_xfB hb XF.1 XF.2.2.2.2 hcl (pv 0)) pe_non)))))), ?_⟩
  refine ⟨_, rfl, by decide, fun p1 n1 => ⟨p1, _, rfl, .inl (SqL.here upd_same), rfl, rfl, _, rfl, ?_⟩⟩
  refine ite2 (fun c => ?_) (fun c1 => ?_)
  · obtain ⟨e, fs, h1, h2, h3⟩ := get 1 (of_decide_eq_true ((fk_in3 j hj).symm.trans c)) (by decide) _ (Same.new n1 _)
    exact ⟨_, rfl, rfl, e, fs, v, h1, h2, h3, q _ (Same.new n1 _)⟩
  refine ⟨_, rfl, by decide, fun p2 n2 => ⟨p2, _, rfl, .inl (SqL.here upd_same), rfl, rfl, _, rfl, ?_⟩⟩
  have s2 := (Same.new n1 (.lst [.str (en 1), .str (en 9), .str (en 17)])).trans (Same.new n2 (.lst [.str (en 14), .str (en 15)]))
  refine ite2 (fun c => ?_) (fun c2 => ?_)
  · obtain ⟨e, fs, h1, h2, h3⟩ := get 2 (of_decide_eq_true ((fk_in2 j hj).symm.trans c)) (by decide) _ s2
    exact ⟨_, rfl, rfl, e, fs, v, h1, h2, h3, q _ s2⟩
  refine ⟨_, rfl, rfl, _, rfl, ?_⟩
  refine ite2 (fun c => ?_) (fun c3 => ?_)
  · obtain ⟨e, fs, h1, h2, h3⟩ := get 3 (of_decide_eq_true ((fk_big j hj).symm.trans c)) (by decide) _ s2
    exact ⟨_, rfl, rfl, e, fs, v, h1, h2, h3, q _ s2⟩
  refine ⟨_, rfl, rfl, _, rfl, ?_⟩
  refine ite2 (fun c => ?_) (fun c4 => ?_)
  · obtain ⟨e, fs, h1, h2, h3⟩ := get 4 (of_decide_eq_true ((fk_row j hj).symm.trans c)) (by decide) _ s2
    exact ⟨_, rfl, rfl, e, fs, v, h1, h2, h3, q _ s2⟩
  have z : v = .non := by
    rcases hv with ⟨_, z⟩ | ⟨e, fs, nz, _⟩
    · exact z
    · exact absurd (fk_none j hj (c1' := ((fk_in3 j hj).symm.trans (by first | exact c1 | exact Bool.eq_false_iff.mpr c1))) (c2' := ((fk_in2 j hj).symm.trans (by first | exact c2 | exact Bool.eq_false_iff.mpr c2))) (c3' := ((fk_big j hj).symm.trans (by first | exact c3 | exact Bool.eq_false_iff.mpr c3))) (c4' := ((fk_row j hj).symm.trans (by first | exact c4 | exact Bool.eq_false_iff.mpr c4)))) nz
  subst z
  exact q _ s2

abbrev s__law_comb : Stmt := top 51
theorem sc__law_comb : FnScope ["_law_many", "_law_onleft", "_law_term_here", "_law_step"] ["_law_many", "_law_onleft"] (defScope s__law_comb) := ⟨rfl, rfl, rfl, by decide +kernel, rfl, by decide +kernel, by decide +kernel⟩
theorem ok__law_comb (d : D K mg "_law_comb" s__law_comb ["_law_many", "_law_onleft"] f fd) (B : Blt mg) : FnOk P w K mg base CX0 1 f fd ["_law_many", "_law_onleft"] (spComb K) := by
  refine d.F.ok sc__law_comb (fun vs H Q E h => ?_) (fun cdv A outer s H vs Q E hr h => ?_)
  · obtain ⟨_, _, rfl, _⟩ := h
    rfl
  obtain ⟨m, b, rfl, h1, h2, q⟩ := h
  refine ⟨_, (pss_cons (ps_set (i := 2) sc__law_comb.nd rfl (Or.inl rfl) (pe_tup pa_nil))
 (pss_cons (ps_for PassesOwn.never rfl (pi_range1 (by rfl) B.range (pa_cons (pe_op op_sub (pv 0) pe_int) pa_nil)) (pg_name (i := 3) sc__law_comb.nd rfl (Or.inl rfl))
  (pss_one (ps_set (i := 2) sc__law_comb.nd rfl (Or.inl rfl) (pe_ifExp (pt_truth (pv 1) (by intro _; rfl)) (pe_tup (pa_cons (pv 2) (pa_cons (pe_tup pa_nil) pa_nil))) (pe_tup (pa_cons (pe_tup pa_nil) (pa_cons (pv 2) pa_nil)))))))
 (pss_one (ps_ret (pv 2))))), ?_⟩
  refine ⟨zero_le', fun p hp => ?_⟩
  refine ⟨_, rfl, _, _, rfl, rfl, m - 1, rfl, by omega, by omega, for_range (lo := 0) (n := (m - 1).toNat) (fun i σ H' => ∃ (v : V) (t : Tree) (x : Option V), σ = [some (.int m), some (.bl b), some v, x] ∧ TA K H' v t ∧ t.sz = i + 1 ∧ t.dp = i ∧ Same H H')
    ⟨.ref p, .L, none, rfl, ta_leaf (SqT.here upd_same), rfl, rfl, Same.new hp _⟩ ?_ ?_⟩
  · rintro i σ H' hi ⟨v, t, x, rfl, ha, hz, hd, sm⟩
    refine ⟨_, rfl, b, rfl, ?_⟩
    refine ite2 (fun c => ?_) (fun c => ?_)
    · refine ⟨_, rfl, zero_le', fun p2 hp2 => ⟨two_le, fun p3 hp3 => ?_⟩⟩
      have s2 := Same.new hp2 (.tup [])
      have s3 := s2.trans (Same.new hp3 (.tup [v, .ref p2]))
      refine ⟨_, .N t .L, _, rfl, ta_node (SqT.here upd_same) (ta_mono (Tp.same s3) ha) (ta_mono (Tp.same (Same.new hp3 _)) (ta_leaf (SqT.here upd_same))), by show t.sz + 1 = _; omega, by show max t.dp 0 + 1 = _; omega, sm.trans s3⟩
    · refine ⟨zero_le', fun p2 hp2 => ⟨_, rfl, two_le, fun p3 hp3 => ?_⟩⟩
      have s2 := Same.new hp2 (.tup [])
      have s3 := s2.trans (Same.new hp3 (.tup [.ref p2, v]))
      refine ⟨_, .N .L t, _, rfl, ta_node (SqT.here upd_same) (ta_mono (Tp.same (Same.new hp3 _)) (ta_leaf (SqT.here upd_same))) (ta_mono (Tp.same s3) ha), by show 1 + t.sz = _; omega, by show max 0 t.dp + 1 = _; omega, sm.trans s3⟩
  · rintro σ H' ⟨v, t, x, rfl, ha, hz, hd, sm⟩
    refine ⟨_, rfl, q v t H' ha (by omega) (by omega) sm⟩
def cmb (b : Bool) : Nat → Tree
  | 0 => .L
  | n + 1 => if b then .N (cmb b n) .L else .N .L (cmb b n)
def spCombX (K : PySem.W.Frag) : Sp := fun vs H Q _ => ∃ (m : Int) (b : Bool), vs = [.int m, .bl b] ∧ 1 ≤ m ∧ m ≤ 40 ∧ ∀ (v : V) (H' : Hp), TA K H' v (cmb b (m.toNat - 1)) → Same H H' → Q v H'
theorem ok__law_combX (d : D K mg "_law_comb" s__law_comb ["_law_many", "_law_onleft"] f fd) (B : Blt mg) : FnOk P w K mg base CX0 1 f fd ["_law_many", "_law_onleft"] (spCombX K) := by
  refine d.F.ok sc__law_comb (fun vs H Q E h => ?_) (fun cdv A outer s H vs Q E hr h => ?_)
  · obtain ⟨_, _, rfl, _⟩ := h
    rfl
  obtain ⟨m, b, rfl, h1, h2, q⟩ := h
  refine ⟨_, (pss_cons (ps_set (i := 2) sc__law_comb.nd rfl (Or.inl rfl) (pe_tup pa_nil))
 (pss_cons (ps_for PassesOwn.never rfl (pi_range1 (by rfl) B.range (pa_cons (pe_op op_sub (pv 0) pe_int) pa_nil)) (pg_name (i := 3) sc__law_comb.nd rfl (Or.inl rfl))
  (pss_one (ps_set (i := 2) sc__law_comb.nd rfl (Or.inl rfl) (pe_ifExp (pt_truth (pv 1) (by intro _; rfl)) (pe_tup (pa_cons (pv 2) (pa_cons (pe_tup pa_nil) pa_nil))) (pe_tup (pa_cons (pe_tup pa_nil) (pa_cons (pv 2) pa_nil)))))))
 (pss_one (ps_ret (pv 2))))), ?_⟩
  refine ⟨zero_le', fun p hp => ?_⟩
  refine ⟨_, rfl, _, _, rfl, rfl, m - 1, rfl, by omega, by omega, for_range (lo := 0) (n := (m - 1).toNat) (fun i σ H' => ∃ (v : V) (t : Tree) (x : Option V), σ = [some (.int m), some (.bl b), some v, x] ∧ TA K H' v t ∧ t = cmb b i ∧ Same H H')
    ⟨.ref p, .L, none, rfl, ta_leaf (SqT.here upd_same), rfl, Same.new hp _⟩ ?_ ?_⟩
  · rintro i σ H' hi ⟨v, t, x, rfl, ha, hz, sm⟩
    refine ⟨_, rfl, b, rfl, ?_⟩
    refine ite2 (fun c => ?_) (fun c => ?_)
    · refine ⟨_, rfl, zero_le', fun p2 hp2 => ⟨two_le, fun p3 hp3 => ?_⟩⟩
      have s2 := Same.new hp2 (.tup [])
      have s3 := s2.trans (Same.new hp3 (.tup [v, .ref p2]))
      refine ⟨_, .N t .L, _, rfl, ta_node (SqT.here upd_same) (ta_mono (Tp.same s3) ha) (ta_mono (Tp.same (Same.new hp3 _)) (ta_leaf (SqT.here upd_same))), by rw [hz, (by first | exact c | exact of_decide_eq_true c : b = true)]; rfl, sm.trans s3⟩
    · refine ⟨zero_le', fun p2 hp2 => ⟨_, rfl, two_le, fun p3 hp3 => ?_⟩⟩
      have s2 := Same.new hp2 (.tup [])
      have s3 := s2.trans (Same.new hp3 (.tup [.ref p2, v]))
      refine ⟨_, .N .L t, _, rfl, ta_node (SqT.here upd_same) (ta_mono (Tp.same (Same.new hp3 _)) (ta_leaf (SqT.here upd_same))) (ta_mono (Tp.same s3) ha), by rw [hz, (by first | exact c | exact of_decide_eq_false c | exact Bool.eq_false_iff.mpr c : b = false)]; rfl, sm.trans s3⟩
  · rintro σ H' ⟨v, t, x, rfl, ha, hz, sm⟩
    refine ⟨_, rfl, q v H' (by rw [← (show t = cmb b (m.toNat - 1) by rw [hz]; congr 1; omega)]; exact ha) sm⟩

abbrev s__law_term : Stmt := top 50
theorem sc__law_term : FnScope ["_law_rng", "_law_many", "_law_cap", "_law_half", "_law_low", "_law_high", "_law_left"] ["_law_rng", "_law_many", "_law_cap"] (defScope s__law_term) := ⟨rfl, rfl, rfl, by decide +kernel, rfl, by decide +kernel, by decide +kernel⟩
theorem ok__law_termC {fr : Addr} {frd : FuncData} (d__law_term : D K mg "_law_term" s__law_term ["_law_rng", "_law_many", "_law_cap"] f fd) (B : Blt mg) (d__law_draw : D K mg "_law_draw" s__law_draw ["_law_rng", "_law_amount"] fr frd) : ∀ n : Nat, FnOk P w K mg base CX0 (n + 1) f fd ["_law_rng", "_law_many", "_law_cap"] (spTermC K n)
  | 0 => fn_none fun vs H Q E h => by
    obtain ⟨_, _, _, _, h, _⟩ := h
    omega
  | n + 1 => by
    have G__law_term := ok__law_termC d__law_term B d__law_draw n
    have G__law_draw : FnOk P w K mg base CX0 1 fr frd ["_law_rng", "_law_amount"] spDrawC := ok__law_drawC d__law_draw B
    refine d__law_term.F.ok sc__law_term (fun vs H Q E h => ?_) (fun cdv A outer s H vs Q E hr h => ?_)
    · obtain ⟨_, _, _, _, _, rfl, _⟩ := h
      rfl
    obtain ⟨r, many, k, cc, hk, rfl, h6, h1, h2, hR, q⟩ := h
    refine ⟨_, (pss_cons (ps_if (pt_cmpR op_lt (pv 1) pe_int (nomark _)) (pss_one (ps_ret (pe_tup pa_nil))) pss_nil)
 (pss_cons (ps_set (i := 3) sc__law_term.nd rfl (Or.inl rfl) (pe_op op_fdiv (pv 2) pe_int))
 (pss_cons (ps_par (i := 4) (j := 5) (by rfl) sc__law_term.nd rfl rfl (by decide) rfl rfl (pa_cons (pe_callB (call_max2 rfl) (by rfl) B.max (by decide +kernel) (pa_cons pe_int (pa_cons (pe_op op_sub (pv 1) (pv 3)) pa_nil))) (pa_cons (pe_callB (call_min2 rfl) (by rfl) B.min (by decide +kernel) (pa_cons (pe_op op_sub (pv 1) pe_int) (pa_cons (pv 3) pa_nil))) pa_nil)) (by rfl))
 (pss_cons (ps_set (i := 6) sc__law_term.nd rfl (Or.inl rfl) (pe_op op_add (pv 4) (pe_call G__law_draw (hr.mono (by omega)) rfl d__law_draw.m d__law_draw.F.kp d__law_draw.b .nil pass0 (pa_cons (pv 0) (pa_cons (pe_op op_add (pe_op op_sub (pv 5) (pv 4)) pe_int) pa_nil)))))
 (pss_one (ps_ret (pe_tup (pa_cons (pe_call G__law_term hr rfl d__law_term.m d__law_term.F.kp d__law_term.b .nil pass0 (pa_cons (pv 0) (pa_cons (pv 6) (pa_cons (pv 3) pa_nil)))) (pa_cons (pe_call G__law_term hr rfl d__law_term.m d__law_term.F.kp d__law_term.b .nil pass0 (pa_cons (pv 0) (pa_cons (pe_op op_sub (pv 1) (pv 6)) (pa_cons (pv 3) pa_nil)))) pa_nil))))))))), ?_⟩
    refine ⟨_, rfl, _, _, rfl, rfl, _, rfl, ?_⟩
    refine ite2 (fun c => ?_) (fun c => ?_)
    · have c' : many < 2 := of_decide_eq_true c
      refine ⟨zero_le', fun p hp => ?_⟩
      refine q _ .L _ (ta_leaf (SqT.here upd_same)) (by show ((1 : Nat) : Int) = many; omega) (Nat.zero_le _) (hR.same (Same.new hp _)) (But.same (Same.new hp _))
    · have c' : ¬ many < 2 := of_decide_eq_false (Bool.eq_false_iff.mpr c)
      cases k with
      | zero => exact absurd h2 (by show ¬ many ≤ 1; omega)
      | succ k =>
        have hp : (0 : Int) < 2 ^ k := Int.pow_pos (by decide)
        have hp6 : (2 : Int) ^ k ≤ 2 ^ 6 := by
          have : (2 : Nat) ^ k ≤ 2 ^ 6 := Nat.pow_le_pow_right (by decide) (by omega)
          exact_mod_cast this
        have e2 : (2 : Int) ^ (k + 1) = 2 * 2 ^ k := by rw [Int.pow_succ]; omega
        have eh : (2 : Int) ^ (k + 1) / 2 = 2 ^ k := by rw [e2]; omega
        refine ⟨_, rfl, _, _, rfl, rfl, ⟨by decide, by decide⟩, ?_⟩
        rw [e2] at h2
        generalize hh : (2 : Int) ^ (k + 1) / 2 = half at eh
        refine ⟨_, rfl, _, rfl, _, _, rfl, rfl, _, _, rfl, _, rfl, _, _, rfl, rfl, _, rfl, _, _, rfl, _, _, rfl, ?_⟩
        have el : ∀ a b : Int, (if a > b then a else b) = max b a := fun a b => by
          by_cases h : a > b
          · rw [if_pos h]; omega
          · rw [if_neg h]; omega
        have em : ∀ a b : Int, (if a < b then a else b) = min b a := fun a b => by
          by_cases h : a < b
          · rw [if_pos h]; omega
          · rw [if_neg h]; omega
        generalize hlo : (if many - (2 : Int) ^ (k + 1) / 2 > 1 then many - (2 : Int) ^ (k + 1) / 2 else 1) = lo
        generalize hhi : (if (2 : Int) ^ (k + 1) / 2 < many - 1 then (2 : Int) ^ (k + 1) / 2 else many - 1) = hi
        rw [el, hh, eh] at hlo
        rw [em, hh, eh] at hhi
        have p6 : (2 : Int) ^ 6 = 64 := by decide
        refine ⟨_, rfl, _, rfl, _, rfl, _, rfl, _, _, rfl, rfl, _, _, rfl, rfl, r, hi - lo + 1, cc, rfl, hR, by omega, by omega, fun v H1 v0 v1 R1 b1 => ?_⟩
        refine ⟨_, _, rfl, rfl, ?_⟩
        refine ⟨_, rfl, _, rfl, _, rfl, r, lo + v, k, cc, by omega, ?_, by omega, by omega, by omega, R1, fun x tx H2 a2 z2 d2 R2 b2 => ?_⟩
        · show [V.ref r, V.int (lo + v), V.int ((2 : Int) ^ (k + 1) / 2)] = _
          rw [hh, eh]
        refine ⟨_, rfl, _, rfl, _, rfl, _, _, rfl, rfl, _, rfl, r, many - (lo + v), k, cc, by omega, ?_, by omega, by omega, by omega, R2, fun y ty H3 a3 z3 d3 R3 b3 => ?_⟩
        · show [V.ref r, V.int (many - (lo + v)), V.int ((2 : Int) ^ (k + 1) / 2)] = _
          rw [hh, eh]
        refine ⟨two_le, fun p hp' => ?_⟩
        obtain ⟨ys, l2⟩ := R2.lst
        have sn := Same.new hp' (.tup [x, y])
        refine q _ (.N tx ty) _ (ta_node (SqT.here upd_same) (ta_mono (Tp.same sn) (ta_mono (Tp.but l2 b3) a2)) (ta_mono (Tp.same sn) a3)) ?_ ?_ (R3.same sn) (((b1.trans b2).trans b3).trans (But.same sn))
        · show ((tx.sz + ty.sz : Nat) : Int) = many
          omega
        · show max tx.dp ty.dp + 1 ≤ k + 1
          omega
theorem ok__law_term {fr : Addr} {frd : FuncData} (d__law_term : D K mg "_law_term" s__law_term ["_law_rng", "_law_many", "_law_cap"] f fd) (B : Blt mg) (d__law_draw : D K mg "_law_draw" s__law_draw ["_law_rng", "_law_amount"] fr frd) (n : Nat) : FnOk P w K mg base CX0 (n + 1) f fd ["_law_rng", "_law_many", "_law_cap"] (spTerm K n) := (ok__law_termC d__law_term B d__law_draw n).imp fun _ _ _ _ => spTerm_C

abbrev s__law_any_term : Stmt := top 52
theorem sc__law_any_term : FnScope ["_law_rng", "_law_top", "_law_way", "_law_many"] ["_law_rng", "_law_top"] (defScope s__law_any_term) := ⟨rfl, rfl, rfl, by decide +kernel, rfl, by decide +kernel, by decide +kernel⟩
theorem ok__law_any_termC {fr fc ft : Addr} {frd fcd ftd : FuncData} (d__law_any_term : D K mg "_law_any_term" s__law_any_term ["_law_rng", "_law_top"] f fd) (B : Blt mg) (d__law_draw : D K mg "_law_draw" s__law_draw ["_law_rng", "_law_amount"] fr frd)
    (d__law_comb : D K mg "_law_comb" s__law_comb ["_law_many", "_law_onleft"] fc fcd) (d__law_term : D K mg "_law_term" s__law_term ["_law_rng", "_law_many", "_law_cap"] ft ftd) : FnOk P w K mg base CX0 9 f fd ["_law_rng", "_law_top"] (spAnyC K) := by
  have G__law_draw : FnOk P w K mg base CX0 1 fr frd ["_law_rng", "_law_amount"] spDrawC := ok__law_drawC d__law_draw B
  have G__law_comb : FnOk P w K mg base CX0 1 fc fcd ["_law_many", "_law_onleft"] (spComb K) := ok__law_comb d__law_comb B
  have G__law_term : FnOk P w K mg base CX0 8 ft ftd ["_law_rng", "_law_many", "_law_cap"] (spTermC K 7) := ok__law_termC d__law_term B d__law_draw 7
  refine d__law_any_term.F.ok sc__law_any_term (fun vs H Q E h => ?_) (fun cdv A outer s H vs Q E hr h => ?_)
  · obtain ⟨_, _, _, rfl, _⟩ := h
    rfl
  obtain ⟨r, n, cc, rfl, h1, h2, hR, q⟩ := h
  refine ⟨_, (pss_cons (ps_par (i := 2) (j := 3) (by rfl) sc__law_any_term.nd rfl rfl (by decide) rfl rfl (pa_cons (pe_call G__law_draw (hr.mono (by decide)) rfl d__law_draw.m d__law_draw.F.kp d__law_draw.b .nil pass0 (pa_cons (pv 0) (pa_cons pe_int pa_nil))) (pa_cons (pe_op op_add pe_int (pe_call G__law_draw (hr.mono (by decide)) rfl d__law_draw.m d__law_draw.F.kp d__law_draw.b .nil pass0 (pa_cons (pv 0) (pa_cons (pv 1) pa_nil)))) pa_nil)) (by rfl))
 (pss_cons (ps_if (pt_cmpR op_lt (pv 2) pe_int (nomark _)) (pss_one (ps_ret (pe_call G__law_comb (hr.mono (by decide)) rfl d__law_comb.m d__law_comb.F.kp d__law_comb.b .nil pass0 (pa_cons (pe_callB (call_min2 rfl) (by rfl) B.min (by decide +kernel) (pa_cons (pv 3) (pa_cons pe_int pa_nil))) (pa_cons (pe_cmpR op_eq (pv 2) pe_int (nomark _)) pa_nil))))) pss_nil)
 (pss_one (ps_ret (pe_call G__law_term (hr.mono (by decide)) rfl d__law_term.m d__law_term.F.kp d__law_term.b .nil pass0 (pa_cons (pv 0) (pa_cons (pv 3) (pa_cons pe_int pa_nil)))))))), ?_⟩
  refine ⟨_, rfl, r, 8, cc, rfl, hR, by decide, by decide, fun way H1 w0 w1 R1 b1 => ?_⟩
  refine ⟨_, rfl, _, rfl, r, n, cc, rfl, R1, by omega, by omega, fun m H2 m0 m1 R2 b2 => ?_⟩
  have b12 := b1.trans b2
  refine ⟨_, _, rfl, rfl, _, _, rfl, ?_⟩
  refine ⟨_, rfl, _, _, rfl, rfl, _, rfl, ?_⟩
  refine ite2 (fun c => ?_) (fun c => ?_)
  · refine ⟨_, rfl, _, _, rfl, _, rfl, rfl, (if 7 < 1 + m then 7 else 1 + m), decide (V.int way = V.int 0), rfl, ?_, ?_, fun v t H3 a3 z3 d3 s3 => ?_⟩
    · split <;> omega
    · split <;> omega
    · refine q v t H3 a3 ?_ ?_ (R2.same s3) (b12.trans (But.same s3))
      · rw [z3]
        split <;> omega
      · have : (t.dp : Int) ≤ 6 := by
          rw [d3]
          split <;> omega
        omega
  · refine ⟨_, rfl, _, rfl, r, 1 + m, 6, cc, by decide, rfl, by decide, by omega, by show 1 + m ≤ 64; omega, R2, fun v t H3 a3 z3 d3 R3 b3 => ?_⟩
    exact q v t H3 a3 (by omega) d3 R3 (b12.trans b3)
theorem ok__law_any_term {fr fc ft : Addr} {frd fcd ftd : FuncData} (d__law_any_term : D K mg "_law_any_term" s__law_any_term ["_law_rng", "_law_top"] f fd) (B : Blt mg) (d__law_draw : D K mg "_law_draw" s__law_draw ["_law_rng", "_law_amount"] fr frd)
    (d__law_comb : D K mg "_law_comb" s__law_comb ["_law_many", "_law_onleft"] fc fcd) (d__law_term : D K mg "_law_term" s__law_term ["_law_rng", "_law_many", "_law_cap"] ft ftd) : FnOk P w K mg base CX0 9 f fd ["_law_rng", "_law_top"] (spAny K) := (ok__law_any_termC d__law_any_term B d__law_draw d__law_comb d__law_term).imp fun _ _ _ _ => spAny_C

abbrev s__law_size : Stmt := top 53
theorem sc__law_size : FnScope ["_law_term_here"] ["_law_term_here"] (defScope s__law_size) := ⟨rfl, rfl, rfl, by decide +kernel, rfl, by decide +kernel, by decide +kernel⟩
theorem ok__law_size (d__law_size : D K mg "_law_size" s__law_size ["_law_term_here"] f fd) : ∀ n : Nat, FnOk P w K mg base CX0 n f fd ["_law_term_here"] (spTree K (fun t => .int t.sz) n)
  | 0 => fn_none spTree_no
  | n + 1 => by
    have G__law_size := ok__law_size d__law_size n
    refine d__law_size.F.ok sc__law_size (fun vs H Q E h => ?_) (fun cdv A outer s H vs Q E hr h => ?_)
    · obtain ⟨_, _, rfl, _⟩ := h
      rfl
    obtain ⟨v, t, rfl, ha, hd, hn, q⟩ := h
    refine ⟨_, (pss_one (ps_ret (pe_ifExp (pt_cmpR (op_eqD hr.units) (pv 0) (pe_tup pa_nil) (nomark _)) pe_int (pe_op op_add (pe_call G__law_size hr rfl d__law_size.m d__law_size.F.kp d__law_size.b .nil pass0 (pa_cons (pe_ix ix_tup (pv 0) pe_int (fun _ _ => rfl)) pa_nil)) (pe_call G__law_size hr rfl d__law_size.m d__law_size.F.kp d__law_size.b .nil pass0 (pa_cons (pe_ix ix_tup (pv 0) pe_int (fun _ _ => rfl)) pa_nil)))))), ?_⟩
    refine ⟨_, rfl, zero_le', fun p hp => ⟨t.d, .tuple [], ta_mono (Tp.same (Same.new hp _)) ha, Dp.tup (SqT.here upd_same) .nil, Tree.shaped (by omega), shapedE, _, rfl, ite_eq (Tree.eqvL t) ?_⟩⟩
    have s1 := Same.new hp (.tup [])
    cases t with
    | L => exact iteT (q _ s1)
    | N l r =>
      have hd : max l.dp r.dp + 1 < n + 1 := hd
      obtain ⟨b, x1, x2, rfl, hS, hL, hR⟩ := ta_invN (ta_mono (Tp.same s1) ha)
      refine iteF ⟨_, rfl, b, _, 0, _, rfl, rfl, hS, rfl, x1, l, rfl, hL, by omega, by omega, fun H2 s2 => ?_⟩
      refine ⟨_, rfl, b, _, 1, _, rfl, rfl, (Tp.same s2).sqT hS, rfl, x2, r, rfl, ta_mono (Tp.same s2) hR, by omega, by omega, fun H3 s3 => ?_⟩
      refine ⟨_, _, rfl, rfl, ?_⟩
      have e : ((Tree.N l r).sz : Int) = (l.sz : Int) + (r.sz : Int) := by
        show ((l.sz + r.sz : Nat) : Int) = _
        omega
      have q' := q H3 ((s1.trans s2).trans s3)
      show Q (.int ((l.sz : Int) + (r.sz : Int))) H3
      rw [← e]
      exact q'

abbrev s__law_format : Stmt := top 54
theorem sc__law_format : FnScope ["_law_term_here"] ["_law_term_here"] (defScope s__law_format) := ⟨rfl, rfl, rfl, by decide +kernel, rfl, by decide +kernel, by decide +kernel⟩
theorem ok__law_format (d__law_format : D K mg "_law_format" s__law_format ["_law_term_here"] f fd) : ∀ n : Nat, FnOk P w K mg base CX0 n f fd ["_law_term_here"] (spText K n)
  | 0 => fn_none spText_no
  | n + 1 => by
    have G__law_format := ok__law_format d__law_format n
    refine d__law_format.F.ok sc__law_format (fun vs H Q E h => ?_) (fun cdv A outer s H vs Q E hr h => ?_)
    · obtain ⟨_, _, rfl, _⟩ := h
      rfl
    obtain ⟨v, t, rfl, ha, hd, hn, hz, q⟩ := h
    refine ⟨_, (pss_one (ps_ret (pe_ifExp (pt_cmpR (op_eqD hr.units) (pv 0) (pe_tup pa_nil) (nomark _)) pe_str (pe_op op_add_str (pe_op op_add_str (pe_op op_add_str pe_str (pe_call G__law_format hr rfl d__law_format.m d__law_format.F.kp d__law_format.b .nil pass0 (pa_cons (pe_ix ix_tup (pv 0) pe_int (fun _ _ => rfl)) pa_nil))) (pe_call G__law_format hr rfl d__law_format.m d__law_format.F.kp d__law_format.b .nil pass0 (pa_cons (pe_ix ix_tup (pv 0) pe_int (fun _ _ => rfl)) pa_nil))) pe_str)))), ?_⟩
    refine ⟨_, rfl, zero_le', fun p hp => ⟨t.d, .tuple [], ta_mono (Tp.same (Same.new hp _)) ha, Dp.tup (SqT.here upd_same) .nil, Tree.shaped (by omega), shapedE, _, rfl, ite_eq (Tree.eqvL t) ?_⟩⟩
    have s1 := Same.new hp (.tup [])
    cases t with
    | L => exact iteT (q _ s1)
    | N l r =>
      have hd : max l.dp r.dp + 1 < n + 1 := hd
      have hz : l.sz + r.sz ≤ 1000 := hz
      have l1 := tlen (t := l) (by omega)
      have l2 := tlen (t := r) (by omega)
      have lo : (Str.ofString "(").length = 1 := rfl
      have lc : (Str.ofString ")").length = 1 := rfl
      obtain ⟨b, x1, x2, rfl, hS, hL, hR⟩ := ta_invN (ta_mono (Tp.same s1) ha)
      refine iteF ⟨_, rfl, b, _, 0, _, rfl, rfl, hS, rfl, x1, l, rfl, hL, by omega, by omega, by omega, fun H2 s2 => ⟨_, _, rfl, rfl, fits (by omega), ?_⟩⟩
      refine ⟨_, rfl, b, _, 1, _, rfl, rfl, (Tp.same s2).sqT hS, rfl, x2, r, rfl, ta_mono (Tp.same s2) hR, by omega, by omega, by omega, fun H3 s3 => ⟨_, _, rfl, rfl, fits (by rw [slen]; omega), _, _, rfl, rfl, fits (by rw [slen, slen]; omega), ?_⟩⟩
      have q' := q H3 ((s1.trans s2).trans s3)
      rw [← Tree.txtN] at q'
      exact q'

abbrev s__law_paths : Stmt := top 55
theorem sc__law_paths : FnScope ["_law_term_here", "_law_spot"] ["_law_term_here", "_law_spot"] (defScope s__law_paths) := ⟨rfl, rfl, rfl, by decide +kernel, rfl, by decide +kernel, by decide +kernel⟩
theorem ok__law_paths (d__law_paths : D K mg "_law_paths" s__law_paths ["_law_term_here", "_law_spot"] f fd) : ∀ n : Nat, FnOk P w K mg base CX0 (n + 1) f fd ["_law_term_here", "_law_spot"] (spPts K n)
  | 0 => fn_none fun vs H Q E h => by
    obtain ⟨_, _, _, _, _, h, _⟩ := h
    omega
  | n + 1 => by
    have G__law_paths := ok__law_paths d__law_paths n
    refine d__law_paths.F.ok sc__law_paths (fun vs H Q E h => ?_) (fun cdv A outer s H vs Q E hr h => ?_)
    · obtain ⟨_, _, _, rfl, _⟩ := h
      rfl
    obtain ⟨v, t, p, rfl, ha, hn, hn2, hnd, hpl, q⟩ := h
    refine ⟨_, (pss_cons (ps_if (pt_cmpR (op_eqD hr.units) (pv 0) (pe_tup pa_nil) (nomark _)) (pss_one (ps_ret (pe_lst (pa_cons (pv 1) pa_nil)))) pss_nil)
 (pss_one (ps_ret (pe_op op_cat (pe_op op_cat (pe_lst (pa_cons (pv 1) pa_nil)) (pe_call G__law_paths hr rfl d__law_paths.m d__law_paths.F.kp d__law_paths.b .nil pass0 (pa_cons (pe_ix ix_tup (pv 0) pe_int (fun _ _ => rfl)) (pa_cons (pe_op op_add_str (pv 1) pe_str) pa_nil)))) (pe_call G__law_paths hr rfl d__law_paths.m d__law_paths.F.kp d__law_paths.b .nil pass0 (pa_cons (pe_ix ix_tup (pv 0) pe_int (fun _ _ => rfl)) (pa_cons (pe_op op_add_str (pv 1) pe_str) pa_nil))))))), ?_⟩
    refine ⟨_, rfl, zero_le', fun p5 hp5 => ⟨t.d, .tuple [], ta_mono (Tp.same (Same.new hp5 _)) ha, Dp.tup (SqT.here upd_same) .nil, Tree.shaped (by omega), shapedE, _, rfl, ite_eq (Tree.eqvL t) ?_⟩⟩
    have s1 := Same.new hp5 (.tup [])
    cases t with
    | L => exact iteT ⟨_, rfl, one_le, fun l nl => q l _ (s1.trans (Same.new nl _)) (s1.free nl) upd_same⟩
    | N l r =>
      have hn : max l.dp r.dp + 1 < n + 1 := hn
      have hnd : l.nodes + r.nodes + 1 ≤ 1000 := hnd
      have hpl : p.length + (max l.dp r.dp + 1) ≤ 60 := hpl
      obtain ⟨b, x1, x2, rfl, hS, hL, hR⟩ := ta_invN (ta_mono (Tp.same s1) ha)
      refine iteF ⟨_, rfl, one_le, fun l0 nl0 => ?_⟩
      have s2 := Same.new nl0 (.lst [.str (ptx p)])
      refine ⟨_, rfl, b, _, 0, _, rfl, rfl, (Tp.same s2).sqT hS, rfl, _, rfl, _, _, rfl, rfl, ?_, ?_⟩
      · rw [ptx_len]
        exact fits (by show p.length + 1 ≤ 10000; omega)
      rw [ptx_snoc0]
      refine ⟨x1, l, p ++ [false], rfl, ta_mono (Tp.same s2) hL, by omega, by omega, by omega, by rw [List.length_append, List.length_singleton]; omega, fun l1 H3 s3 nl1 h1 => ?_⟩
      refine ⟨l0, l1, _, _, rfl, rfl, s3 _ _ upd_same, h1, ?_, fun l2 nl2 => ?_⟩
      · rw [ptxs_len, Tree.pts_len]
        exact fits (by show 1 + l.nodes ≤ 10000; omega)
      have s4 := Same.new nl2 (.lst ([.str (ptx p)] ++ ptxs (l.pts (p ++ [false]))))
      have s24 := s2.trans (s3.trans s4)
      refine ⟨_, rfl, b, _, 1, _, rfl, rfl, (Tp.same s24).sqT hS, rfl, _, rfl, _, _, rfl, rfl, ?_, ?_⟩
      · rw [ptx_len]
        exact fits (by show p.length + 1 ≤ 10000; omega)
      rw [ptx_snoc1]
      refine ⟨x2, r, p ++ [true], rfl, ta_mono (Tp.same s24) hR, by omega, by omega, by omega, by rw [List.length_append, List.length_singleton]; omega, fun l3 H5 s5 nl3 h3 => ?_⟩
      refine ⟨l2, l3, _, _, rfl, rfl, s5 _ _ upd_same, h3, ?_, fun l4 nl4 => ?_⟩
      · rw [List.length_append, ptxs_len, Tree.pts_len, ptxs_len, Tree.pts_len]
        exact fits (by show 1 + l.nodes + r.nodes ≤ 10000; omega)
      have sA := s1.trans (s24.trans s5)
      refine q l4 _ (sA.trans (Same.new nl4 _)) (sA.free nl4) ?_
      rw [upd_same]
      show _ = some (HO.lst (ptxs (([p] ++ l.pts (p ++ [false])) ++ r.pts (p ++ [true]))))
      rw [ptxs_app, ptxs_app]
      rfl

abbrev s__law_subterm : Stmt := top 56
theorem sc__law_subterm : FnScope ["_law_term_here", "_law_spot", "_law_sign"] ["_law_term_here", "_law_spot"] (defScope s__law_subterm) := ⟨rfl, rfl, rfl, by decide +kernel, rfl, by decide +kernel, by decide +kernel⟩
theorem ok__law_subterm (d : D K mg "_law_subterm" s__law_subterm ["_law_term_here", "_law_spot"] f fd) : FnOk P w K mg base CX0 1 f fd ["_law_term_here", "_law_spot"] (spStN K) := by
  refine d.F.ok sc__law_subterm (fun vs H Q E h => ?_) (fun cdv A outer s H vs Q E hr h => ?_)
  · obtain ⟨_, _, _, rfl, _⟩ := h
    rfl
  obtain ⟨v, t, p, rfl, ha, hd, qn, q⟩ := h
  refine ⟨_, (pss_cons (ps_for PassesOwn.never rfl (pi_str (pv 1)) (pg_name (i := 2) sc__law_subterm.nd rfl (Or.inl rfl))
  (pss_cons (ps_if (pt_cmpR (op_eqD hr.units) (pv 0) (pe_tup pa_nil) (nomark _)) (pss_one (ps_ret pe_non)) pss_nil)
 (pss_one (ps_set (i := 0) sc__law_subterm.nd rfl (Or.inl rfl) (pe_ifExp (pt_cmpR op_eq (pv 2) pe_str (nomark _)) (pe_ix ix_tup (pv 0) pe_int (fun _ _ => rfl)) (pe_ix ix_tup (pv 0) pe_int (fun _ _ => rfl)))))))
 (pss_one (ps_ret (pv 0)))), ?_⟩
  refine ⟨_, rfl, ptx p, rfl, for_S (z := ptx p) (fun j σ G => ∃ (v : V) (u : Tree) (x : Option V), σ = [some v, some (.str (ptx p)), x] ∧ TA K G v u ∧ u.dp ≤ 60 ∧ Same H G ∧ t.st p = u.st (p.drop j)) ⟨v, t, none, rfl, ha, hd, Same.refl _, rfl⟩ ?_ ?_⟩
  · rintro j c σ G hc ⟨v, u, x, rfl, ha, hd, sm, hst⟩
    obtain ⟨b, hb, rfl⟩ := pcs_at p j c hc
    obtain ⟨hj, eb⟩ := List.getElem?_eq_some_iff.mp hb
    rw [List.drop_eq_getElem_cons hj, eb] at hst
    refine ⟨_, rfl, zero_le', fun p5 hp5 => ⟨u.d, .tuple [], ta_mono (Tp.same (Same.new hp5 _)) ha, Dp.tup (SqT.here upd_same) .nil, Tree.shaped (by omega), shapedE, _, rfl, ite_eq (Tree.eqvL _) ?_⟩⟩
    have s5 := Same.new hp5 (.tup [])
    cases u with
    | L => exact iteT (qn hst _ (sm.trans s5))
    | N l r =>
      have hd : max l.dp r.dp + 1 ≤ 60 := hd
      obtain ⟨q1, x1, x2, rfl, hS, hL, hR⟩ := ta_invN (ta_mono (Tp.same s5) ha)
      refine iteF ?_
      cases b with
      | false =>
        refine ⟨_, rfl, rfl, _, rfl, ite_yes (by decide +kernel) ⟨_, rfl, q1, _, 0, _, rfl, rfl, hS, rfl, ?_⟩⟩
        exact ⟨x1, l, _, rfl, hL, by omega, sm.trans s5, hst⟩
      | true =>
        refine ⟨_, rfl, rfl, _, rfl, ite_no (by decide +kernel) ⟨_, rfl, q1, _, 1, _, rfl, rfl, hS, rfl, ?_⟩⟩
        exact ⟨x2, r, _, rfl, hR, by omega, sm.trans s5, hst⟩
  · rintro σ G ⟨v, u, x, rfl, ha, hd, sm, hst⟩
    rw [ptx_size, List.drop_eq_nil_of_le (Nat.le_refl _), Tree.st_nil] at hst
    exact ⟨_, rfl, q u hst v G ha sm⟩

abbrev s__law_replace : Stmt := top 57
theorem sc__law_replace : FnScope ["_law_term_here", "_law_spot", "_law_new"] ["_law_term_here", "_law_spot", "_law_new"] (defScope s__law_replace) := ⟨rfl, rfl, rfl, by decide +kernel, rfl, by decide +kernel, by decide +kernel⟩
theorem ok__law_replace (d__law_replace : D K mg "_law_replace" s__law_replace ["_law_term_here", "_law_spot", "_law_new"] f fd) : ∀ n : Nat, FnOk P w K mg base CX0 n f fd ["_law_term_here", "_law_spot", "_law_new"] (spRp K n)
  | 0 => fn_none fun vs H Q E h => by
    obtain ⟨_, _, _, _, _, _, _, _, _, h, _⟩ := h
    omega
  | n + 1 => by
    have G__law_replace := ok__law_replace d__law_replace n
    refine d__law_replace.F.ok sc__law_replace (fun vs H Q E h => ?_) (fun cdv A outer s H vs Q E hr h => ?_)
    · obtain ⟨_, _, _, _, _, _, rfl, _⟩ := h
      rfl
    obtain ⟨v, w', t, u, t', p, rfl, ha, hu, hp, hn, hrp, q⟩ := h
    refine ⟨_, (pss_cons (ps_if (pt_cmpR op_eq (pv 1) pe_str (nomark _)) (pss_one (ps_ret (pv 2))) pss_nil)
 (pss_cons (ps_if (pt_cmpR op_eq (pe_ix ix_str (pv 1) pe_int (fun _ _ => rfl)) pe_str (nomark _)) (pss_one (ps_ret (pe_tup (pa_cons (pe_call G__law_replace hr rfl d__law_replace.m d__law_replace.F.kp d__law_replace.b .nil pass0 (pa_cons (pe_ix ix_tup (pv 0) pe_int (fun _ _ => rfl)) (pa_cons (pe_slice sl_str (pv 1) (po_some pe_int) po_none) (pa_cons (pv 2) pa_nil)))) (pa_cons (pe_ix ix_tup (pv 0) pe_int (fun _ _ => rfl)) pa_nil))))) pss_nil)
 (pss_one (ps_ret (pe_tup (pa_cons (pe_ix ix_tup (pv 0) pe_int (fun _ _ => rfl)) (pa_cons (pe_call G__law_replace hr rfl d__law_replace.m d__law_replace.F.kp d__law_replace.b .nil pass0 (pa_cons (pe_ix ix_tup (pv 0) pe_int (fun _ _ => rfl)) (pa_cons (pe_slice sl_str (pv 1) (po_some pe_int) po_none) (pa_cons (pv 2) pa_nil)))) pa_nil))))))), ?_⟩
    cases p with
    | nil =>
      rw [Tree.rp_nil] at hrp
      cases hrp
      exact ⟨_, rfl, rfl, _, rfl, ite_yes (by decide +kernel) ⟨_, rfl, q w' H hu (Same.refl _)⟩⟩
    | cons b p =>
      have hp : p.length + 1 < n + 1 := hp
      have lp : (ptx (b :: p)).length ≤ sizeLine := by
        rw [ptx_len]
        show p.length + 1 ≤ _
        exact fits (by omega)
      have at0 : atI (ptx (b :: p)).cps.toList 0 = some (if b then 49 else 48) := by
        rw [ptx_cps]
        exact atI_nat (j := 0) rfl
      cases t with
      | L => cases hrp
      | N l r =>
        obtain ⟨q1, x1, x2, rfl, hS, hL, hR⟩ := ta_invN ha
        refine ⟨_, rfl, rfl, _, rfl, ite_no (not_empty b p) ?_⟩
        cases b with
        | false =>
          have hrp : (l.rp p u).map (fun l' => Tree.N l' r) = some t' := hrp
          cases e : l.rp p u with
          | none =>
            rw [e] at hrp
            cases hrp
          | some l' =>
            rw [e] at hrp
            cases hrp
            refine ⟨_, rfl, _, 0, _, rfl, rfl, lp, at0, rfl, _, rfl, ite_yes (by decide +kernel) ?_⟩
            refine ⟨_, rfl, q1, _, 0, _, rfl, rfl, hS, rfl, _, rfl, 1, rfl, _, rfl, lp, ?_⟩
            rw [ptx_tail]
            refine ⟨_, rfl, x1, w', l, u, l', p, rfl, hL, hu, by omega, by omega, e, fun y H2 t2 s2 => ?_⟩
            refine ⟨_, rfl, q1, _, 1, _, rfl, rfl, (Tp.same s2).sqT hS, rfl, two_le, fun p3 hp3 => ?_⟩
            have s3 := Same.new hp3 (.tup [y, x2])
            exact q _ _ (ta_node (SqT.here upd_same) (ta_mono (Tp.same s3) t2) (ta_mono (Tp.same (s2.trans s3)) hR)) (s2.trans s3)
        | true =>
          have hrp : (r.rp p u).map (fun r' => Tree.N l r') = some t' := hrp
          cases e : r.rp p u with
          | none =>
            rw [e] at hrp
            cases hrp
          | some r' =>
            rw [e] at hrp
            cases hrp
            refine ⟨_, rfl, _, 0, _, rfl, rfl, lp, at0, rfl, _, rfl, ite_no (by decide +kernel) ?_⟩
            refine ⟨_, rfl, q1, _, 0, _, rfl, rfl, hS, rfl, _, rfl, q1, _, 1, _, rfl, rfl, hS, rfl, _, rfl, 1, rfl, _, rfl, lp, ?_⟩
            rw [ptx_tail]
            refine ⟨_, rfl, x2, w', r, u, r', p, rfl, hR, hu, by omega, by omega, e, fun y H2 t2 s2 => ⟨two_le, fun p3 hp3 => ?_⟩⟩
            have s3 := Same.new hp3 (.tup [x1, y])
            exact q _ _ (ta_node (SqT.here upd_same) (ta_mono (Tp.same (s2.trans s3)) hL) (ta_mono (Tp.same s3) t2)) (s2.trans s3)

abbrev s__law_expanded : Stmt := top 58
theorem sc__law_expanded : FnScope ["_law_some"] ["_law_some"] (defScope s__law_expanded) := ⟨rfl, rfl, rfl, by decide +kernel, rfl, by decide +kernel, by decide +kernel⟩
theorem ok__law_expanded (d : D K mg "_law_expanded" s__law_expanded ["_law_some"] f fd) : FnOk P w K mg base CX0 1 f fd ["_law_some"] (spR0 K true) := by
  refine d.F.ok sc__law_expanded (fun vs H Q E h => ?_) (fun cdv A outer s H vs Q E hr h => ?_)
  · obtain ⟨_, _, rfl, _⟩ := h
    rfl
  obtain ⟨v, t, rfl, ha, hd, qn, q⟩ := h
  refine ⟨_, (pss_cons (ps_if (PW.pt (pw_or (pt_cmpR (op_eqD hr.units) (pv 0) (pe_tup pa_nil) (nomark _)) (pw_or1 (pt_cmpR (op_eqD hr.units) (pe_ix ix_tup (pv 0) pe_int (fun _ _ => rfl)) (pe_tup pa_nil) (nomark _))))) (pss_one (ps_ret pe_non)) pss_nil)
 (pss_one (ps_ret (pe_tup (pa_cons (pe_tup (pa_cons (pe_ix ix_tup (pv 0) pe_int (fun _ _ => rfl)) (pa_cons (pe_ix ix_tup (pe_ix ix_tup (pv 0) pe_int (fun _ _ => rfl)) pe_int (fun _ _ => rfl)) pa_nil))) (pa_cons (pe_tup (pa_cons (pe_ix ix_tup (pv 0) pe_int (fun _ _ => rfl)) (pa_cons (pe_ix ix_tup (pe_ix ix_tup (pv 0) pe_int (fun _ _ => rfl)) pe_int (fun _ _ => rfl)) pa_nil))) pa_nil)))))), ?_⟩
  refine ⟨_, rfl, zero_le', fun p hp => ⟨t.d, .tuple [], ta_mono (Tp.same (Same.new hp _)) ha, Dp.tup (SqT.here upd_same) .nil, Tree.shaped (by omega), shapedE, _, rfl, ite_eq (Tree.eqvL _) ?_⟩⟩
  have s1 := Same.new hp (.tup [])
  cases t with
  | L => exact iteT (iteT (qn rfl _ s1))
  | N a r =>
    have hd : max a.dp r.dp + 1 ≤ 60 := hd
    obtain ⟨q1, x1, x2, rfl, hS, hL, hR⟩ := ta_invN (ta_mono (Tp.same s1) ha)
    refine iteF ⟨_, rfl, q1, _, 1, _, rfl, rfl, hS, rfl, zero_le', fun p2 hp2 => ⟨r.d, .tuple [], ta_mono (Tp.same (Same.new hp2 _)) hR, Dp.tup (SqT.here upd_same) .nil, Tree.shaped (by omega), shapedE, _, rfl, ite_eq (Tree.eqvL _) ?_⟩⟩
    have s2 := Same.new hp2 (.tup [])
    cases r with
    | L => exact iteT (qn rfl _ (s1.trans s2))
    | N b c =>
      obtain ⟨q2, y1, y2, rfl, hS2, hL2, hR2⟩ := ta_invN hR
      refine iteF ?_
      refine ⟨_, rfl, q1, _, 0, _, rfl, rfl, (Tp.same s2).sqT hS, rfl, _, rfl, q1, _, 1, _, rfl, rfl, (Tp.same s2).sqT hS, rfl, q2, _, 0, _, rfl, rfl, (Tp.same s2).sqT hS2, rfl, two_le, fun p3 hp3 => ?_⟩
      have s3 := s2.trans (Same.new hp3 (.tup [x1, y1]))
      refine ⟨_, rfl, q1, _, 0, _, rfl, rfl, (Tp.same s3).sqT hS, rfl, _, rfl, q1, _, 1, _, rfl, rfl, (Tp.same s3).sqT hS, rfl, q2, _, 1, _, rfl, rfl, (Tp.same s3).sqT hS2, rfl, two_le, fun p4 hp4 => ⟨two_le, fun p5 hp5 => ?_⟩⟩
      have s4 := Same.new hp4 (.tup [x1, y2])
      have s5 := Same.new hp5 (.tup [.ref p3, .ref p4])
      have s35 := (s3.trans s4).trans s5
      refine q (.N (.N a b) (.N a c)) rfl _ _ (ta_node (SqT.here upd_same) (ta_node (SqT.here (s5 _ _ (s4 _ _ upd_same))) (ta_mono (Tp.same s35) hL) (ta_mono (Tp.same s35) hL2)) (ta_node (SqT.here (s5 _ _ upd_same)) (ta_mono (Tp.same s35) hL) (ta_mono (Tp.same s35) hR2))) (s1.trans s35)

abbrev s__law_contracted : Stmt := top 59
theorem sc__law_contracted : FnScope ["_law_some"] ["_law_some"] (defScope s__law_contracted) := ⟨rfl, rfl, rfl, by decide +kernel, rfl, by decide +kernel, by decide +kernel⟩
theorem ok__law_contracted (d : D K mg "_law_contracted" s__law_contracted ["_law_some"] f fd) : FnOk P w K mg base CX0 1 f fd ["_law_some"] (spR0 K false) := by
  refine d.F.ok sc__law_contracted (fun vs H Q E h => ?_) (fun cdv A outer s H vs Q E hr h => ?_)
  · obtain ⟨_, _, rfl, _⟩ := h
    rfl
  obtain ⟨v, t, rfl, ha, hd, qn, q⟩ := h
  refine ⟨_, (pss_cons (ps_if (PW.pt (pw_or (pt_cmpR (op_eqD hr.units) (pv 0) (pe_tup pa_nil) (nomark _)) (pw_or (pt_cmpR (op_eqD hr.units) (pe_ix ix_tup (pv 0) pe_int (fun _ _ => rfl)) (pe_tup pa_nil) (nomark _)) (pw_or (pt_cmpR (op_eqD hr.units) (pe_ix ix_tup (pv 0) pe_int (fun _ _ => rfl)) (pe_tup pa_nil) (nomark _)) (pw_or1 (pt_cmpR (op_neD hr.units) (pe_ix ix_tup (pe_ix ix_tup (pv 0) pe_int (fun _ _ => rfl)) pe_int (fun _ _ => rfl)) (pe_ix ix_tup (pe_ix ix_tup (pv 0) pe_int (fun _ _ => rfl)) pe_int (fun _ _ => rfl)) (nomark _))))))) (pss_one (ps_ret pe_non)) pss_nil)
 (pss_one (ps_ret (pe_tup (pa_cons (pe_ix ix_tup (pe_ix ix_tup (pv 0) pe_int (fun _ _ => rfl)) pe_int (fun _ _ => rfl)) (pa_cons (pe_tup (pa_cons (pe_ix ix_tup (pe_ix ix_tup (pv 0) pe_int (fun _ _ => rfl)) pe_int (fun _ _ => rfl)) (pa_cons (pe_ix ix_tup (pe_ix ix_tup (pv 0) pe_int (fun _ _ => rfl)) pe_int (fun _ _ => rfl)) pa_nil))) pa_nil)))))), ?_⟩
  refine ⟨_, rfl, zero_le', fun p hp => ⟨t.d, .tuple [], ta_mono (Tp.same (Same.new hp _)) ha, Dp.tup (SqT.here upd_same) .nil, Tree.shaped (by omega), shapedE, _, rfl, ite_eq (Tree.eqvL _) ?_⟩⟩
  have s1 := Same.new hp (.tup [])
  cases t with
  | L => exact iteT (iteT (qn rfl _ s1))
  | N l r =>
    have hd : max l.dp r.dp + 1 ≤ 60 := hd
    obtain ⟨q1, x1, x2, rfl, hS, hL, hR⟩ := ta_invN (ta_mono (Tp.same s1) ha)
    refine iteF ⟨_, rfl, q1, _, 0, _, rfl, rfl, hS, rfl, zero_le', fun p2 hp2 => ⟨l.d, .tuple [], ta_mono (Tp.same (Same.new hp2 _)) hL, Dp.tup (SqT.here upd_same) .nil, Tree.shaped (by omega), shapedE, _, rfl, ite_eq (Tree.eqvL _) ?_⟩⟩
    have s2 := Same.new hp2 (.tup [])
    cases l with
    | L => exact iteT (iteT (qn rfl _ (s1.trans s2)))
    | N a b =>
      refine iteF ⟨_, rfl, q1, _, 1, _, rfl, rfl, (Tp.same s2).sqT hS, rfl, zero_le', fun p3 hp3 => ⟨r.d, .tuple [], ta_mono (Tp.same (s2.trans (Same.new hp3 _))) hR, Dp.tup (SqT.here upd_same) .nil, Tree.shaped (by omega), shapedE, _, rfl, ite_eq (Tree.eqvL _) ?_⟩⟩
      have s3 := s2.trans (Same.new hp3 (.tup []))
      cases r with
      | L => exact iteT (iteT (qn rfl _ (s1.trans s3)))
      | N a' c =>
        have hd : max (max a.dp b.dp + 1) (max a'.dp c.dp + 1) + 1 ≤ 60 := hd
        have hS := (Tp.same s3).sqT hS
        obtain ⟨q2, y1, y2, rfl, hS2, hL2, hR2⟩ := ta_invN (ta_mono (Tp.same s3) hL)
        obtain ⟨q3, z1, z2, rfl, hS3, hL3, hR3⟩ := ta_invN (ta_mono (Tp.same s3) hR)
        refine iteF ⟨_, rfl, q1, _, 0, _, rfl, rfl, hS, rfl, q2, _, 0, _, rfl, rfl, hS2, rfl, _, rfl, q1, _, 1, _, rfl, rfl, hS, rfl, q3, _, 0, _, rfl, rfl, hS3, rfl, a.d, a'.d, hL2, hL3, Tree.shaped (by omega), Tree.shaped (by omega), _, rfl, ite_eq (congrArg not (Tree.eqvT a a')) ?_⟩
        cases e : a.eqb a' with
        | false =>
          refine iteT (qn ?_ _ (s1.trans s3))
          show (if a.eqb a' = true then some (Tree.N a (.N b c)) else none) = none
          rw [e]
          rfl
        | true =>
          refine iteF ?_
          refine ⟨_, rfl, q1, _, 0, _, rfl, rfl, hS, rfl, q2, _, 0, _, rfl, rfl, hS2, rfl, _, rfl, q1, _, 0, _, rfl, rfl, hS, rfl, q2, _, 1, _, rfl, rfl, hS2, rfl, _, rfl, q1, _, 1, _, rfl, rfl, hS, rfl, q3, _, 1, _, rfl, rfl, hS3, rfl, two_le, fun p4 hp4 => ⟨two_le, fun p5 hp5 => ?_⟩⟩
          have s4 := Same.new hp4 (.tup [y2, z2])
          have s5 := Same.new hp5 (.tup [y1, .ref p4])
          refine q (.N a (.N b c)) ?_ _ _ (ta_node (SqT.here upd_same) (ta_mono (Tp.same (s4.trans s5)) hL2) (ta_node (SqT.here (s5 _ _ upd_same)) (ta_mono (Tp.same (s4.trans s5)) hR2) (ta_mono (Tp.same (s4.trans s5)) hR3))) ((s1.trans s3).trans (s4.trans s5))
          show (if a.eqb a' = true then some (Tree.N a (.N b c)) else none) = _
          rw [e]
          rfl

abbrev s__law_rewrite : Stmt := top 60
theorem sc__law_rewrite : FnScope ["_law_term_here", "_law_spot", "_law_onward", "_law_current", "_law_new"] ["_law_term_here", "_law_spot", "_law_onward"] (defScope s__law_rewrite) := ⟨rfl, rfl, rfl, by decide +kernel, rfl, by decide +kernel, by decide +kernel⟩
theorem ta_ne {H : Hp} {v : V} {t : Tree} (h : TA K H v t) : decide (v = V.non) = false := by
  obtain ⟨a, xs, rfl, _⟩ := ta_inv h
  exact decide_eq_false fun z => by cases z
theorem ok__law_rewrite {f1 f2 f3 f4 : Addr} {e1 e2 e3 e4 : FuncData} (d : D K mg "_law_rewrite" s__law_rewrite ["_law_term_here", "_law_spot", "_law_onward"] f fd) (d__law_subterm : D K mg "_law_subterm" s__law_subterm ["_law_term_here", "_law_spot"] f1 e1) (d__law_expanded : D K mg "_law_expanded" s__law_expanded ["_law_some"] f2 e2)
    (d__law_replace : D K mg "_law_replace" s__law_replace ["_law_term_here", "_law_spot", "_law_new"] f3 e3) (d__law_contracted : D K mg "_law_contracted" s__law_contracted ["_law_some"] f4 e4) (n : Nat) : FnOk P w K mg base CX0 (n + 1 + 1) f fd ["_law_term_here", "_law_spot", "_law_onward"] (spRwN K n) := by
  have G__law_subterm : FnOk P w K mg base CX0 1 f1 e1 ["_law_term_here", "_law_spot"] (spStN K) := ok__law_subterm d__law_subterm
  have G__law_expanded : FnOk P w K mg base CX0 1 f2 e2 ["_law_some"] (spR0 K true) := ok__law_expanded d__law_expanded
  have G__law_contracted : FnOk P w K mg base CX0 1 f4 e4 ["_law_some"] (spR0 K false) := ok__law_contracted d__law_contracted
  have G__law_replace : FnOk P w K mg base CX0 n f3 e3 ["_law_term_here", "_law_spot", "_law_new"] (spRp K n) := ok__law_replace d__law_replace n
  refine d.F.ok sc__law_rewrite (fun vs H Q E h => ?_) (fun cdv A outer s H vs Q E hr h => ?_)
  · obtain ⟨_, _, _, _, rfl, _⟩ := h
    rfl
  obtain ⟨v, t, p, on, rfl, ha, hd, hp, hn, qn, q⟩ := h
  refine ⟨_, (pss_cons (ps_set (i := 3) sc__law_rewrite.nd rfl (Or.inl rfl) (pe_call G__law_subterm (hr.mono (by omega)) rfl d__law_subterm.m d__law_subterm.F.kp d__law_subterm.b .nil pass0 (pa_cons (pv 0) (pa_cons (pv 1) pa_nil))))
 (pss_cons (ps_set (i := 4) sc__law_rewrite.nd rfl (Or.inl rfl) pe_non)
 (pss_cons (ps_if (pt_cmpR op_notN (pv 3) pe_non (nomark _)) (pss_one (ps_set (i := 4) sc__law_rewrite.nd rfl (Or.inl rfl) (pe_ifExp (pt_truth (pv 2) (by intro _; rfl)) (pe_call G__law_expanded (hr.mono (by omega)) rfl d__law_expanded.m d__law_expanded.F.kp d__law_expanded.b .nil pass0 (pa_cons (pv 3) pa_nil)) (pe_call G__law_contracted (hr.mono (by omega)) rfl d__law_contracted.m d__law_contracted.F.kp d__law_contracted.b .nil pass0 (pa_cons (pv 3) pa_nil))))) pss_nil)
 (pss_one (ps_ret (pe_ifExp (pt_cmpR op_isN (pv 4) pe_non (nomark _)) pe_non (pe_call G__law_replace (hr.mono (by omega)) rfl d__law_replace.m d__law_replace.F.kp d__law_replace.b .nil pass0 (pa_cons (pv 0) (pa_cons (pv 1) (pa_cons (pv 4) pa_nil)))))))))), ?_⟩
  refine ⟨_, rfl, _, rfl, v, t, p, rfl, ha, hd, fun hz H1 s1 => ?_, fun u hz x H1 a1 s1 => ?_⟩
  · refine ⟨_, rfl, rfl, _, rfl, ite_no rfl ?_⟩
    refine ⟨_, rfl, rfl, _, rfl, ite_yes rfl (qn ?_ H1 s1)⟩
    unfold Tree.rwt
    rw [hz]
    rfl
  have hl := Tree.st_len t p u hz
  have hW : t.rwt on p = (u.r0 on).bind fun u' => t.rp p u' := by
    unfold Tree.rwt
    rw [hz]
    rfl
  refine ⟨_, rfl, rfl, _, rfl, ite_yes (by rw [ta_ne a1]; rfl) ?_⟩
  have fin : ∀ (u' : Tree), u.r0 on = some u' → ∀ (y : V) (H2 : Hp), TA K H2 y u' → Same H1 H2 → ∃ t', t.rp p u' = some t' ∧ t.rwt on p = some t' := fun u' e y H2 _ _ => by
    obtain ⟨t', e'⟩ := Tree.rp_some u' t p u hz
    refine ⟨t', e', ?_⟩
    rw [hW, e]
    exact e'
  have non : u.r0 on = none → t.rwt on p = none := fun e => by
    rw [hW, e]
    rfl
  refine ⟨_, rfl, on, rfl, ?_⟩
  cases on with
  | true =>
    refine iteT ⟨_, rfl, x, u, rfl, a1, by omega, fun hz2 H2 s2 => ?_, fun u' hz2 y H2 a2 s2 => ?_⟩
    · exact ⟨_, rfl, rfl, _, rfl, ite_yes rfl (qn (non hz2) H2 (s1.trans s2))⟩
    obtain ⟨t', e1, e2⟩ := fin u' hz2 y H2 a2 s2
    refine ⟨_, rfl, rfl, _, rfl, ite_no (ta_ne a2) ?_⟩
    exact ⟨_, rfl, _, rfl, _, rfl, v, y, t, u', t', p, rfl, ta_mono (Tp.same (s1.trans s2)) ha, a2, hp, by omega, e1, fun z H3 a3 s3 => q t' e2 z H3 a3 ((s1.trans s2).trans s3)⟩
  | false =>
    refine iteF ⟨_, rfl, x, u, rfl, a1, by omega, fun hz2 H2 s2 => ?_, fun u' hz2 y H2 a2 s2 => ?_⟩
    · exact ⟨_, rfl, rfl, _, rfl, ite_yes rfl (qn (non hz2) H2 (s1.trans s2))⟩
    obtain ⟨t', e1, e2⟩ := fin u' hz2 y H2 a2 s2
    refine ⟨_, rfl, rfl, _, rfl, ite_no (ta_ne a2) ?_⟩
    exact ⟨_, rfl, _, rfl, _, rfl, v, y, t, u', t', p, rfl, ta_mono (Tp.same (s1.trans s2)) ha, a2, hp, by omega, e1, fun z H3 a3 s3 => q t' e2 z H3 a3 ((s1.trans s2).trans s3)⟩

abbrev s__law_steps : Stmt := top 61
theorem sc__law_steps : FnScope ["_law_term_here", "_law_result", "_law_spot", "_law_onward"] ["_law_term_here"] (defScope s__law_steps) := ⟨rfl, rfl, rfl, by decide +kernel, rfl, by decide +kernel, by decide +kernel⟩
theorem ok__law_steps {f1 f2 f3 f4 f5 f6 : Addr} {e1 e2 e3 e4 e5 e6 : FuncData} (d : D K mg "_law_steps" s__law_steps ["_law_term_here"] f fd) (d__law_paths : D K mg "_law_paths" s__law_paths ["_law_term_here", "_law_spot"] f6 e6) (d__law_rewrite : D K mg "_law_rewrite" s__law_rewrite ["_law_term_here", "_law_spot", "_law_onward"] f5 e5) (d__law_subterm : D K mg "_law_subterm" s__law_subterm ["_law_term_here", "_law_spot"] f1 e1) (d__law_expanded : D K mg "_law_expanded" s__law_expanded ["_law_some"] f2 e2)
    (d__law_replace : D K mg "_law_replace" s__law_replace ["_law_term_here", "_law_spot", "_law_new"] f3 e3) (d__law_contracted : D K mg "_law_contracted" s__law_contracted ["_law_some"] f4 e4) : FnOk P w K mg base CX0 33 f fd ["_law_term_here"] (spStpW K) := by
  have G__law_paths : FnOk P w K mg base CX0 31 f6 e6 ["_law_term_here", "_law_spot"] (spPts K 30) := ok__law_paths d__law_paths 30
  have G__law_rewrite : FnOk P w K mg base CX0 32 f5 e5 ["_law_term_here", "_law_spot", "_law_onward"] (spRwN K 30) := ok__law_rewrite d__law_rewrite d__law_subterm d__law_expanded d__law_replace d__law_contracted 30
  refine d.F.ok sc__law_steps (fun vs H Q E h => ?_) (fun cdv A outer s H vs Q E hr h => ?_)
  · obtain ⟨_, _, rfl, _⟩ := h
    rfl
  obtain ⟨v, t, rfl, ha, hd, hnd, q⟩ := h
  have nt : ∀ {G : Hp} {c : Addr} {ys : List V} {l : Addr} {xs : List V} {o : HO}, G c = some (.tup ys) → G l = some (.lst xs) → (upd G l o) c = some (.tup ys) := fun h1 h2 => by
    rw [upd_ne (ne_of h1 h2 (fun z => nomatch z))]
    exact h1
  refine ⟨_, (pss_cons (ps_set (i := 1) sc__law_steps.nd rfl (Or.inl rfl) (pe_lst pa_nil))
 (pss_cons (ps_for PassesOwn.never rfl (pi_list (pe_call G__law_paths (hr.mono (by decide)) rfl d__law_paths.m d__law_paths.F.kp d__law_paths.b .nil pass0 (pa_cons (pv 0) (pa_cons pe_str pa_nil)))) (pg_name (i := 2) sc__law_steps.nd rfl (Or.inl rfl))
  (pss_one (ps_for PassesOwn.never rfl (pi_list (pe_lst (pa_cons pe_bl (pa_cons pe_bl pa_nil)))) (pg_name (i := 3) sc__law_steps.nd rfl (Or.inl rfl))
  (pss_one (ps_if (pt_cmpR op_notN (pe_call G__law_rewrite (hr.mono (by decide)) rfl d__law_rewrite.m d__law_rewrite.F.kp d__law_rewrite.b .nil pass0 (pa_cons (pv 0) (pa_cons (pv 2) (pa_cons (pv 3) pa_nil)))) pe_non (nomark _)) (pss_one (ps_expr (pe_bm PySem.F.plainAttrs_list PySem.F.slot_list_append PySem.F.type_list_append mt_append (pv 1) (pa_cons (pe_tup (pa_cons (pv 2) (pa_cons (pv 3) pa_nil))) pa_nil)))) pss_nil)))))
 (pss_one (ps_ret (pv 1))))), ?_⟩
  refine ⟨zero_le', fun l nl => ?_⟩
  have s1 := Same.new nl (.lst [])
  refine ⟨_, rfl, v, t, [], rfl, ta_mono (Tp.same s1) ha, by omega, by omega, by omega, by show 0 + t.dp ≤ 60; omega, fun b H2 s2 nb hb => ?_⟩
  have nbl : b ≠ l := fun z => by rw [z, upd_same] at nb; cases nb
  have hpl : ∀ p ∈ t.pts [], p.length ≤ 29 := fun p hp => by
    have := Tree.pts_le t [] p hp
    have e : ([] : List Bool).length = 0 := rfl
    omega
  have hl2 : H2 l = some (.lst []) := s2 _ _ upd_same
  refine ⟨b, rfl, ⟨_, SqL.here hb⟩, for_list (xs := ptxs (t.pts [])) (fun i σ G => ∃ (x y : Option V) (L : List (Addr × List Bool × Bool)), σ = [some v, some (.ref l), x, y] ∧ Same H G ∧ G b = some (.lst (ptxs (t.pts []))) ∧ G l = some (.lst (L.map sV)) ∧ L.length ≤ 2 * i ∧ (∀ x ∈ L, G x.1 = some (.tup [.str (ptx x.2.1), .bl x.2.2])) ∧ L.map (·.2) = ((t.pts []).take i).flatMap (stp1 t))
    ⟨none, none, [], rfl, s1.trans s2, hb, hl2, Nat.zero_le _, (fun x hx => nomatch hx), rfl⟩ ?_ ?_ ?_⟩
  · rintro i σ G _ ⟨x, y, xs, rfl, _, hb, _⟩
    exact SqL.here hb
  · rintro i x0 σ G hx ⟨x, y, L, rfl, sm, hb, hl, hlen, hX, hL⟩
    unfold ptxs at hx
    rw [List.getElem?_map] at hx
    cases ep : (t.pts [])[i]? with
    | none => rw [ep] at hx; cases hx
    | some p =>
      rw [ep] at hx
      cases hx
      have hi : i < (t.pts []).length := (List.getElem?_eq_some_iff.mp ep).1
      have hi : i < t.nodes := by rw [← Tree.pts_len t []]; exact hi
      have hp8 := hpl p (List.mem_of_getElem? ep)
      refine ⟨two_le, fun z nz => ?_⟩
      have nzl : z ≠ l := fun e => by rw [e, hl] at nz; cases nz
      have nzb : z ≠ b := fun e => by rw [e, hb] at nz; cases nz
      have sz := Same.new nz (.lst [.bl true, .bl false])
      refine ⟨z, rfl, ⟨_, SqL.here upd_same⟩, for_list (xs := [.bl true, .bl false]) (fun j σ G => ∃ (y : Option V) (L : List (Addr × List Bool × Bool)), σ = [some v, some (.ref l), some (.str (ptx p)), y] ∧ Same H G ∧ G b = some (.lst (ptxs (t.pts []))) ∧ G z = some (.lst [.bl true, .bl false]) ∧ G l = some (.lst (L.map sV)) ∧ L.length ≤ 2 * i + j ∧ (∀ x ∈ L, G x.1 = some (.tup [.str (ptx x.2.1), .bl x.2.2])) ∧ L.map (·.2) = ((t.pts []).take i).flatMap (stp1 t) ++ stp2 t p j)
        ⟨y, L, rfl, sm.trans sz, sz _ _ hb, upd_same, sz _ _ hl, hlen, (fun x hx => sz _ _ (hX x hx)), by rw [hL]; simp [stp2]⟩ ?_ ?_ ?_⟩
      · rintro j σ G _ ⟨y, xs, rfl, _, _, hz, _⟩
        exact SqL.here hz
      · rintro j x1 σ G hx ⟨y, L, rfl, sm, hb, hz, hl, hlen, hX, hL⟩
        obtain ⟨on, rfl, hon⟩ : ∃ on, x1 = V.bl on ∧ stp2 t p (j + 1) = stp2 t p j ++ (if (t.rwt on p).isSome = true then [(p, on)] else []) := by
          match j, hx with
          | 0, hx => cases hx; exact ⟨true, rfl, by simp [stp2, List.filter_cons]; split <;> simp_all⟩
          | 1, hx => cases hx; exact ⟨false, rfl, by simp [stp2, List.filter_cons]; split <;> split <;> simp_all⟩
        have hj : j < 2 := (List.getElem?_eq_some_iff.mp hx).1
        refine ⟨_, rfl, _, rfl, _, rfl, v, t, p, on, rfl, ta_mono (Tp.same sm) ha, by omega, by omega, by omega, fun hno G2 s3 => ?_, fun t' ht' x2 G2 a2 s3 => ?_⟩
        · refine ⟨rfl, _, rfl, ite_no rfl ?_⟩
          exact ⟨_, L, rfl, sm.trans s3, s3 _ _ hb, s3 _ _ hz, s3 _ _ hl, by omega, (fun x hx => s3 _ _ (hX x hx)), by rw [hL, hon, hno]; simp⟩
        · refine ⟨rfl, _, rfl, ite_yes (by rw [ta_ne a2]; rfl) ?_⟩
          have hl3 := s3 _ _ hl
          refine ⟨_, rfl, .inl ⟨rfl, _, SqL.here hl3⟩, _, rfl, _, rfl, two_le, fun p3 np3 => ?_⟩
          have s4 := Same.new np3 (.tup [.str (ptx p), .bl on])
          have hl4 := s4 _ _ hl3
          refine ⟨l, _, _, rfl, rfl, hl4, small1000 (by rw [List.length_map]; omega), ⟨_, L ++ [(p3, p, on)], rfl, fun c o e => ?_, ?_, ?_, by rw [upd_same, List.map_append]; rfl, by rw [List.length_append]; show L.length + 1 ≤ _; omega, fun x hx => ?_, ?_⟩⟩
          · rw [upd_ne (ne_of_none e nl)]
            exact s4 _ _ (s3 _ _ (sm _ _ e))
          · rw [upd_ne nbl]
            exact s4 _ _ (s3 _ _ hb)
          · rw [upd_ne nzl]
            exact s4 _ _ (s3 _ _ hz)
          · rcases List.mem_append.mp hx with hx | hx
            · exact nt (s4 _ _ (s3 _ _ (hX x hx))) hl4
            · rw [List.mem_singleton.mp hx]
              exact nt upd_same hl4
          · rw [List.map_append, hL, hon, ht', List.append_assoc]
            simp
      · rintro σ G ⟨y, L, rfl, sm, hb, hz, hl, hlen, hX, hL⟩
        refine ⟨_, _, L, rfl, sm, hb, hl, by show L.length ≤ 2 * (i + 1); have : L.length ≤ 2 * i + 2 := hlen; omega, hX, ?_⟩
        obtain ⟨g1, g2⟩ := List.getElem?_eq_some_iff.mp ep
        rw [hL, List.take_succ_eq_append_getElem g1, g2, List.flatMap_append]
        simp [stp1, stp2]
  · rintro σ G ⟨x, y, L, rfl, sm, hb, hl, hlen, hX, hL⟩
    rw [ptxs_len, Tree.pts_len] at hlen
    refine ⟨_, rfl, q l L G sm nl hl (by omega) hX ?_⟩
    rw [hL, List.take_of_length_le (by rw [ptxs_len]; exact Nat.le_refl _)]
    rfl


abbrev s__law_invalid_term : Stmt := top 62
theorem sc__law_invalid_term : FnScope ["_law_rng", "_law_invalid", "_law_great", "_law_term_here"] ["_law_rng"] (defScope s__law_invalid_term) := ⟨rfl, rfl, rfl, by decide +kernel, rfl, by decide +kernel, by decide +kernel⟩
theorem ok__law_invalid_term {f1 f2 f3 f4 : Addr} {e1 e2 e3 e4 : FuncData} (d__law_invalid_term : D K mg "_law_invalid_term" s__law_invalid_term ["_law_rng"] f fd) (B : Blt mg) (d__law_draw : D K mg "_law_draw" s__law_draw ["_law_rng", "_law_amount"] f1 e1) (d__law_pick : D K mg "_law_pick" s__law_pick ["_law_rng", "_law_terms"] f2 e2)
    (d__law_comb : D K mg "_law_comb" s__law_comb ["_law_many", "_law_onleft"] f3 e3) (d__law_term : D K mg "_law_term" s__law_term ["_law_rng", "_law_many", "_law_cap"] f4 e4) : FnOk P w K mg base CX0 9 f fd ["_law_rng"] (spBadT K) := by
  have G__law_draw : FnOk P w K mg base CX0 1 f1 e1 ["_law_rng", "_law_amount"] spDraw := ok__law_draw d__law_draw B
  have G__law_pick : FnOk P w K mg base CX0 2 f2 e2 ["_law_rng", "_law_terms"] (spPick K) := ok__law_pick d__law_pick B d__law_draw
  have G__law_comb : FnOk P w K mg base CX0 1 f3 e3 ["_law_many", "_law_onleft"] (spComb K) := ok__law_comb d__law_comb B
  have G__law_term : FnOk P w K mg base CX0 8 f4 e4 ["_law_rng", "_law_many", "_law_cap"] (spTerm K 7) := ok__law_term d__law_term B d__law_draw 7
  refine d__law_invalid_term.F.ok sc__law_invalid_term (fun vs H Q E h => ?_) (fun cdv A outer s H vs Q E hr h => ?_)
  · obtain ⟨_, rfl, _⟩ := h
    rfl
  obtain ⟨r, rfl, hR, q⟩ := h
  refine ⟨_, (pss_cons (ps_set (i := 1) sc__law_invalid_term.nd rfl (Or.inl rfl) (pe_lst (pa_cons (pe_tup (pa_cons (pe_tup pa_nil) pa_nil)) (pa_cons (pe_tup (pa_cons (pe_tup pa_nil) (pa_cons (pe_tup pa_nil) (pa_cons (pe_tup pa_nil) pa_nil)))) (pa_cons (pe_tup (pa_cons (pe_tup pa_nil) (pa_cons (pe_tup (pa_cons (pe_tup pa_nil) pa_nil)) pa_nil))) (pa_cons (pe_tup (pa_cons (pe_tup (pa_cons (pe_tup pa_nil) (pa_cons (pe_tup pa_nil) pa_nil))) (pa_cons (pe_tup (pa_cons (pe_tup pa_nil) (pa_cons (pe_tup pa_nil) (pa_cons (pe_tup pa_nil) pa_nil)))) pa_nil))) (pa_cons (pe_tup (pa_cons (pe_tup (pa_cons (pe_tup (pa_cons (pe_tup pa_nil) (pa_cons (pe_tup pa_nil) pa_nil))) pa_nil)) (pa_cons (pe_tup pa_nil) pa_nil))) pa_nil)))))))
 (pss_cons (ps_set (i := 2) sc__law_invalid_term.nd rfl (Or.inl rfl) (pe_lst (pa_cons (pe_call G__law_comb (hr.mono (by decide)) rfl d__law_comb.m d__law_comb.F.kp d__law_comb.b .nil pass0 (pa_cons pe_int (pa_cons pe_bl pa_nil))) (pa_cons (pe_call G__law_comb (hr.mono (by decide)) rfl d__law_comb.m d__law_comb.F.kp d__law_comb.b .nil pass0 (pa_cons pe_int (pa_cons pe_bl pa_nil))) (pa_cons (pe_call G__law_term (hr.mono (by decide)) rfl d__law_term.m d__law_term.F.kp d__law_term.b .nil pass0 (pa_cons (pv 0) (pa_cons pe_int (pa_cons pe_int pa_nil)))) (pa_cons (pe_call G__law_comb (hr.mono (by decide)) rfl d__law_comb.m d__law_comb.F.kp d__law_comb.b .nil pass0 (pa_cons pe_int (pa_cons pe_bl pa_nil))) pa_nil))))))
 (pss_cons (ps_set (i := 3) sc__law_invalid_term.nd rfl (Or.inl rfl) (pe_call G__law_pick (hr.mono (by decide)) rfl d__law_pick.m d__law_pick.F.kp d__law_pick.b .nil pass0 (pa_cons (pv 0) (pa_cons (pe_lst (pa_cons (pv 1) (pa_cons (pv 2) (pa_cons (pv 2) pa_nil)))) pa_nil))))
 (pss_one (ps_ret (pe_ix (r := rIx K) ix_seq (pv 3) (pe_call G__law_draw (hr.mono (by decide)) rfl d__law_draw.m d__law_draw.F.kp d__law_draw.b .nil pass0 (pa_cons (pv 0) (pa_cons (pe_callB call_len_seq (by rfl) B.len PySem.boot_len (pa_cons (pv 3) pa_nil)) pa_nil))) (fun _ _ => rfl))))))), ?_⟩
  refine lst5 (K := K) (mk1 mk0) (mk3 mk0 mk0 mk0) (mk2 mk0 (mk1 mk0)) (mk2 (mk2 mk0 mk0) (mk3 mk0 mk0 mk0)) (mk2 (mk1 (mk2 mk0 mk0)) mk0) fun a v1 v2 v3 v4 v5 H6 s6 na ha hA => ?_
  have bad : ∀ x ∈ [v1, v2, v3, v4, v5], BadV K H6 x := by
    cases hA with
    | cons h1 hA =>
    cases hA with
    | cons h2 hA =>
    cases hA with
    | cons h3 hA =>
    cases hA with
    | cons h4 hA =>
    cases hA with
    | cons h5 hA =>
    intro x hx
    rcases List.mem_cons.mp hx with rfl | hx
    · exact ⟨_, ⟨h1, by decide +kernel, by decide +kernel⟩, by decide +kernel, by decide +kernel⟩
    rcases List.mem_cons.mp hx with rfl | hx
    · exact ⟨_, ⟨h2, by decide +kernel, by decide +kernel⟩, by decide +kernel, by decide +kernel⟩
    rcases List.mem_cons.mp hx with rfl | hx
    · exact ⟨_, ⟨h3, by decide +kernel, by decide +kernel⟩, by decide +kernel, by decide +kernel⟩
    rcases List.mem_cons.mp hx with rfl | hx
    · exact ⟨_, ⟨h4, by decide +kernel, by decide +kernel⟩, by decide +kernel, by decide +kernel⟩
    cases List.mem_singleton.mp hx
    exact ⟨_, ⟨h5, by decide +kernel, by decide +kernel⟩, by decide +kernel, by decide +kernel⟩
  have nar : a ≠ r := fun z => by
    obtain ⟨ys, hy⟩ := hR.lst
    rw [← z, na] at hy
    cases hy
  clear hA
  refine ⟨8, true, rfl, by decide, by decide, fun u1 t1 H7 a1 z1 p1 s7 => ?_⟩
  refine ⟨8, false, rfl, by decide, by decide, fun u2 t2 H8 a2 z2 p2 s8 => ?_⟩
  have R8 := hR.same (s6.trans (s7.trans s8))
  refine ⟨_, rfl, r, 13, 6, by decide, rfl, by decide, by decide, by decide, R8, fun u3 t3 H9 a3 z3 p3 R9 b9 => ?_⟩
  refine ⟨20, true, rfl, by decide, by decide, fun u4 t4 H10 a4 z4 p4 s10 => ?_⟩
  refine ⟨fourV, fun b nb => ?_⟩
  obtain ⟨ys8, hy8⟩ := R8.lst
  have tp9 : Tp H8 H9 := Tp.but hy8 b9
  have sb := Same.new nb (.lst [u1, u2, u3, u4])
  have tp10 : Tp H9 (upd H10 b (.lst [u1, u2, u3, u4])) := Tp.same (s10.trans sb)
  have bad2 : ∀ x ∈ [u1, u2, u3, u4], BadV K (upd H10 b (.lst [u1, u2, u3, u4])) x := by
    intro x hx
    rcases List.mem_cons.mp hx with rfl | hx
    · exact BadV.tree (ta_mono (((Tp.same s8).trans tp9).trans tp10) a1) (by omega) (by omega) (.inl (by omega))
    rcases List.mem_cons.mp hx with rfl | hx
    · exact BadV.tree (ta_mono (tp9.trans tp10) a2) (by omega) (by omega) (.inl (by omega))
    rcases List.mem_cons.mp hx with rfl | hx
    · exact BadV.tree (ta_mono tp10 a3) (by omega) (by omega) (.inr (by omega))
    cases List.mem_singleton.mp hx
    exact BadV.tree (ta_mono (Tp.same sb) a4) (by omega) (by omega) (.inl (by omega))
  have R11 := R9.same (s10.trans sb)
  have b11 : But r H (upd H10 b (.lst [u1, u2, u3, u4])) := ((But.same (s6.trans (s7.trans s8))).trans b9).trans (But.same (s10.trans sb))
  have hb : upd H10 b (.lst [u1, u2, u3, u4]) b = some (.lst [u1, u2, u3, u4]) := upd_same
  have nbr : b ≠ r := fun z => by
    obtain ⟨ys, hy⟩ := (R9.same s10).lst
    rw [← z, nb] at hy
    cases hy
  have ha11 : upd H10 b (.lst [u1, u2, u3, u4]) a = some (.lst [v1, v2, v3, v4, v5]) := (s10.trans sb) _ _ (b9 _ _ nar ((s7.trans s8) _ _ ha))
  have bad1 : ∀ x ∈ [v1, v2, v3, v4, v5], BadV K (upd H10 b (.lst [u1, u2, u3, u4])) x := fun x hx => (bad x hx).tp (((Tp.same (s7.trans s8)).trans tp9).trans tp10)
  clear bad a1 a2 a3 a4
  generalize upd H10 b (.lst [u1, u2, u3, u4]) = H11 at *
  refine ⟨_, rfl, _, rfl, _, rfl, _, rfl, by show 3 ≤ sizeLine; decide, fun c nc => ?_⟩
  have sc := Same.new nc (.lst [.ref a, .ref b, .ref b])
  have R12 := R11.same sc
  have ncr : c ≠ r := fun z => by
    obtain ⟨ys, hy⟩ := R11.lst
    rw [← z, nc] at hy
    cases hy
  refine ⟨r, c, [.ref a, .ref b, .ref b], rfl, R12, .inl (SqL.here upd_same), (by show 0 < 3; decide), (by show 3 ≤ 10000; decide), ncr, fun v H13 hv R13 b13 => ?_⟩
  obtain ⟨ys12, hy12⟩ := R12.lst
  have tp13 : Tp H11 H13 := (Tp.same sc).trans (Tp.but hy12 b13)
  have fin : ∀ (l : Addr) (xs : List V), H11 l = some (.lst xs) → l ≠ r → 0 < xs.length → xs.length ≤ 5 → (∀ x ∈ xs, BadV K H11 x) → v = .ref l → _ := fun l xs hl hne h0 h5 hbad ev => show
    tVar 3 [some (.ref r), some (.ref a), some (.ref b), some v] H13 (fun x G => tVar 0 [some (.ref r), some (.ref a), some (.ref b), some v] G fun x2 G2 => tVar 3 [some (.ref r), some (.ref a), some (.ref b), some v] G2 fun x3 G3 =>
      ∃ p ys, [x3] = [V.ref p] ∧ (SqL K G3 p ys ∨ SqT K G3 p ys) ∧ spDraw [x2, .int ys.length] G3 (fun y G4 => rIx K x y G4 Q) E0) from by
    subst ev
    have hl13 : H13 l = some (.lst xs) := b13 _ _ hne (sc _ _ hl)
    refine ⟨_, rfl, _, rfl, _, rfl, l, xs, rfl, .inl (SqL.here hl13), r, _, rfl, R13, by omega, by omega, fun n H14 n0 n1 R14 b14 => ?_⟩
    obtain ⟨ys13, hy13⟩ := R13.lst
    exact rix_in (.inl (SqL.here (b14 _ _ hne hl13))) n0 n1 fun x hx => q x H14 ((hbad x hx).tp (tp13.trans (Tp.but hy13 b14))) R14 (((b11.trans (But.same sc)).trans b13).trans b14)
  have hv' : v = .ref a ∨ v = .ref b := by simpa using hv
  rcases hv' with e | e
  · exact fin a _ ha11 nar (by show 0 < 5; decide) (by show 5 ≤ 5; decide) bad1 e
  · exact fin b _ hb nbr (by show 0 < 4; decide) (by show 4 ≤ 5; decide) bad2 e

abbrev s__law_expansions : Stmt := top 63
theorem sc__law_expansions : FnScope ["_law_term_here", "_law_top", "_law_result", "_law_line", "_law_later", "_law_current", "_law_row", "_law_spot", "_law_onward", "_law_target"] ["_law_term_here", "_law_top"] (defScope s__law_expansions) := ⟨rfl, rfl, rfl, by decide +kernel, rfl, by decide +kernel, by decide +kernel⟩
theorem ok__law_expansions {f1 f2 f3 f4 f5 f6 f7 f8 f9 : Addr} {e1 e2 e3 e4 e5 e6 e7 e8 e9 : FuncData} (d : D K mg "_law_expansions" s__law_expansions ["_law_term_here", "_law_top"] f fd) (B : Blt mg) (d__law_size : D K mg "_law_size" s__law_size ["_law_term_here"] f7 e7) (d__law_format : D K mg "_law_format" s__law_format ["_law_term_here"] f8 e8) (d__law_paths : D K mg "_law_paths" s__law_paths ["_law_term_here", "_law_spot"] f6 e6) (d__law_rewrite : D K mg "_law_rewrite" s__law_rewrite ["_law_term_here", "_law_spot", "_law_onward"] f5 e5) (d__law_subterm : D K mg "_law_subterm" s__law_subterm ["_law_term_here", "_law_spot"] f1 e1) (d__law_expanded : D K mg "_law_expanded" s__law_expanded ["_law_some"] f2 e2)
    (d__law_replace : D K mg "_law_replace" s__law_replace ["_law_term_here", "_law_spot", "_law_new"] f3 e3) (d__law_contracted : D K mg "_law_contracted" s__law_contracted ["_law_some"] f4 e4) (d__law_steps : D K mg "_law_steps" s__law_steps ["_law_term_here"] f9 e9) : FnOk P w K mg base CX0 35 f fd ["_law_term_here", "_law_top"] (spLxp K) := by
  have G__law_size : FnOk P w K mg base CX0 32 f7 e7 ["_law_term_here"] (spTree K (fun t => .int t.sz) 32) := ok__law_size d__law_size 32
  have G__law_format : FnOk P w K mg base CX0 32 f8 e8 ["_law_term_here"] (spText K 32) := ok__law_format d__law_format 32
  have G__law_rewrite : FnOk P w K mg base CX0 32 f5 e5 ["_law_term_here", "_law_spot", "_law_onward"] (spRwN K 30) := ok__law_rewrite d__law_rewrite d__law_subterm d__law_expanded d__law_replace d__law_contracted 30
  have G__law_steps : FnOk P w K mg base CX0 33 f9 e9 ["_law_term_here"] (spStpW K) := ok__law_steps d__law_steps d__law_paths d__law_rewrite d__law_subterm d__law_expanded d__law_replace d__law_contracted
  refine d.F.ok sc__law_expansions (fun vs H Q E h => ?_) (fun cdv A outer s H vs Q E hr h => ?_)
  · obtain ⟨_, _, _, rfl, _⟩ := h
    rfl
  obtain ⟨v, t, top, rfl, ha, ht30, htop, q⟩ := h
  have htd := t.dp_lt
  refine ⟨_, (pss_cons (ps_par (i := 2) (j := 3) (by rfl) sc__law_expansions.nd rfl rfl (by decide) rfl rfl (pa_cons pe_dnewK (pa_cons (pe_lst (pa_cons (pe_tup (pa_cons (pv 0) (pa_cons (pe_lst pa_nil) pa_nil))) pa_nil)) pa_nil)) (by rfl))
 (C8.pss_cut (ps_if (pt_cmpR op_le (pe_call G__law_size (hr.mono (by decide)) rfl d__law_size.m d__law_size.F.kp d__law_size.b .nil pass0 (pa_cons (pv 0) pa_nil)) (pv 1) (nomark _)) (pss_one (ps_dput (hu_of hr) (pv 2) (pe_call G__law_format (hr.mono (by decide)) rfl d__law_format.m d__law_format.F.kp d__law_format.b .nil pass0 (pa_cons (pv 0) pa_nil)) (pe_tup (pa_cons (pv 0) (pa_cons (pe_lst pa_nil) pa_nil))) (by rfl))) pss_nil)
 (pss_cons (ps_while PassesOwn.never (PW.pt (pw_and (pt_cmpR op_gt (pe_callB call_len_seq (by rfl) B.len PySem.boot_len (pa_cons (pv 3) pa_nil)) pe_int (nomark _)) (pw_and1 (pt_cmpR op_le (pe_callB call_lenD (by rfl) B.len PySem.boot_len (pa_cons (pv 2) pa_nil)) pe_int (nomark _))))) (pss_cons (ps_set (i := 4) sc__law_expansions.nd rfl (Or.inl rfl) (pe_lst pa_nil))
 (pss_cons (ps_for PassesOwn.never rfl (pi_list (pv 3)) (pg_tup (by rfl) (pgs_cons (pg_name (i := 5) sc__law_expansions.nd rfl (Or.inl rfl)) (pgs_cons (pg_name (i := 6) sc__law_expansions.nd rfl (Or.inl rfl)) pgs_nil)))
  (pss_one (ps_for PassesOwn.never rfl (pi_list (pe_call G__law_steps (hr.mono (by decide)) rfl d__law_steps.m d__law_steps.F.kp d__law_steps.b .nil pass0 (pa_cons (pv 5) pa_nil))) (pg_tup (by rfl) (pgs_cons (pg_name (i := 7) sc__law_expansions.nd rfl (Or.inl rfl)) (pgs_cons (pg_name (i := 8) sc__law_expansions.nd rfl (Or.inl rfl)) pgs_nil)))
  (C8.pss_cut (ps_set (i := 9) sc__law_expansions.nd rfl (Or.inl rfl) (pe_ifExp (pt_truth (pv 8) (by intro _; rfl)) (pe_call G__law_rewrite (hr.mono (by decide)) rfl d__law_rewrite.m d__law_rewrite.F.kp d__law_rewrite.b .nil pass0 (pa_cons (pv 5) (pa_cons (pv 7) (pa_cons pe_bl pa_nil)))) (pv 5)))
 (pss_one (ps_if (PW.pt (pw_and (pt_cmpR op_le (pe_call G__law_size (hr.mono (by decide)) rfl d__law_size.m d__law_size.F.kp d__law_size.b .nil pass0 (pa_cons (pv 9) pa_nil)) (pv 1) (nomark _)) (pw_and (pt_cmp (pc_dnotin (hu_of hr) (pe_call G__law_format (hr.mono (by decide)) rfl d__law_format.m d__law_format.F.kp d__law_format.b .nil pass0 (pa_cons (pv 9) pa_nil)) (pv 2)) (by with_unfolding_all rfl)) (pw_and1 (pt_cmpR op_gt (pe_callB call_lenD (by rfl) B.len PySem.boot_len (pa_cons (pv 2) pa_nil)) pe_int (nomark _)))))) (pss_cons (ps_dput (hu_of hr) (pv 2) (pe_call G__law_format (hr.mono (by decide)) rfl d__law_format.m d__law_format.F.kp d__law_format.b .nil pass0 (pa_cons (pv 9) pa_nil)) (pe_tup (pa_cons (pv 9) (pa_cons (pe_op op_cat (pv 6) (pe_lst (pa_cons (pv 7) pa_nil))) pa_nil))) (by rfl))
 (pss_one (ps_expr (pe_bm PySem.F.plainAttrs_list PySem.F.slot_list_append PySem.F.type_list_append mt_append (pv 4) (pa_cons (pe_dget (hu_of hr) (pv 2) (pe_call G__law_format (hr.mono (by decide)) rfl d__law_format.m d__law_format.F.kp d__law_format.b .nil pass0 (pa_cons (pv 9) pa_nil)) (fun _ _ => rfl)) pa_nil))))) pss_nil))))))
 (pss_one (ps_set (i := 3) sc__law_expansions.nd rfl (Or.inl rfl) (pv 4))))))
 (pss_one (ps_ret (pv 2)))))), ?_⟩
  intro o ho
  have s1 := Same.new ho (.dK [])
  have ho1 : (upd H o (.dK [])) o = some (.dK []) := upd_same
  generalize (upd H o (.dK [])) = H1 at *
  refine ⟨_, rfl, zero_le', fun a0 na0 => ⟨two_le, fun q0 nq0 => ⟨one_le, fun l nl => ?_⟩⟩⟩
  have sA := (Same.new na0 (.lst [])).trans ((Same.new nq0 (.tup [v, .ref a0])).trans (Same.new nl (.lst [.ref q0])))
  have la0 : (upd (upd (upd H1 a0 (.lst [])) q0 (.tup [v, .ref a0])) l (.lst [.ref q0])) a0 = some (.lst []) := (Same.new nl _) _ _ ((Same.new nq0 _) _ _ upd_same)
  have lq0 : (upd (upd (upd H1 a0 (.lst [])) q0 (.tup [v, .ref a0])) l (.lst [.ref q0])) q0 = some (.tup [v, .ref a0]) := (Same.new nl _) _ _ upd_same
  have ll0 : (upd (upd (upd H1 a0 (.lst [])) q0 (.tup [v, .ref a0])) l (.lst [.ref q0])) l = some (.lst [.ref q0]) := upd_same
  have s2 := s1.trans sA
  have ho2 := sA _ _ ho1
  have l0 : H l = none := s1.free ((Same.new na0 _).free ((Same.new nq0 _).free nl))
  generalize (upd (upd (upd H1 a0 (.lst [])) q0 (.tup [v, .ref a0])) l (.lst [.ref q0])) = H2 at *
  have ao : a0 ≠ o := ne_of la0 ho2 (fun z => nomatch z)
  have ent : EntR K H2 o (.ref q0) (t, []) := ⟨q0, a0, v, rfl, SqT.here lq0, ta_mono (Tp.same s2) ha, la0, ao⟩
  refine ⟨_, _, rfl, fun σ G => ∃ (kvs : List (Key × V)) (R : List ResE), σ = [some v, some (.int (top : Int)), some (.ref o), some (.ref l), none, none, none, none, none, none] ∧ Same H G ∧ G o = some (.dK kvs) ∧ KvR K G o kvs R ∧ G l = some (.lst [.ref q0]) ∧ EntR K G o (.ref q0) (t, []) ∧ Mid top t R [t] [] ∧ R.length ≤ 1 ∧ (R ≠ [] → t ∈ trs1 R), ?_, ?_⟩
  · refine ⟨_, rfl, v, t, rfl, ta_mono (Tp.same s2) ha, by omega, by omega, fun H3 s3 => ⟨_, rfl, _, _, rfl, rfl, _, rfl, ?_⟩⟩
    have e3 := ent.same s3
    by_cases hz : t.sz ≤ top
    · refine ite_yes (decide_eq_true (by omega)) ?_
      refine ⟨_, rfl, zero_le', fun a1 na1 => ⟨two_le, fun q1 nq1 => ?_⟩⟩
      have s4 := (Same.new na1 (.lst [])).trans (Same.new nq1 (.tup [v, .ref a1]))
      have la1 : (upd (upd H3 a1 (.lst [])) q1 (.tup [v, .ref a1])) a1 = some (.lst []) := (Same.new nq1 _) _ _ upd_same
      have lq1 : (upd (upd H3 a1 (.lst [])) q1 (.tup [v, .ref a1])) q1 = some (.tup [v, .ref a1]) := upd_same
      generalize (upd (upd H3 a1 (.lst [])) q1 (.tup [v, .ref a1])) = H4 at *
      have s24 := s2.trans (s3.trans s4)
      refine ⟨_, rfl, _, rfl, v, t, rfl, ta_mono (Tp.same s24) ha, by omega, by omega, by omega, fun H5 s5 => ⟨o, _, rfl, DPut.k (k := Sum.inr t.txt) (s5 _ _ (s4 _ _ (s3 _ _ ho2))) (by decide), ?_⟩⟩
      have ho5 := s5 _ _ (s4 _ _ (s3 _ _ ho2))
      have la5 := s5 _ _ la1
      have e5 : EntR K H5 o (.ref q1) (t, []) := ⟨q1, a1, v, rfl, SqT.here (s5 _ _ lq1), ta_mono (Tp.same (s24.trans s5)) ha, la5, ne_of la5 ho5 (fun z => nomatch z)⟩
      have e6 := (e3.same (s4.trans s5)).setD (kvs' := putK [] (Sum.inr t.txt) (.ref q1)) ho5
      refine ⟨[(Sum.inr t.txt, .ref q1)], [(t, [])], rfl, fun bb oo hb => ?_, upd_same, .cons ⟨rfl, e5.setD ho5⟩ .nil, ?_, e6, Mid.start1 hz, Nat.le_refl _, fun _ => List.mem_singleton.mpr rfl⟩
      · rw [upd_ne (ne_of_none hb ho)]
        exact s5 _ _ (s24 _ _ hb)
      · rw [upd_ne (ne_of (s5 _ _ (s4 _ _ (s3 _ _ ll0))) ho5 (fun z => nomatch z))]
        exact s5 _ _ (s4 _ _ (s3 _ _ ll0))
    · refine ite_no (decide_eq_false (by omega)) ?_
      exact ⟨[], [], rfl, s2.trans s3, s3 _ _ ho2, .nil, s3 _ _ ll0, e3, Mid.start0 (by omega), Nat.zero_le _, fun z => absurd rfl z⟩
  · rintro σ G ⟨kvs, R, rfl, sm, hoG, hK, hlG, hE, hM, hR1, hRt⟩
    clear ent sA s1 s2 ho2 ho1 la0 lq0 ll0 ao
    refine ⟨fun M σ G => ∃ (l : Addr) (vs : List V) (Ln : List ResE) (kvs : List (Key × V)) (R : List ResE) (x4 x5 x6 x7 x8 x9 : Option V), σ = [some v, some (.int (top : Int)), some (.ref o), some (.ref l), x4, x5, x6, x7, x8, x9] ∧ Same H G ∧ G o = some (.dK kvs) ∧ KvR K G o kvs R ∧ G l = some (.lst vs) ∧ Paired (EntR K G o) vs Ln ∧ Mid top t R (trs1 Ln) [] ∧ (∀ e ∈ Ln, lead t e.2 = some e.1 ∧ e.1.sz ≤ 30 ∧ (R ≠ [] → e.1 ∈ trs1 R)) ∧ Ln.length ≤ R.length + 1 ∧ R.length ≤ 600000 ∧ M = 2 * (600000 - R.length) + (if Ln = [] then 0 else 1),
      ⟨_, l, [.ref q0], [(t, [])], kvs, R, none, none, none, none, none, none, rfl, sm, hoG, hK, hlG, .cons hE .nil, hM, fun e he => ?_, by show 1 ≤ R.length + 1; omega, by omega, rfl⟩, ?_⟩
    · cases List.mem_singleton.mp he
      exact ⟨rfl, ht30, hRt⟩
    clear sm hoG hK hlG hE hM hR1 hRt kvs R l0 nl l nq0 q0 na0 a0
    rintro M σ G ⟨l, vs, Ln, kvs, R, x4, x5, x6, x7, x8, x9, rfl, sm, hoG, hK, hlG, hLn, hM, hLe, hLl, hRl, rfl⟩
    obtain ⟨hkeys, hklen⟩ := hK.keys
    have hvl := Paired.length hLn
    cases Ln with
    | nil =>
      cases hLn
      refine ⟨_, rfl, l, [], rfl, .inl (SqL.here hlG), _, _, rfl, rfl, _, rfl, ite_no (by decide) ?_⟩
      exact ⟨_, rfl, q o R G sm ho ⟨kvs, hoG, hK⟩ ⟨hM.nd, hM.rc, fun _ => hM.all, hRl⟩⟩
    | cons e0 Ln0 =>
      have hpos : (0 : Int) < ((vs.length : Nat) : Int) := by rw [hvl, List.length_cons]; omega
      refine ⟨_, rfl, l, vs, rfl, .inl (SqL.here hlG), _, _, rfl, rfl, _, rfl, ite_yes (decide_eq_true hpos) ?_⟩
      refine ⟨_, rfl, o, kvs, rfl, hoG, _, _, rfl, rfl, _, rfl, ?_⟩
      by_cases hfull : R.length ≤ 500
      case neg =>
        refine ite_no (decide_eq_false (by rw [hklen]; omega)) ?_
        exact ⟨_, rfl, q o R G sm ho ⟨kvs, hoG, hK⟩ ⟨hM.nd, hM.rc, fun z => absurd z hfull, hRl⟩⟩
      refine ite_yes (decide_eq_true (by rw [hklen]; omega)) ?_
      rw [if_neg (show ¬ (e0 :: Ln0 = []) from fun z => nomatch z)]
      refine ⟨fun σ' H' => ∃ (l : Addr) (vs : List V) (Ln : List ResE) (kvs : List (Key × V)) (R' : List ResE) (x4 x5 x6 x7 x8 x9 : Option V), σ' = [some v, some (.int (top : Int)), some (.ref o), some (.ref l), x4, x5, x6, x7, x8, x9] ∧ Same H H' ∧ H' o = some (.dK kvs) ∧ KvR K H' o kvs R' ∧ H' l = some (.lst vs) ∧ Paired (EntR K H' o) vs Ln ∧ Mid top t R' (trs1 Ln) [] ∧ (∀ e ∈ Ln, lead t e.2 = some e.1 ∧ e.1.sz ≤ 30 ∧ (R' ≠ [] → e.1 ∈ trs1 R')) ∧ Ln.length ≤ R'.length + 1 ∧ R'.length ≤ 600000 ∧ 2 * (600000 - R'.length) + (if Ln = [] then 0 else 1) < 2 * (600000 - R.length) + 1, ?_, ?_⟩
      · rintro σ' H' ⟨l, vs, Ln, kvs, R', x4, x5, x6, x7, x8, x9, h1, h2, h3, h4, h5, h6, h7, h8, h9, h10, h11⟩
        exact ⟨_, h11, l, vs, Ln, kvs, R', x4, x5, x6, x7, x8, x9, h1, h2, h3, h4, h5, h6, h7, h8, h9, h10, rfl⟩
      refine ⟨zero_le', fun r nr => ?_⟩
      have sr := Same.new nr (.lst [])
      have hr1 : (upd G r (.lst [])) r = some (.lst []) := upd_same
      have rl : r ≠ l := (ne_of_none hlG nr).symm
      have ro : r ≠ o := (ne_of_none hoG nr).symm
      have r0 : H r = none := sm.free nr
      have hK1 : KvR K (upd G r (.lst [])) r kvs R := hK.map fun _ _ h => h.swap sr nr
      have hLn1 : Paired (EntR K (upd G r (.lst [])) r) vs (e0 :: Ln0) := paired_mono (fun _ _ h => h.swap sr nr) hLn
      have sm1 := sm.trans sr
      have hoG1 := sr _ _ hoG
      have hlG1 := sr _ _ hlG
      clear hK hLn hoG hlG sm hpos
      generalize (upd G r (.lst [])) = G1 at *
      generalize hLN : e0 :: Ln0 = Ln at *
      have hLne : 0 < Ln.length := by rw [← hLN]; exact Nat.succ_pos _
      refine ⟨_, rfl, l, rfl, ⟨_, SqL.here hlG1⟩, for_list (xs := vs) (fun i σ G => ∃ (kvs : List (Key × V)) (R' Lt : List ResE) (ws : List V) (x5 x6 x7 x8 x9 : Option V), σ = [some v, some (.int (top : Int)), some (.ref o), some (.ref l), some (.ref r), x5, x6, x7, x8, x9] ∧ Same H G ∧ G o = some (.dK kvs) ∧ KvR K G r kvs R' ∧ G l = some (.lst vs) ∧ Paired (EntR K G r) vs Ln ∧ G r = some (.lst ws) ∧ Paired (EntR K G r) ws Lt ∧ Mid top t R' (trs1 (Ln.drop i)) Lt ∧ (∀ e ∈ Ln, lead t e.2 = some e.1 ∧ e.1.sz ≤ 30 ∧ (R' ≠ [] → e.1 ∈ trs1 R')) ∧ R'.length = R.length + Lt.length ∧ Lt.length ≤ 1000 * i)
        ⟨kvs, R, [], [], _, _, _, _, _, rfl, sm1, hoG1, hK1, hlG1, hLn1, hr1, .nil, hM, hLe, rfl, Nat.zero_le _⟩ ?_ ?_ ?_⟩
      · rintro i σ G _ ⟨_, _, _, _, _, _, _, _, _, _, _, _, _, hl, _⟩
        exact SqL.here hl
      · rintro i x0 σ G hx ⟨kvs, R', Lt, ws, x5, x6, x7, x8, x9, rfl, sm, hoG, hK, hlG, hLn, hrG, hLt, hM, hLe, hRL, hLl⟩
        obtain ⟨⟨u, ps⟩, heu, hEu⟩ := paired_at hLn hx
        obtain ⟨q, lp, vt, rfl, hq, hvt, hlp, nlp⟩ := hEu
        have hvt : TA K G vt u := hvt
        have hlp : G lp = some (.lst (ptxs ps)) := hlp
        have hi : i < Ln.length := (List.getElem?_eq_some_iff.mp heu).1
        obtain ⟨hul, hu30, huR⟩ := hLe (u, ps) (List.mem_of_getElem? heu)
        have hul : lead t ps = some u := hul
        have hu30 : u.sz ≤ 30 := hu30
        have hpl := lead_len hul
        have hud := u.dp_lt
        have hun := tree_nodes u
        have edrop : trs1 (Ln.drop i) = u :: trs1 (Ln.drop (i + 1)) := by
          rw [List.drop_eq_getElem_cons hi, (List.getElem?_eq_some_iff.mp heu).2]
          rfl
        rw [edrop] at hM
        refine ⟨q, _, rfl, hq, rfl, _, _, rfl, _, _, rfl, rfl, ?_⟩
        refine ⟨_, rfl, vt, u, rfl, hvt, by omega, by omega, fun b L H2 s2 nb hb hLL hX hL => ⟨b, rfl, ⟨_, SqL.here hb⟩, for_list (xs := L.map sV) (fun j σ G => ∃ (kvs : List (Key × V)) (R' Lt : List ResE) (ws : List V) (x7 x8 x9 : Option V), σ = [some v, some (.int (top : Int)), some (.ref o), some (.ref l), some (.ref r), some vt, some (.ref lp), x7, x8, x9] ∧ Same H G ∧ Tp H2 G ∧ G b = some (.lst (L.map sV)) ∧ TA K G vt u ∧ G lp = some (.lst (ptxs ps)) ∧ G o = some (.dK kvs) ∧ KvR K G r kvs R' ∧ G l = some (.lst vs) ∧ Paired (EntR K G r) vs Ln ∧ G r = some (.lst ws) ∧ Paired (EntR K G r) ws Lt ∧ Mid top t R' (u :: trs1 (Ln.drop (i + 1))) Lt ∧ (∀ e ∈ Ln, lead t e.2 = some e.1 ∧ e.1.sz ≤ 30 ∧ (R' ≠ [] → e.1 ∈ trs1 R')) ∧ R'.length = R.length + Lt.length ∧ Lt.length ≤ 1000 * i + j ∧ (R' ≠ [] → ∀ (k : Nat) (p : List Bool) (w : Tree), k < j → (stps u)[k]? = some (p, true) → u.rwt true p = some w → w.sz ≤ top → w ∈ trs1 R'))
          ⟨kvs, R', Lt, ws, _, _, _, rfl, sm.trans s2, Tp.refl _, hb, ta_mono (Tp.same s2) hvt, s2 _ _ hlp, s2 _ _ hoG, hK.map fun _ _ h => h.same s2, s2 _ _ hlG, paired_mono (fun _ _ h => h.same s2) hLn, s2 _ _ hrG, paired_mono (fun _ _ h => h.same s2) hLt, hM, hLe, hRL, hLl, fun _ k p w hk => absurd hk (Nat.not_lt_zero _)⟩ ?_ ?_ ?_⟩⟩
        · rintro j σ G _ ⟨_, _, _, _, _, _, _, _, _, _, hb, _⟩
          exact SqL.here hb
        · have nbr : b ≠ r := fun z => by rw [z] at nb; rw [nb] at hrG; cases hrG
          clear hoG hK hlG hLn hrG hLt hM hLe hRL hLl hvt hlp hq hx sm kvs R' Lt ws huR
          rintro j x0 σ G hx ⟨kvs, R', Lt, ws, x7, x8, x9, rfl, sm, tp2, hb, hvt, hlp, hoG, hK, hlG, hLn, hrG, hLt, hM, hLe, hRL, hLl, hcl⟩
          have hjx := hx
          rw [List.getElem?_map] at hx
          obtain ⟨⟨z, p, on⟩, hzL, rfl⟩ := Option.map_eq_some_iff.mp hx
          have hj : j < L.length := (List.getElem?_eq_some_iff.mp hzL).1
          have hst : (stps u)[j]? = some (p, on) := by rw [← hL, List.getElem?_map, hzL]; rfl
          have hsm := List.mem_of_getElem? hst
          have hso := (stps_iff u p on).mp hsm
          refine ⟨z, _, rfl, tp2.sqT (SqT.here (hX _ (List.mem_of_getElem? hzL))), rfl, _, _, rfl, _, _, rfl, rfl, ?_⟩
          refine ⟨fun σ G3 => ∃ (v3 : V) (w : Tree), σ = [some v, some (.int (top : Int)), some (.ref o), some (.ref l), some (.ref r), some vt, some (.ref lp), some (.str (ptx p)), some (.bl on), some v3] ∧ Same G G3 ∧ TA K G3 v3 w ∧ (on = true → u.rwt true p = some w) ∧ (on = false → w = u), ?_, ?_⟩
          · refine ⟨_, rfl, on, rfl, ?_⟩
            cases on with
            | true =>
              refine ite_yes rfl ?_
              obtain ⟨w0, hw0⟩ := Option.isSome_iff_exists.mp hso
              have hpl2 := Tree.rwt_len hw0
              refine ⟨_, rfl, _, rfl, vt, u, p, true, rfl, hvt, by omega, by omega, by omega, fun hno => ?_, fun w hw x H' hx s' => ⟨x, w, rfl, s', hx, fun _ => hw, fun z => nomatch z⟩⟩
              rw [hw0] at hno
              cases hno
            | false => exact ite_no rfl ⟨_, rfl, vt, u, rfl, Same.refl _, hvt, fun z => (nomatch z), fun _ => rfl⟩
          · rintro σ G3 ⟨v3, w, rfl, s3, hv3, hw1, hw2⟩
            obtain ⟨hkeys, hklen⟩ := hK.keys
            have hwd : w.sz ≤ 60 ∧ w.dp ≤ 30 := by
              cases on with
              | true =>
                have := u.exs_sz (p, w) ((u.exs_iff p w).mpr (hw1 rfl))
                have h1 : w.sz ≤ 2 * u.sz := this.2.1
                have h2 : w.dp ≤ u.dp + 1 := this.2.2.1
                omega
              | false =>
                rw [hw2 rfl]
                omega
            have skip : ∀ (G4 : Hp), Same G G4 → (R' ≠ [] → w.sz ≤ top → w ∈ trs1 R') → ∃ (kvs : List (Key × V)) (R' Lt : List ResE) (ws : List V) (x7 x8 x9 : Option V), [some v, some (.int (top : Int)), some (.ref o), some (.ref l), some (.ref r), some vt, some (.ref lp), some (.str (ptx p)), some (.bl on), some v3] = [some v, some (.int (top : Int)), some (.ref o), some (.ref l), some (.ref r), some vt, some (.ref lp), x7, x8, x9] ∧ Same H G4 ∧ Tp H2 G4 ∧ G4 b = some (.lst (L.map sV)) ∧ TA K G4 vt u ∧ G4 lp = some (.lst (ptxs ps)) ∧ G4 o = some (.dK kvs) ∧ KvR K G4 r kvs R' ∧ G4 l = some (.lst vs) ∧ Paired (EntR K G4 r) vs Ln ∧ G4 r = some (.lst ws) ∧ Paired (EntR K G4 r) ws Lt ∧ Mid top t R' (u :: trs1 (Ln.drop (i + 1))) Lt ∧ (∀ e ∈ Ln, lead t e.2 = some e.1 ∧ e.1.sz ≤ 30 ∧ (R' ≠ [] → e.1 ∈ trs1 R')) ∧ R'.length = R.length + Lt.length ∧ Lt.length ≤ 1000 * i + (j + 1) ∧ (R' ≠ [] → ∀ (k : Nat) (p : List Bool) (w : Tree), k < j + 1 → (stps u)[k]? = some (p, true) → u.rwt true p = some w → w.sz ≤ top → w ∈ trs1 R') := fun G4 s4 hh =>
              ⟨kvs, R', Lt, ws, _, _, _, rfl, sm.trans s4, tp2.trans (Tp.same s4), s4 _ _ hb, ta_mono (Tp.same s4) hvt, s4 _ _ hlp, s4 _ _ hoG, hK.map fun _ _ h => h.same s4, s4 _ _ hlG, paired_mono (fun _ _ h => h.same s4) hLn, s4 _ _ hrG, paired_mono (fun _ _ h => h.same s4) hLt, hM, hLe, hRL, by omega, fun hne k p' w' hk hk2 hw' hz' => by
                rcases Nat.lt_or_ge k j with hkj | hkj
                · exact hcl hne k p' w' hkj hk2 hw' hz'
                · obtain rfl : k = j := by omega
                  rw [hst] at hk2
                  cases hk2
                  have e := (hw1 rfl).symm.trans hw'
                  cases e
                  exact hh hne hz'⟩
            refine ⟨_, rfl, v3, w, rfl, hv3, by omega, by omega, fun H4 s4 => ⟨_, rfl, _, _, rfl, rfl, _, rfl, ?_⟩⟩
            by_cases hz : w.sz ≤ top
            case neg => exact ite_no (decide_eq_false (by omega)) (skip H4 (s3.trans s4) fun _ h => absurd h hz)
            refine ite_yes (decide_eq_true (by omega)) ?_
            refine ⟨_, rfl, v3, w, rfl, ta_mono (Tp.same s4) hv3, by omega, by omega, by omega, fun H5 s5 => ⟨_, rfl, o, _, rfl, DGet.k (k := Sum.inr w.txt) (s5 _ _ (s4 _ _ (s3 _ _ hoG))), _, rfl, ite_eq (congrArg (fun b : Bool => !b) (val_txt hkeys w)) ?_⟩⟩
            have s35 := s3.trans (s4.trans s5)
            by_cases hm : w ∈ trs1 R'
            · exact ite_no (by rw [decide_eq_true hm]; rfl) (skip H5 s35 fun _ _ => hm)
            refine ite_yes (by rw [decide_eq_false hm]; rfl) ?_
            refine ⟨_, rfl, o, kvs, rfl, s35 _ _ hoG, _, _, rfl, rfl, _, rfl, ?_⟩
            by_cases hne : R' = []
            · exact ite_no (decide_eq_false (by rw [hklen, hne]; decide)) (skip H5 s35 fun h _ => absurd hne h)
            refine ite_yes (decide_eq_true (by rw [hklen]; have := List.length_pos_iff.mpr hne; omega)) ?_
            clear skip
            have hon : on = true := by
              cases on with
              | true => rfl
              | false =>
                rw [hw2 rfl] at hm
                exact absurd ((hLe (u, ps) (List.mem_of_getElem? heu)).2.2 hne) hm
            subst hon
            have hrw := hw1 rfl
            have huR := (hLe (u, ps) (List.mem_of_getElem? heu)).2.2 hne
            have hlp5 := s35 _ _ hlp
            have lpt : (ptxs ps).length = ps.length := ptxs_len ps
            refine ⟨_, rfl, _, rfl, _, rfl, one_le, fun z1 nz1 => ?_⟩
            have s6 := Same.new nz1 (.lst [.str (ptx p)])
            refine ⟨lp, z1, _, _, rfl, rfl, s6 _ _ hlp5, upd_same, fits (by rw [lpt]; show ps.length + 1 ≤ 10000; omega), fun np nnp => ⟨two_le, fun qn nqn => ?_⟩⟩
            have s7 := (Same.new nnp (.lst (ptxs ps ++ [.str (ptx p)]))).trans (Same.new nqn (.tup [v3, .ref np]))
            have hnp7 : (upd (upd (upd H5 z1 (.lst [.str (ptx p)])) np (.lst (ptxs ps ++ [.str (ptx p)]))) qn (.tup [v3, .ref np])) np = some (.lst (ptxs (ps ++ [p]))) := by
              rw [ptxs_app]
              exact (Same.new nqn _) _ _ upd_same
            have hqn7 : (upd (upd (upd H5 z1 (.lst [.str (ptx p)])) np (.lst (ptxs ps ++ [.str (ptx p)]))) qn (.tup [v3, .ref np])) qn = some (.tup [v3, .ref np]) := upd_same
            have s57 := s35.trans (s6.trans s7)
            have hv7 : TA K (upd (upd (upd H5 z1 (.lst [.str (ptx p)])) np (.lst (ptxs ps ++ [.str (ptx p)]))) qn (.tup [v3, .ref np])) v3 w := ta_mono (Tp.same ((s4.trans s5).trans (s6.trans s7))) hv3
            have npr : np ≠ r := fun z => by
              have e := s6 _ _ (s35 _ _ hrG)
              rw [← z, nnp] at e
              cases e
            clear s6 s7
            generalize (upd (upd (upd H5 z1 (.lst [.str (ptx p)])) np (.lst (ptxs ps ++ [.str (ptx p)]))) qn (.tup [v3, .ref np])) = H7 at *
            refine ⟨_, rfl, _, rfl, v3, w, rfl, hv7, by omega, by omega, by omega, fun H8 s8 => ?_⟩
            have s58 := s57.trans s8
            have ho8 := s58 _ _ hoG
            have vn : valV kvs (Sum.inr w.txt) = none := by
              have e := val_txt hkeys w
              rw [decide_eq_false hm] at e
              cases ev : valV kvs (Sum.inr w.txt) with
              | none => rfl
              | some y => rw [ev] at e; cases e
            have jL : j < 1000 := by omega
            refine ⟨o, _, rfl, DPut.k (k := Sum.inr w.txt) ho8 (mil (by rw [hvl] at *; omega)), ?_⟩
            rw [putK_new _ vn]
            have ho9 : (upd H8 o (.dK (kvs ++ [(Sum.inr w.txt, .ref qn)]))) o = some (.dK (kvs ++ [(Sum.inr w.txt, .ref qn)])) := upd_same
            have stay : ∀ bb oo, bb ≠ o → H8 bb = some oo → (upd H8 o (.dK (kvs ++ [(Sum.inr w.txt, .ref qn)]))) bb = some oo := fun bb oo h e => by rw [upd_ne h]; exact e
            have tp9 : Tp H8 (upd H8 o (.dK (kvs ++ [(Sum.inr w.txt, .ref qn)]))) := tp_setD ho8
            have E9 : ∀ v e, EntR K H8 r v e → EntR K (upd H8 o (.dK (kvs ++ [(Sum.inr w.txt, .ref qn)]))) r v e := fun v e h => h.setD ho8
            have L9 : ∀ bb ys, H8 bb = some (.lst ys) → (upd H8 o (.dK (kvs ++ [(Sum.inr w.txt, .ref qn)]))) bb = some (.lst ys) := fun bb ys e => stay _ _ (ne_of e ho8 (fun z => nomatch z)) e
            generalize (upd H8 o (.dK (kvs ++ [(Sum.inr w.txt, .ref qn)]))) = H9 at *
            have hr9 := L9 _ _ (s58 _ _ hrG)
            refine ⟨_, rfl, .inl ⟨rfl, _, SqL.here hr9⟩, _, rfl, _, rfl, v3, w, rfl, ta_mono tp9 (ta_mono (Tp.same s8) hv7), by omega, by omega, by omega, fun H10 s10 => ⟨o, .ref qn, rfl, ?_, ?_⟩⟩
            · have h := DGet.k (k := Sum.inr w.txt) (s10 _ _ ho9)
              rw [valV_snoc _ _ _ _ vn, if_pos rfl] at h
              exact h
            have hr10 := s10 _ _ hr9
            have hwl := Paired.length hLt
            refine ⟨r, ws, _, rfl, rfl, hr10, mil (by rw [hwl]; rw [hvl] at *; omega), ?_⟩
            have tpF : Tp H10 (upd H10 r (.lst (ws ++ [.ref qn]))) := Tp.but hr10 But.set
            have EF : ∀ v e, EntR K G r v e → EntR K (upd H10 r (.lst (ws ++ [.ref qn]))) r v e := fun v e h => ((E9 v e (h.same s58)).same s10).but But.set tpF
            have LF : ∀ bb ys, bb ≠ r → G bb = some (.lst ys) → (upd H10 r (.lst (ws ++ [.ref qn]))) bb = some (.lst ys) := fun bb ys h e => by
              rw [upd_ne h]
              exact s10 _ _ (L9 _ _ (s58 _ _ e))
            have tpG : Tp G (upd H10 r (.lst (ws ++ [.ref qn]))) := (((Tp.same s58).trans tp9).trans (Tp.same s10)).trans tpF
            have eN : EntR K (upd H10 r (.lst (ws ++ [.ref qn]))) r (.ref qn) (w, ps ++ [p]) := ⟨qn, np, v3, rfl, ((((Tp.same s8).trans tp9).trans (Tp.same s10)).trans tpF).sqT (SqT.here hqn7), ta_mono ((((Tp.same s8).trans tp9).trans (Tp.same s10)).trans tpF) hv7, by rw [upd_ne npr]; exact s10 _ _ (L9 _ _ (s8 _ _ hnp7)), npr⟩
            refine ⟨kvs ++ [(Sum.inr w.txt, .ref qn)], R' ++ [(w, ps ++ [p])], Lt ++ [(w, ps ++ [p])], ws ++ [.ref qn], _, _, _, rfl, fun bb oo hh => ?_, tp2.trans tpG, LF _ _ nbr hb, ta_mono tpG hvt, LF _ _ nlp hlp, ?_, paired_app (hK.map EF) (.cons ⟨rfl, eN⟩ .nil), LF _ _ rl.symm hlG, paired_mono EF hLn, upd_same, paired_app (paired_mono EF hLt) (.cons eN .nil), hM.add huR hul hrw hz hm, fun e he => ?_, by rw [List.length_append, List.length_append]; show R'.length + 1 = R.length + (Lt.length + 1); omega, by rw [List.length_append]; show Lt.length + 1 ≤ _; omega, fun _ k p' w' hk hk2 hw' hz' => ?_⟩
            · have b1 : bb ≠ r := ne_of_none hh r0
              have b2 : bb ≠ o := ne_of_none hh ho
              rw [upd_ne b1]
              exact s10 _ _ (stay _ _ b2 (s58 _ _ (sm _ _ hh)))
            · rw [upd_ne ro.symm]
              exact s10 _ _ ho9
            · obtain ⟨h1, h2, h3⟩ := hLe e he
              exact ⟨h1, h2, fun _ => by
                show e.1 ∈ (R' ++ [(w, ps ++ [p])]).map (·.1)
                rw [List.map_append]
                exact List.mem_append_left _ (h3 hne)⟩
            · show w' ∈ (R' ++ [(w, ps ++ [p])]).map (·.1)
              rw [List.map_append]
              rcases Nat.lt_or_ge k j with hkj | hkj
              · exact List.mem_append_left _ (hcl hne k p' w' hkj hk2 hw' hz')
              · obtain rfl : k = j := by omega
                rw [hst] at hk2
                cases hk2
                have e := hrw.symm.trans hw'
                cases e
                exact List.mem_append_right _ (List.mem_singleton.mpr rfl)
        · rintro σ G ⟨kvs, R', Lt, ws, x7, x8, x9, rfl, sm, tp2, hb, hvt, hlp, hoG, hK, hlG, hLn, hrG, hLt, hM, hLe, hRL, hLl, hcl⟩
          have hll : (L.map sV).length = (stps u).length := by rw [← hL, List.length_map, List.length_map]
          have hLm : (L.map sV).length = L.length := List.length_map _
          refine ⟨kvs, R', Lt, ws, _, _, _, _, _, rfl, sm, hoG, hK, hlG, hLn, hrG, hLt, hM.done fun hne x hx hz => ?_, hLe, hRL, by omega⟩
          have h1 := (u.exs_iff x.1 x.2).mp hx
          have h2 : (x.1, true) ∈ stps u := (stps_iff u x.1 true).mpr (by rw [h1]; rfl)
          obtain ⟨k, hk⟩ := List.mem_iff_getElem?.mp h2
          exact hcl hne k x.1 x.2 (by rw [hll]; exact (List.getElem?_eq_some_iff.mp hk).1) hk h1 hz
      · rintro σ G ⟨kvs, R', Lt, ws, x5, x6, x7, x8, x9, rfl, sm, hoG, hK, hlG, hLn, hrG, hLt, hM, hLe, hRL, hLl⟩
        refine ⟨_, rfl, ?_⟩
        rw [hvl, List.drop_length] at hM
        have hw := Paired.length hLt
        have toO : ∀ v e, EntR K G r v e → EntR K G o v e := fun v e ⟨q, lp, vt, h1, h2, h3, h4, _⟩ => ⟨q, lp, vt, h1, h2, h3, h4, ne_of h4 hoG (fun z => nomatch z)⟩
        have hvs : vs.length = Ln.length := hvl
        refine ⟨r, ws, Lt, kvs, R', _, _, _, _, _, _, rfl, sm, hoG, hK.map toO, hrG, paired_mono toO hLt, hM.turn, fun e he => ⟨(hM.lt e he).2, ?_, fun _ => (hM.lt e he).1⟩, by omega, by rw [hvs] at hLl; omega, ?_⟩
        · obtain ⟨e1, he1, ee⟩ := List.mem_map.mp (hM.lt e he).1
          have := (hM.rc e1 he1).1.sz
          rw [ee] at this
          omega
        · by_cases hz : Lt = []
          · rw [if_pos hz]
            rw [hz] at hRL
            have hRL : R'.length = R.length + 0 := hRL
            omega
          · rw [if_neg hz]
            have := List.length_pos_iff.mpr hz
            rw [hvs] at hLl
            omega

abbrev s__law_sort_key : Stmt := top 64
theorem sc__law_sort_key : FnScope ["_law_term_here", "_law_left", "_law_right"] ["_law_term_here"] (defScope s__law_sort_key) := ⟨rfl, rfl, rfl, by decide +kernel, rfl, by decide +kernel, by decide +kernel⟩
theorem ok__law_sort_key (d__law_sort_key : D K mg "_law_sort_key" s__law_sort_key ["_law_term_here"] f fd) : ∀ n : Nat, FnOk P w K mg base CX0 n f fd ["_law_term_here"] (spKeyR K n)
  | 0 => fn_none spKeyR_no
  | n + 1 => by
    have G__law_sort_key := ok__law_sort_key d__law_sort_key n
    refine d__law_sort_key.F.ok sc__law_sort_key (fun vs H Q E h => ?_) (fun cdv A outer s H vs Q E hr h => ?_)
    · obtain ⟨_, _, rfl, _⟩ := h
      rfl
    obtain ⟨v, t, rfl, ha, hd, hn, hz, q⟩ := h
    refine ⟨_, (pss_cons (ps_if (pt_cmpR (op_eqD hr.units) (pv 0) (pe_tup pa_nil) (nomark _)) (pss_one (ps_ret (pe_lst (pa_cons pe_int pa_nil)))) pss_nil)
 (pss_cons (ps_par (i := 1) (j := 2) (by rfl) sc__law_sort_key.nd rfl rfl (by decide) rfl rfl (pa_cons (pe_call G__law_sort_key hr rfl d__law_sort_key.m d__law_sort_key.F.kp d__law_sort_key.b .nil pass0 (pa_cons (pe_ix ix_tup (pv 0) pe_int (fun _ _ => rfl)) pa_nil)) (pa_cons (pe_call G__law_sort_key hr rfl d__law_sort_key.m d__law_sort_key.F.kp d__law_sort_key.b .nil pass0 (pa_cons (pe_ix ix_tup (pv 0) pe_int (fun _ _ => rfl)) pa_nil)) pa_nil)) (by rfl))
 (pss_one (ps_ret (pe_op op_cat (pe_op op_cat (pe_lst (pa_cons (pe_op op_add (pe_ix (r := rIxL K) ix_list (pv 1) pe_int (fun _ _ => rfl)) (pe_ix (r := rIxL K) ix_list (pv 2) pe_int (fun _ _ => rfl))) pa_nil)) (pv 1)) (pv 2)))))), ?_⟩
    refine ⟨_, rfl, zero_le', fun p hp => ⟨t.d, .tuple [], ta_mono (Tp.same (Same.new hp _)) ha, Dp.tup (SqT.here upd_same) .nil, Tree.shaped (by omega), shapedE, _, rfl, ite_eq (Tree.eqvL t) ?_⟩⟩
    have s1 := Same.new hp (.tup [])
    cases t with
    | L => exact iteT ⟨one_le, fun l nl => q l _ (s1.trans (Same.new nl _)) (s1.free nl) upd_same⟩
    | N l r =>
      have hd : max l.dp r.dp + 1 < n + 1 := hd
      have hz : l.sz + r.sz ≤ 30 := hz
      have lp := l.sz_pos
      have rp := r.sz_pos
      obtain ⟨b, x1, x2, rfl, hS, hL, hR⟩ := ta_invN (ta_mono (Tp.same s1) ha)
      obtain ⟨kl, ekl⟩ := szr_cons l
      obtain ⟨kr, ekr⟩ := szr_cons r
      have ll := szr_lenK l
      have lr := szr_lenK r
      refine iteF ⟨_, rfl, b, _, 0, _, rfl, rfl, hS, rfl, x1, l, rfl, hL, by omega, by omega, by omega, fun l1 H2 s2 n1 f1 => ?_⟩
      refine ⟨_, rfl, b, _, 1, _, rfl, rfl, (Tp.same s2).sqT hS, rfl, x2, r, rfl, ta_mono (Tp.same s2) hR, by omega, by omega, by omega, fun l2 H3 s3 n2 f2 => ?_⟩
      have f1 := s3 _ _ f1
      refine ⟨_, _, rfl, ?_⟩
      refine ⟨_, rfl, l1, _, 0, .int (l.sz : Int), rfl, rfl, SqL.here f1, by rw [ekl]; exact atI_nat (xs := List.map V.int ((l.sz : Int) :: kl)) (j := 0) rfl, ?_⟩
      refine ⟨_, rfl, l2, _, 0, .int (r.sz : Int), rfl, rfl, SqL.here f2, by rw [ekr]; exact atI_nat (xs := List.map V.int ((r.sz : Int) :: kr)) (j := 0) rfl, ?_⟩
      refine ⟨_, _, rfl, rfl, one_le, fun a1 m1 => ?_⟩
      have t1 := Same.new m1 (.lst [.int ((l.sz : Int) + (r.sz : Int))])
      refine ⟨_, rfl, a1, l1, _, _, rfl, rfl, upd_same, t1 _ _ f1, ?_, fun a2 m2 => ?_⟩
      · rw [List.length_map]
        exact Nat.le_of_lt (small1000 (show ([V.int ((l.sz : Int) + (r.sz : Int))]).length + l.szr.length ≤ 1000 by show 1 + l.szr.length ≤ 1000; omega))
      have t2 := Same.new m2 (.lst ([.int ((l.sz : Int) + (r.sz : Int))] ++ l.szr.map V.int))
      refine ⟨_, rfl, a2, l2, _, _, rfl, rfl, upd_same, t2 _ _ (t1 _ _ f2), ?_, fun a3 m3 => ?_⟩
      · rw [List.length_append, List.length_map, List.length_map]
        exact Nat.le_of_lt (small1000 (show 1 + l.szr.length + r.szr.length ≤ 1000 by omega))
      have t3 := Same.new m3 (.lst (([.int ((l.sz : Int) + (r.sz : Int))] ++ l.szr.map V.int) ++ r.szr.map V.int))
      have sA := (s1.trans (s2.trans s3)).trans (t1.trans t2)
      refine q a3 _ (sA.trans t3) (sA.free m3) ?_
      rw [upd_same]
      show some (HO.lst _) = some (HO.lst ((((l.sz + r.sz : Nat) : Int) :: (l.szr ++ r.szr)).map V.int))
      rw [List.map_cons, List.map_append, show ((l.sz + r.sz : Nat) : Int) = (l.sz : Int) + (r.sz : Int) by omega]
      rfl

abbrev s_is_pair : Stmt := top 30
theorem sc_is_pair : FnScope ["part"] ["part"] (defScope s_is_pair) := ⟨rfl, rfl, rfl, by decide +kernel, rfl, by decide +kernel, by decide +kernel⟩
theorem ok_is_pair (d : D K mg "is_pair" s_is_pair ["part"] f fd) (B : Blt mg) : FnOk P w K mg base CX0 1 f fd ["part"] (spIsPairD K) := by
  refine d.F.ok sc_is_pair (fun vs H Q E h => ?_) (fun cdv A outer s H vs Q E hr h => ?_)
  · obtain ⟨_, _, rfl, _⟩ := h
    rfl
  obtain ⟨v, d, rfl, ha, q⟩ := h
  refine ⟨_, (pss_one (ps_ret (pe_and (pe_callB call_isi (by rfl) B.isinstance (by decide +kernel) (pa_cons (pv 0) (pa_cons (pe_bltn (v := .ty "tuple") (by rfl) B.tuple (by decide +kernel) rfl) pa_nil))) (pe_one (pe_cmpR op_eq (pe_callB call_len_seq (by rfl) B.len PySem.boot_len (pa_cons (pv 0) pa_nil)) pe_int (nomark _)))))), ?_⟩
  obtain ⟨a, xs, ds, rfl, rfl, hS, hA⟩ := ha.inv
  have hx : decide (V.int ((xs.length : Nat) : Int) = V.int 2) = isPr (.tuple ds) := by
    rw [dpAll_len hA]
    match ds with
    | [] => rfl
    | [_] => rfl
    | [_, _] => rfl
    | _ :: _ :: _ :: r =>
      show decide (V.int (((r.length + 1 + 1 + 1 : Nat)) : Int) = V.int 2) = false
      refine decide_eq_false fun z => ?_
      have z : ((r.length + 1 + 1 + 1 : Nat) : Int) = 2 := V.int.inj z
      omega
  refine ⟨_, rfl, _, _, _, _, true, rfl, .ty "tuple", tyx_tup hS, kit_ty (by decide +kernel), true, rfl, iteT ⟨_, rfl, a, _, rfl, .inr hS, rfl, ?_⟩⟩
  show Q (.bl (decide (V.int ((xs.length : Nat) : Int) = V.int 2))) H
  rw [hx]
  exact q

abbrev s_is_term : Stmt := top 29
theorem sc_is_term : FnScope ["term", "waiting", "size", "part", "depth"] ["term"] (defScope s_is_term) := ⟨rfl, rfl, rfl, by decide +kernel, rfl, by decide +kernel, by decide +kernel⟩
theorem ok_is_term {fp : Addr} {fpd : FuncData} (d : D K mg "is_term" s_is_term ["term"] f fd) (B : Blt mg) (C : Cst mg) (d_is_pair : D K mg "is_pair" s_is_pair ["part"] fp fpd) : FnOk P w K mg base CX0 2 f fd ["term"] (spIsTerm K) := by
  have G_is_pair : FnOk P w K mg base CX0 1 fp fpd ["part"] (spIsPairD K) := ok_is_pair d_is_pair B
  obtain ⟨⟨t1, C_MAX_SIZE⟩, ⟨t2, C_MAX_DEPTH⟩⟩ := C
  refine d.F.ok sc_is_term (fun vs H Q E h => ?_) (fun cdv A outer s H vs Q E hr h => ?_)
  · obtain ⟨_, _, rfl, _⟩ := h
    rfl
  obtain ⟨v, dd, rfl, ha, hz, q⟩ := h
  refine ⟨_, (pss_cons (ps_set (i := 1) sc_is_term.nd rfl (Or.inl rfl) (pe_lst (pa_cons (pe_tup (pa_cons (pv 0) (pa_cons pe_int pa_nil))) pa_nil)))
 (pss_cons (ps_set (i := 2) sc_is_term.nd rfl (Or.inl rfl) pe_int)
 (pss_cons (ps_while PassesOwn.never (pt_truth (pv 1) (by intro _; rfl)) (pss_cons (ps_asg (pe_bm0 PySem.F.plainAttrs_list PySem.F.slot_list_pop PySem.F.type_list_pop mt_pop (pv 1)) (pg_tup (by rfl) (pgs_cons (pg_name (i := 3) sc_is_term.nd rfl (Or.inl rfl)) (pgs_cons (pg_name (i := 4) sc_is_term.nd rfl (Or.inl rfl)) pgs_nil))))
 (pss_cons (ps_if (pt_cmpR (op_eqD hr.units) (pv 3) (pe_tup pa_nil) (nomark _)) (pss_one (ps_aug (i := 2) sc_is_term.nd rfl (Or.inl rfl) pe_int ip_add)) (pss_one (ps_if (PW.pt (pw_and (pt_val (pe_call G_is_pair (hr.mono (by decide)) rfl d_is_pair.m d_is_pair.F.kp d_is_pair.b .nil pass0 (pa_cons (pv 3) pa_nil))) (pw_and1 (pt_cmpR op_lt (pv 4) (pe_glob (v := .int 6) rfl C_MAX_DEPTH ⟨_, rfl⟩) (nomark _))))) (pss_cons (ps_expr (pe_bm PySem.F.plainAttrs_list PySem.F.slot_list_append PySem.F.type_list_append mt_append (pv 1) (pa_cons (pe_tup (pa_cons (pe_ix ix_tup (pv 3) pe_int (fun _ _ => rfl)) (pa_cons (pe_op op_add (pv 4) pe_int) pa_nil))) pa_nil)))
 (pss_one (ps_expr (pe_bm PySem.F.plainAttrs_list PySem.F.slot_list_append PySem.F.type_list_append mt_append (pv 1) (pa_cons (pe_tup (pa_cons (pe_ix ix_tup (pv 3) pe_int (fun _ _ => rfl)) (pa_cons (pe_op op_add (pv 4) pe_int) pa_nil))) pa_nil))))) (pss_one (ps_ret pe_bl)))))
 (pss_one (ps_if (pt_cmpR op_gt (pv 2) (pe_glob (v := .int 12) rfl C_MAX_SIZE ⟨_, rfl⟩) (nomark _)) (pss_one (ps_ret pe_bl)) pss_nil)))))
 (pss_one (ps_ret pe_bl))))), ?_⟩
  refine ⟨_, rfl, two_le, fun p hp => ⟨one_le, fun w hw => ?_⟩⟩
  have s1 := Same.new hp (.tup [v, .int 0])
  have s2 := s1.trans (Same.new hw (.lst [.ref p]))
  have hw0 : H w = none := s1.free hw
  refine ⟨fun m σ H' => ∃ (ps : List (V × PyData × Nat)) (n : Nat) (x y : Option V), σ = [some v, some (.ref w), some (.int (n : Int)), x, y] ∧ Same H H' ∧ H' w = some (.lst (ps.map (·.1))) ∧ (∀ p ∈ ps, ItemD K H' p) ∧ n ≤ 12 ∧ okd dd = fnl n (rem ps) ∧ ndn ps ≤ 1000 ∧ m = ndn ps,
    ⟨_, [(.ref p, dd, 0)], 0, none, none, rfl, s2, upd_same, ?_, by decide, okd_fnl _ _, ?_, rfl⟩, ?_⟩
  · intro z hz'
    cases List.mem_singleton.mp hz'
    exact ⟨p, v, rfl, (Tp.same (Same.new hw _)).sqT (SqT.here upd_same), ha.tp (Tp.same s2), by show 0 ≤ 6; omega⟩
  · show ndD dd + 0 ≤ 1000
    omega
  · rintro m σ H' ⟨ps, n, x, y, rfl, sm, hl, hI, hn, hs, hb, rfl⟩
    rcases List.eq_nil_or_concat ps with rfl | ⟨qs, z, rfl⟩
    · refine ⟨_, rfl, _, .inl ⟨_, SqL.here hl, rfl⟩, iteF ?_⟩
      have e : okd dd = true := by
        rw [hs]
        exact decide_eq_true (by omega)
      have q' := q H' sm
      rw [e] at q'
      exact q'
    · rw [List.concat_eq_append] at *
      rw [List.map_append] at hl
      refine ⟨_, rfl, true, .inl ⟨_, SqL.here hl, ?_⟩, iteT ?_⟩
      · cases qs <;> rfl
      have hIz := hI z (by simp)
      have hIq : ∀ p ∈ qs, ItemD K H' p := fun p hp => hI p (by simp [hp])
      obtain ⟨zv, zt, zd⟩ := z
      obtain ⟨a, u, ez, h2, h3, h4⟩ := hIz
      have ez' : zv = .ref a := ez
      subst ez'
      have h4 : zd ≤ 6 := h4
      have h3 : NT K H' u zt := h3
      have h2 : SqT K H' a [u, .int (zd : Int)] := h2
      have hs : okd dd = fnl n (add2 (rem qs) (szD (6 - zd) zt)) := by
        rw [rem_snoc] at hs
        exact hs
      have en : ndn (qs ++ [(V.ref a, zt, zd)]) = ndn qs + ndD zt := ndn_snoc _ _
      have hsz := ndn_len qs
      refine ⟨fun σ' H' => ∃ (ps : List (V × PyData × Nat)) (n : Nat) (x y : Option V), σ' = [some v, some (.ref w), some (.int (n : Int)), x, y] ∧ Same H H' ∧ H' w = some (.lst (ps.map (·.1))) ∧ (∀ p ∈ ps, ItemD K H' p) ∧ n ≤ 12 ∧ okd dd = fnl n (rem ps) ∧ ndn ps < ndn (qs ++ [(V.ref a, zt, zd)]), ?_, ?_⟩
      · rintro σ' H'' ⟨ps, n, x, y, e1, e2, e3, e4, e5, e6, e7⟩
        exact ⟨_, e7, ps, n, x, y, e1, e2, e3, e4, e5, e6, by omega, rfl⟩
      have tp1 : Tp H' (upd H' w (.lst (qs.map (·.1)))) := Tp.but hl But.set
      refine ⟨_, rfl, .inl ⟨rfl, _, SqL.here hl⟩, w, _, .ref a, rfl, rfl, hl, ?_, a, [u, .int zd], rfl, ?_, rfl, _, _, rfl, _, _, rfl, rfl, ?_⟩
      · simp
      · rw [List.dropLast_append_of_ne_nil (by simp)]
        simp only [List.map_cons, List.map_nil, List.dropLast_singleton, List.append_nil]
        exact tp1.sqT h2
      rw [List.dropLast_append_of_ne_nil (by simp)]
      simp only [List.map_cons, List.map_nil, List.dropLast_singleton, List.append_nil]
      have sm1 : Same H (upd H' w (.lst (qs.map (·.1)))) := fun b o e => by
        rw [upd_ne (ne_of_none e hw0)]
        exact sm _ _ e
      refine ⟨_, rfl, zero_le', fun p5 hp5 => ⟨zt, .tuple [], ((h3.tp tp1).tp (Tp.same (Same.new hp5 _))).dp, Dp.tup (SqT.here upd_same) .nil, h3.shp, shapedE, _, rfl, ?_⟩⟩
      refine ite_eq (eqvE h3.tup) ?_
      have tp2 : Tp (upd H' w (.lst (qs.map (·.1)))) (upd (upd H' w (.lst (qs.map (·.1)))) p5 (.tup [])) := Tp.same (Same.new hp5 _)
      have sm2 : Same H (upd (upd H' w (.lst (qs.map (·.1)))) p5 (.tup [])) := sm1.trans (Same.new hp5 _)
      have nw5 : w ≠ p5 := fun e => by
        rw [← e, upd_same] at hp5
        cases hp5
      have hl2 : (upd (upd H' w (.lst (qs.map (·.1)))) p5 (.tup [])) w = some (.lst (qs.map (·.1))) := by rw [upd_ne nw5, upd_same]
      have h3' := (h3.tp tp1).tp tp2
      generalize (upd (upd H' w (.lst (qs.map (·.1)))) p5 (.tup [])) = H2 at *
      cases eE : isE zt with
      | true =>
        have ezt : zt = .tuple [] := by
          obtain ⟨_, _, ds, _, rfl, _, _⟩ := h3.inv
          cases ds with
          | nil => rfl
          | cons _ _ => exact absurd eE (by simp [isE])
        subst ezt
        rw [szD_E, fnl_one] at hs
        refine iteT ⟨_, rfl, _, _, rfl, rfl, _, rfl, _, _, rfl, rfl, _, rfl, ?_⟩
        refine ite2 (fun c => ?_) (fun c => ?_)
        · have c : (n : Int) + 1 > 12 := of_decide_eq_true c
          have q' := q H2 sm2
          rw [hs, fnl_big (by omega)] at q'
          exact q'
        · have c : ¬ (n : Int) + 1 > 12 := fun z => c (decide_eq_true z)
          refine ⟨qs, n + 1, _, _, rfl, sm2, hl2, fun p hp => (hIq p hp).mono (tp1.trans tp2), by omega, hs, ?_⟩
          rw [en]
          exact Nat.lt_succ_self _
      | false =>
        refine iteF ⟨_, rfl, _, _, rfl, h3', _, rfl, ?_⟩
        cases eP : isPr zt with
        | false =>
          refine iteF ?_
          have q' := q H2 sm2
          rw [hs, szD_bad eE (.inl eP), add2_none] at q'
          exact q'
        | true =>
          refine iteT ⟨_, rfl, _, _, rfl, rfl, _, rfl, ?_⟩
          refine ite2 (fun c => ?_) (fun c => ?_)
          rotate_left
          · have c : ¬ (zd : Int) < 6 := fun z => c (decide_eq_true z)
            have q' := q H2 sm2
            rw [hs, szD_bad eE (.inr (by omega)), add2_none] at q'
            exact q'
          have c : (zd : Int) < 6 := of_decide_eq_true c
          obtain ⟨b, x1, x2, d1, d2, rfl, rfl, hS, hL, hR⟩ := h3'.pr eP
          rw [show 6 - zd = (6 - (zd + 1)) + 1 by omega, szD_pr, ← add2_assoc] at hs
          have en2 : ndD (.tuple [d1, d2]) = ndD d1 + (ndD d2 + 0) + 1 := rfl
          refine ⟨_, rfl, .inl ⟨rfl, _, SqL.here hl2⟩, _, rfl, b, _, 0, _, rfl, rfl, hS, rfl, _, rfl, _, _, rfl, rfl, two_le, fun p6 hp6 => ?_⟩
          have tp3 : Tp H2 (upd H2 p6 (.tup [x1, .int ((zd : Int) + 1)])) := Tp.same (Same.new hp6 _)
          have nw6 : w ≠ p6 := ne_of_none hl2 hp6
          refine ⟨w, _, _, rfl, rfl, (by rw [upd_ne nw6]; exact hl2), (by rw [List.length_map]; exact small1000 (by omega)), ?_⟩
          have hl3 : (upd (upd H2 p6 (.tup [x1, .int ((zd : Int) + 1)])) w (.lst (qs.map (·.1) ++ [.ref p6]))) w = some (.lst (qs.map (·.1) ++ [.ref p6])) := upd_same
          have tp4 : Tp (upd H2 p6 (.tup [x1, .int ((zd : Int) + 1)])) (upd (upd H2 p6 (.tup [x1, .int ((zd : Int) + 1)])) w (.lst (qs.map (·.1) ++ [.ref p6]))) := Tp.but (by rw [upd_ne nw6]; exact hl2) But.set
          have sm4 : Same H (upd (upd H2 p6 (.tup [x1, .int ((zd : Int) + 1)])) w (.lst (qs.map (·.1) ++ [.ref p6]))) := fun b o e => by
            rw [upd_ne (ne_of_none e hw0)]
            exact (sm2.trans (Same.new hp6 _)) _ _ e
          have h6 : SqT K (upd (upd H2 p6 (.tup [x1, .int ((zd : Int) + 1)])) w (.lst (qs.map (·.1) ++ [.ref p6]))) p6 [x1, .int ((zd : Int) + 1)] := tp4.sqT (SqT.here upd_same)
          have tp24 : Tp H2 _ := tp3.trans tp4
          generalize (upd (upd H2 p6 (.tup [x1, .int ((zd : Int) + 1)])) w (.lst (qs.map (·.1) ++ [.ref p6]))) = H4 at *
          refine ⟨_, rfl, .inl ⟨rfl, _, SqL.here hl3⟩, _, rfl, b, _, 1, _, rfl, rfl, tp24.sqT hS, rfl, _, rfl, _, _, rfl, rfl, two_le, fun p7 hp7 => ?_⟩
          have tp5 : Tp H4 (upd H4 p7 (.tup [x2, .int ((zd : Int) + 1)])) := Tp.same (Same.new hp7 _)
          have nw7 : w ≠ p7 := ne_of_none hl3 hp7
          refine ⟨w, _, _, rfl, rfl, (by rw [upd_ne nw7]; exact hl3), (by rw [List.length_append, List.length_map, List.length_singleton]; exact small1000 (by omega)), ?_⟩
          have tp6 : Tp (upd H4 p7 (.tup [x2, .int ((zd : Int) + 1)])) (upd (upd H4 p7 (.tup [x2, .int ((zd : Int) + 1)])) w (.lst ((qs.map (·.1) ++ [.ref p6]) ++ [.ref p7]))) := Tp.but (by rw [upd_ne nw7]; exact hl3) But.set
          refine ⟨_, rfl, _, _, rfl, rfl, _, rfl, ?_⟩
          refine ite_no (decide_eq_false (by omega)) ?_
          refine ⟨qs ++ [(.ref p6, d1, zd + 1)] ++ [(.ref p7, d2, zd + 1)], n, _, _, rfl, fun b o e => ?_, ?_, ?_, hn, ?_, ?_⟩
          · rw [upd_ne (ne_of_none e hw0)]
            exact (sm4.trans (Same.new hp7 _)) _ _ e
          · rw [upd_same, List.map_append, List.map_append]
            rfl
          · intro z hz'
            rcases List.mem_append.mp hz' with hz' | hz'
            · rcases List.mem_append.mp hz' with hz' | hz'
              · exact (hIq z hz').mono (((tp1.trans tp2).trans tp24).trans (tp5.trans tp6))
              · cases List.mem_singleton.mp hz'
                exact ⟨p6, x1, rfl, (tp5.trans tp6).sqT h6, (hL.tp tp24).tp (tp5.trans tp6), by show zd + 1 ≤ 6; omega⟩
            · cases List.mem_singleton.mp hz'
              exact ⟨p7, x2, rfl, tp6.sqT (SqT.here upd_same), (hR.tp tp24).tp (tp5.trans tp6), by show zd + 1 ≤ 6; omega⟩
          · rw [rem_snoc, rem_snoc]
            exact hs
          · rw [ndn_snoc, ndn_snoc, en, en2]
            show ndn qs + ndD d1 + ndD d2 < ndn qs + (ndD d1 + (ndD d2 + 0) + 1)
            omega

abbrev s_check_term : Stmt := top 31
theorem sc_check_term : FnScope ["term"] ["term"] (defScope s_check_term) := ⟨rfl, rfl, rfl, by decide +kernel, rfl, by decide +kernel, by decide +kernel⟩
theorem ok_check_term {fp fi C0 : Addr} {fpd fid : FuncData} (d : D K mg "check_term" s_check_term ["term"] f fd) (B : Blt mg) (C : Cst mg) (EC : ErrC K mg "InvalidTerm" C0) (d_is_pair : D K mg "is_pair" s_is_pair ["part"] fp fpd) (d_is_term : D K mg "is_term" s_is_term ["term"] fi fid) : FnOk P w K mg base (L2N.CX P w) 3 f fd ["term"] (spChk K C0) := by
  have G_is_term : FnOk P w K mg base CX0 2 fi fid ["term"] (spIsTerm K) := ok_is_term d_is_term B C d_is_pair
  refine Fun.okN d.F sc_check_term (fun vs H Q E h => ?_) (fun cdv A outer s H vs Q E hr h => ?_)
  · obtain ⟨_, _, rfl, _⟩ := h
    rfl
  obtain ⟨v, dd, rfl, ha, hz, h1, h2⟩ := h
  refine ⟨_, (pss_one (ps_if (pt_not (pt_val (pe_call G_is_term (hr.mono (by decide)) rfl d_is_term.m d_is_term.F.kp d_is_term.b .nil pass0 (pa_cons (pv 0) pa_nil)))) (pss_one (L2N.ps_raise rfl (L2N.takes_of rfl rfl rfl rfl) (L2N.pmk_own PySem.F.excBase_ValueError EC.q EC.g EC.k (raises_own EC.b EC.t) (by exact rfl)))) pss_nil)), ?_⟩
  refine ⟨_, rfl, v, dd, rfl, ha, hz, fun H' sm => ⟨_, rfl, ?_⟩⟩
  cases e : okd dd with
  | true => exact iteF (h1 e H' sm)
  | false => exact iteT (h2 e H' sm)

abbrev s_expanded : Stmt := top 33
theorem sc_expanded : FnScope ["pool", "number", "acting", "right", "first", "second"] ["pool", "number"] (defScope s_expanded) := ⟨rfl, rfl, rfl, by decide +kernel, rfl, by decide +kernel, by decide +kernel⟩
theorem ok_expanded {C fP : Addr} {fdP : FuncData} (d_expanded : D K mg "expanded" s_expanded ["pool", "number"] f fd) (T : PoolT K mg C) (B : Blt mg) (FP : Fun K "pair" "Pool.pair" s_PPair fP fdP) (bP : Binds K fdP ["self", "left", "right"] []) (mP : Meth K C "pair" fP) : FnOk P w K mg base CX0 2 f fd ["pool", "number"] (spPR K C true) := by
  have GP : FnOk P w K mg base CX0 1 fP fdP ["self", "left", "right"] (spPair K C) := ok_PPair FP T B
  refine d_expanded.F.ok sc_expanded (fun vs H Q E h => ?_) (fun cdv A outer s H vs Q E hr h => ?_)
  · obtain ⟨_, _, _, _, _, _, _, _, rfl, _⟩ := h
    rfl
  obtain ⟨x, d, a, b, c, m, ts, t, rfl, hP, hlen, hm, hne, hN, hR⟩ := h
  have n1 : (pf d a b c).lookup ("pair" : Str) = none := pf_no _ _ _ _ (by decide +kernel) (by decide +kernel) (by decide +kernel) (by decide +kernel)
  refine ⟨_, (pss_cons (ps_asg (pe_ix ix_list (pe_fld (pv 0) rfl) (pv 1) (fun _ _ => rfl)) (pg_tup (by rfl) (pgs_cons (pg_name (i := 2) sc_expanded.nd rfl (Or.inl rfl)) (pgs_cons (pg_name (i := 3) sc_expanded.nd rfl (Or.inl rfl)) pgs_nil))))
 (pss_cons (ps_if (pt_cmpR (op_eqD hr.units) (pe_ix ix_list (pe_fld (pv 0) rfl) (pv 3) (fun _ _ => rfl)) (pe_tup pa_nil) (nomark _)) (pss_one (ps_ret pe_non)) pss_nil)
 (pss_cons (ps_asg (pe_ix ix_list (pe_fld (pv 0) rfl) (pv 3) (fun _ _ => rfl)) (pg_tup (by rfl) (pgs_cons (pg_name (i := 4) sc_expanded.nd rfl (Or.inl rfl)) (pgs_cons (pg_name (i := 5) sc_expanded.nd rfl (Or.inl rfl)) pgs_nil))))
 (pss_one (ps_ret (pe_meth (pv 0) T.cl mP GP (hr.mono (by omega)) bP .nil pass0 (pa_cons (pe_meth (pv 0) T.cl mP GP (hr.mono (by omega)) bP .nil pass0 (pa_cons (pv 2) (pa_cons (pv 4) pa_nil))) (pa_cons (pe_meth (pv 0) T.cl mP GP (hr.mono (by omega)) bP .nil pass0 (pa_cons (pv 2) (pa_cons (pv 5) pa_nil))) pa_nil)))))))), ?_⟩
  cases t with
  | L => exact absurd rfl hne
  | N ta tb =>
    obtain ⟨dx, ps, qq, ops, hx, ha, hpm, hS, il, ir, rfl, hul, hur⟩ := hP.at hm
    refine ⟨_, rfl, x, C, dx, _, _, rfl, hx, T.cl, T.n2, pf_p _ _ _ _, _, rfl, a, _, _, _, rfl, rfl, SqL.here ha, atI_nat hpm, qq, _, rfl, hS, rfl, _, _, rfl, _, _, rfl, rfl, ?_⟩
    obtain ⟨dx2, ps2, q2, ops2, hx2, ha2, hpm2, hS2, hops2⟩ := hP.at hur
    refine ⟨_, rfl, x, C, dx2, _, _, rfl, hx2, T.cl, T.n2, pf_p _ _ _ _, _, rfl, a, _, _, _, rfl, rfl, SqL.here ha2, atI_nat hpm2, zero_le', fun p5 hp5 => ?_⟩
    have s5 := Same.new hp5 (.tup [])
    cases tb with
    | L =>
      have hops2 : ops2 = [] := hops2
      subst hops2
      exact ⟨.tuple [], .tuple [], ops_L ((Tp.same s5).sqT hS2), Dp.tup (SqT.here upd_same) .nil, shapedE, shapedE, true, rfl, iteT (hN rfl _ s5)⟩
    | N tf tsd =>
      obtain ⟨i2, j2, rfl, hf, hsd⟩ := hops2
      refine ⟨_, .tuple [], ops_N ((Tp.same s5).sqT hS2), Dp.tup (SqT.here upd_same) .nil, ops_sh _ _, shapedE, false, rfl, iteF ?_⟩
      have hP5 := hP.same s5
      refine ⟨_, rfl, x, C, dx2, _, _, rfl, s5 _ _ hx2, T.cl, T.n2, pf_p _ _ _ _, _, rfl, a, _, _, _, rfl, rfl, SqL.here (s5 _ _ ha2), atI_nat hpm2, q2, _, rfl, (Tp.same s5).sqT hS2, rfl, _, _, rfl, _, _, rfl, rfl, ?_⟩
      refine ⟨_, rfl, x, dx2, _, rfl, s5 _ _ hx2, n1, _, rfl, x, dx2, _, rfl, s5 _ _ hx2, n1, _, rfl, _, rfl, x, d, a, b, c, il, i2, ts, ta, tf, rfl, hP5, by omega, hul, hf, fun k1 ts1 H1 P1 e1 pr1 hk1 ln1 => ?_⟩
      obtain ⟨dx3, _, _, _, hx3, _⟩ := id P1
      refine ⟨_, rfl, x, dx3, _, rfl, hx3, n1, _, rfl, _, rfl, x, d, a, b, c, il, j2, ts1, ta, tsd, rfl, P1, by omega, pr1 _ _ hul, pr1 _ _ hsd, fun k2 ts2 H2 P2 e2 pr2 hk2 ln2 => ?_⟩
      refine ⟨x, d, a, b, c, k1, k2, ts2, .N ta tf, .N ta tsd, rfl, P2, by omega, pr2 _ _ hk1, hk2, fun k3 ts3 H3 P3 e3 pr3 hk3 ln3 => ?_⟩
      exact hR (.N (.N ta tf) (.N ta tsd)) rfl k3 ts3 H3 P3 ((((Ex4.same s5).trans e1).trans e2).trans e3) ((pr1.trans pr2).trans pr3) hk3 (by omega)

abbrev s_steps_from : Stmt := top 39
theorem sc_steps_from : FnScope ["pool", "number", "left", "right", "steps", "whole", "path", "after"] ["pool", "number"] (defScope s_steps_from) := ⟨rfl, rfl, rfl, by decide +kernel, rfl, by decide +kernel, by decide +kernel⟩
theorem ok_steps_from {C fP f1 : Addr} {fdP e1 : FuncData} (d_steps_from : D K mg "steps_from" s_steps_from ["pool", "number"] f fd) (T : PoolT K mg C) (B : Blt mg) (FP : Fun K "pair" "Pool.pair" s_PPair fP fdP) (bP : Binds K fdP ["self", "left", "right"] []) (mP : Meth K C "pair" fP)
    (d_expanded : D K mg "expanded" s_expanded ["pool", "number"] f1 e1) : ∀ n : Nat, FnOk P w K mg base CX0 (n + 2) f fd ["pool", "number"] (spStF K C n)
  | 0 => fn_none fun vs H Q E h => by
    obtain ⟨_, _, _, _, _, _, _, _, _, _, _, h, _⟩ := h
    omega
  | n + 1 => by
    have G_steps_from := ok_steps_from d_steps_from T B FP bP mP d_expanded n
    have GP : FnOk P w K mg base CX0 1 fP fdP ["self", "left", "right"] (spPair K C) := ok_PPair FP T B
    have G_expanded : FnOk P w K mg base CX0 2 f1 e1 ["pool", "number"] (spPR K C true) := ok_expanded d_expanded T B FP bP mP
    refine d_steps_from.F.ok sc_steps_from (fun vs H Q E h => ?_) (fun cdv A outer s H vs Q E hr h => ?_)
    · obtain ⟨_, _, _, _, _, _, _, _, rfl, _⟩ := h
      rfl
    obtain ⟨x, d, a, b, c, m, ts, t, rfl, hP, hm, hd, hn, hz, hl, q⟩ := h
    have n1 : (pf d a b c).lookup ("pair" : Str) = none := pf_no _ _ _ _ (by decide +kernel) (by decide +kernel) (by decide +kernel) (by decide +kernel)
    obtain ⟨dx, ps, qq, ops, hx, ha, hpm, hS, hops⟩ := hP.at hm
    refine ⟨_, (pss_cons (ps_if (pt_cmpR (op_eqD hr.units) (pe_ix ix_list (pe_fld (pv 0) rfl) (pv 1) (fun _ _ => rfl)) (pe_tup pa_nil) (nomark _)) (pss_one (ps_ret (pe_lst pa_nil))) pss_nil)
 (pss_cons (ps_asg (pe_ix ix_list (pe_fld (pv 0) rfl) (pv 1) (fun _ _ => rfl)) (pg_tup (by rfl) (pgs_cons (pg_name (i := 2) sc_steps_from.nd rfl (Or.inr rfl)) (pgs_cons (pg_name (i := 3) sc_steps_from.nd rfl (Or.inr rfl)) pgs_nil))))
 (pss_cons (ps_setLc (i := 4) (own := [("path", 6), ("after", 7)]) (g := gTup K 2 (gCons (gName 6) (gCons (gName 7) gNil))) (tt := tYes) (by rfl) sc_steps_from.nd rfl rfl (sw_true rfl rfl rfl (by decide +kernel)) (pi_list (pe_call G_steps_from hr rfl d_steps_from.m d_steps_from.F.kp d_steps_from.b .nil pass0 (pa_cons (pv 0) (pa_cons (pv 2) pa_nil)))) (blkOk_by (own := [("path", 6), ("after", 7)]) (N := ["pool", "number", "left", "right", "steps", "whole", "path", "after"]) (sc := defScope s_steps_from) (by decide +kernel)) (fun _ _ _ _ _ => (pg_tup (by rfl) (pgs_cons (pg_name (i := 6) sc_steps_from.nd rfl (Or.inl rfl)) (pgs_cons (pg_name (i := 7) sc_steps_from.nd rfl (Or.inl rfl)) pgs_nil)))) (fun _ _ _ _ _ => pts_nil) (fun _ _ _ _ _ => (pe_tup (pa_cons (pe_joined (PJ.cons pe_str (PJ.cons (pe_fmt (pv 6)) PJ.nil))) (pa_cons (pe_meth (pv 0) T.cl mP GP (hr.mono (by omega)) bP .nil pass0 (pa_cons (pv 7) (pa_cons (pv 3) pa_nil))) pa_nil)))))
 (pss_cons (ps_aug (i := 4) sc_steps_from.nd rfl (Or.inl rfl) (pe_lc (own := [("path", 6), ("after", 7)]) (g := gTup K 2 (gCons (gName 6) (gCons (gName 7) gNil))) (tt := tYes) (by rfl) sc_steps_from.nd (pi_list (pe_call G_steps_from hr rfl d_steps_from.m d_steps_from.F.kp d_steps_from.b .nil pass0 (pa_cons (pv 0) (pa_cons (pv 3) pa_nil)))) (blkOk_by (own := [("path", 6), ("after", 7)]) (N := ["pool", "number", "left", "right", "steps", "whole", "path", "after"]) (sc := defScope s_steps_from) (by decide +kernel)) (fun _ _ _ _ _ => (pg_tup (by rfl) (pgs_cons (pg_name (i := 6) sc_steps_from.nd rfl (Or.inl rfl)) (pgs_cons (pg_name (i := 7) sc_steps_from.nd rfl (Or.inl rfl)) pgs_nil)))) (fun _ _ _ _ _ => pts_nil) (fun _ _ _ _ _ => (pe_tup (pa_cons (pe_joined (PJ.cons pe_str (PJ.cons (pe_fmt (pv 6)) PJ.nil))) (pa_cons (pe_meth (pv 0) T.cl mP GP (hr.mono (by omega)) bP .nil pass0 (pa_cons (pv 2) (pa_cons (pv 7) pa_nil))) pa_nil))))) iop_ext)
 (pss_cons (ps_set (i := 5) sc_steps_from.nd rfl (Or.inl rfl) (pe_call G_expanded (hr.mono (by omega)) rfl d_expanded.m d_expanded.F.kp d_expanded.b .nil pass0 (pa_cons (pv 0) (pa_cons (pv 1) pa_nil))))
 (pss_one (ps_ret (pe_ifExp (pt_cmpR op_isN (pv 5) pe_non (nomark _)) (pv 4) (pe_op op_cat (pe_lst (pa_cons (pe_tup (pa_cons pe_str (pa_cons (pv 5) pa_nil))) pa_nil)) (pv 4)))))))))), ?_⟩
    refine ⟨_, rfl, x, C, dx, _, _, rfl, hx, T.cl, T.n2, pf_p _ _ _ _, _, rfl, a, _, _, _, rfl, rfl, SqL.here ha, atI_nat hpm, zero_le', fun p5 hp5 => ?_⟩
    have s5 := Same.new hp5 (.tup [])
    have hP5 := hP.same s5
    cases t with
    | L =>
      have hops : ops = [] := hops
      subst hops
      refine ⟨.tuple [], .tuple [], ops_L ((Tp.same s5).sqT hS), Dp.tup (SqT.here upd_same) .nil, shapedE, shapedE, true, rfl, iteT ⟨zero_le', fun l hl0 => ?_⟩⟩
      have s6 := Same.new hl0 (.lst [])
      exact q l [] ts _ (hP5.same s6) (Ex4.same (s5.trans s6)) (fun _ _ h => h) (Nat.le_refl _) (s5.free hl0) upd_same .nil
    | N tl tr =>
      obtain ⟨il, ir, rfl, hul, hur⟩ := hops
      have hd : max tl.dp tr.dp + 1 < n + 1 := hd
      have hz : tl.sz + tr.sz ≤ 40 := hz
      refine ⟨_, .tuple [], ops_N ((Tp.same s5).sqT hS), Dp.tup (SqT.here upd_same) .nil, ops_sh _ _, shapedE, false, rfl, iteF ?_⟩
      refine ⟨_, rfl, x, C, dx, _, _, rfl, s5 _ _ hx, T.cl, T.n2, pf_p _ _ _ _, _, rfl, a, _, _, _, rfl, rfl, SqL.here (s5 _ _ ha), atI_nat hpm, qq, _, rfl, (Tp.same s5).sqT hS, rfl, _, _, rfl, _, _, rfl, rfl, ?_⟩
      have x5 : Ex4 d a b c H _ := Ex4.same s5
      generalize (upd H p5 (.tup [])) = H5 at *
      have el := tl.exs_len
      have er := tr.exs_len
      have eq2 : (tl.sz + tr.sz) * (tl.sz + tr.sz) = tl.sz * tl.sz + tr.sz * tr.sz + 2 * (tl.sz * tr.sz) := by
        rw [Nat.add_mul, Nat.mul_add, Nat.mul_add, Nat.mul_comm tr.sz tl.sz]
        omega
      have hl : ts.length + (tl.sz + tr.sz) * (tl.sz + tr.sz) ≤ 900000 := hl
      have pl := tl.sz_pos
      have pr := tr.sz_pos
      have m1 : tl.sz ≤ tl.sz * tr.sz := Nat.le_mul_of_pos_right _ pr
      have m2 : tr.sz ≤ tl.sz * tr.sz := Nat.le_mul_of_pos_left _ pl
      refine ⟨_, rfl, _, rfl, x, d, a, b, c, il, ts, tl, rfl, hP5, hul, by omega, by omega, by omega, by rw [eq2] at hl; omega, fun l1 w1 ts1 H1 P1 e1 pr1 ln1 nl1 hl1 A1 => ?_⟩
      have X1 := x5.trans e1
      have l10 := Ex4.free hP5 x5 nl1
      obtain ⟨ld, la, lb, lc⟩ := hP.fresh l10
      refine ⟨l1, rfl, ⟨_, SqL.here hl1⟩, fun D1 hD1 => ?_⟩
      have D10 := Ex4.free P1 X1 hD1
      obtain ⟨Dd, Da, Db, Dc⟩ := hP.fresh D10
      refine lc_list (K := K) (a := l1) (xs := w1) (fun i G => ∃ (ts' : List Tree) (acc : List V), PoolA K C x d a b c G ts' ∧ Ex4 d a b c H1 G ∧ Pre ts1 ts' ∧ ts'.length ≤ ts1.length + i ∧ G D1 = some (.lst acc) ∧ PlA K G ts' acc ((tl.exs.take i).map fun y => (false :: y.1, Tree.N y.2 tr))) ⟨ts1, [], P1.same (Same.new hD1 _), Ex4.same (Same.new hD1 _), fun _ _ h => h, Nat.le_refl _, upd_same, .nil⟩
        (fun i G _ ⟨_, _, _, ex, _⟩ => SqL.here (ex _ _ hl1 ld la lb lc)) ?_ ?_
      · rintro i v' G hv ⟨ts', acc, PG, exG, prG, lnG, hDG, AG⟩
        obtain ⟨q1, k1, p1, u1, rfl, hq1, hk1, hy1⟩ := A1.get hv
        have hi : i < tl.exs.length := (List.getElem?_eq_some_iff.mp hy1).1
        have tpG := P1.tp exG
        have hmem : (p1, u1) ∈ tl.exs := List.mem_of_getElem? hy1
        have hp1 := (tl.exs_sz _ hmem).2.2.2
        have hp1 : p1.length < tl.sz := hp1
        have lw := AG.len
        rw [List.length_map, List.length_take] at lw
        refine ⟨q1, _, rfl, tpG.sqT hq1, rfl, _, _, rfl, _, _, rfl, rfl, rfl, _, rfl, ?_⟩
        have lpt : (ptx p1).length = p1.length := ptx_len p1
        have lo : (Str.ofString "0").length = 1 := rfl
        have etx : (Str.empty ++ Str.ofString "0") ++ ptx p1 = ptx (false :: p1) := by
          rw [empA]
          exact ptx_c0 p1
        refine ⟨fits (by rw [empA]; omega), _, rfl, .inl ⟨_, rfl, fits (by omega), _, rfl, fits (by rw [slen, empA]; omega), ?_⟩⟩
        obtain ⟨dxG, _, _, _, hxG, _⟩ := id PG
        refine ⟨_, rfl, x, dxG, _, rfl, hxG, n1, _, rfl, _, rfl, x, d, a, b, c, k1, ir, ts', u1, tr, rfl, PG, by omega, prG _ _ hk1, prG _ _ (pr1 _ _ hur), fun k2 ts2 H2 P2 e2 pr2 hk2 ln2 => ?_⟩
        refine ⟨two_le, fun qn hqn => ?_⟩
        have s3 := Same.new hqn (.tup [.str ((Str.empty ++ Str.ofString "0") ++ ptx p1), .int (k2 : Nat)])
        have hD2 := e2 _ _ hDG Dd Da Db Dc
        have hD3 := s3 _ _ hD2
        have hq3 : SqT K (upd H2 qn (.tup [.str ((Str.empty ++ Str.ofString "0") ++ ptx p1), .int (k2 : Nat)])) qn [.str (ptx (false :: p1)), .int (k2 : Nat)] := by
          rw [← etx]
          exact SqT.here upd_same
        have P3 := P2.same s3
        have tp3 := (PG.tp e2).trans (Tp.same s3)
        generalize (upd H2 qn (.tup [.str ((Str.empty ++ Str.ofString "0") ++ ptx p1), .int (k2 : Nat)])) = H3 at *
        refine ⟨acc, hD3, small1000 (by omega), ts2, acc ++ [.ref qn], P3.setL hD3 Da Db Dc, ((exG.trans e2).trans (Ex4.same s3)).setL hD1, prG.trans pr2, by omega, upd_same, ?_⟩
        rw [List.take_succ_eq_append_getElem hi, (List.getElem?_eq_some_iff.mp hy1).2, List.map_append]
        have tp4 : Tp H3 (upd H3 D1 (.lst (acc ++ [.ref qn]))) := Tp.but hD3 But.set
        exact (AG.mono (tp3.trans tp4) pr2).snoc (tp4.sqT hq3) hk2
      · rintro G ⟨ts2, acc, P2, exG, prG, lnG, hDG, AG⟩
        have lw1 := A1.len
        rw [lw1, List.take_of_length_le (Nat.le_refl _)] at AG
        have X2 := X1.trans exG
        refine ⟨.ref D1, rfl, _, rfl, _, rfl, x, d, a, b, c, ir, ts2, tr, rfl, P2, prG _ _ (pr1 _ _ hur), by omega, by omega, by omega, by rw [eq2] at hl; omega, fun l2 w2 ts3 H3 P3 e3 pr3 ln3 nl2 hl2 A2 => ?_⟩
        have X3 := X2.trans e3
        have hD3 := e3 _ _ hDG Dd Da Db Dc
        have l20 := Ex4.free P2 X2 nl2
        obtain ⟨ld2, la2, lb2, lc2⟩ := hP.fresh l20
        have nlD : l2 ≠ D1 := fun z => by rw [z, hDG] at nl2; cases nl2
        have AG3 := AG.mono (P2.tp e3) pr3
        refine ⟨l2, rfl, ⟨_, SqL.here hl2⟩, fun D2 hD2 => ?_⟩
        have D20 := Ex4.free P3 X3 hD2
        obtain ⟨Dd2, Da2, Db2, Dc2⟩ := hP.fresh D20
        have nDD : D2 ≠ D1 := fun z => by rw [z, hD3] at hD2; cases hD2
        refine lc_list (K := K) (a := l2) (xs := w2) (fun i G => ∃ (ts' : List Tree) (ac2 : List V), PoolA K C x d a b c G ts' ∧ Ex4 d a b c H3 G ∧ Pre ts3 ts' ∧ ts'.length ≤ ts3.length + i ∧ G D2 = some (.lst ac2) ∧ PlA K G ts' ac2 ((tr.exs.take i).map fun y => (true :: y.1, Tree.N tl y.2))) ⟨ts3, [], P3.same (Same.new hD2 _), Ex4.same (Same.new hD2 _), fun _ _ h => h, Nat.le_refl _, upd_same, .nil⟩
          (fun i G _ ⟨_, _, _, ex, _⟩ => SqL.here (ex _ _ hl2 ld2 la2 lb2 lc2)) ?_ ?_
        · rintro i v' G hv ⟨ts', ac2, PG, exG2, prG2, lnG2, hDG2, AG2⟩
          obtain ⟨q1, k1, p1, u1, rfl, hq1, hk1, hy1⟩ := A2.get hv
          have hi : i < tr.exs.length := (List.getElem?_eq_some_iff.mp hy1).1
          have tpG := P3.tp exG2
          have hmem : (p1, u1) ∈ tr.exs := List.mem_of_getElem? hy1
          have hp1 : p1.length < tr.sz := (tr.exs_sz _ hmem).2.2.2
          have lw := AG2.len
          rw [List.length_map, List.length_take] at lw
          refine ⟨q1, _, rfl, tpG.sqT hq1, rfl, _, _, rfl, _, _, rfl, rfl, rfl, _, rfl, ?_⟩
          have lpt : (ptx p1).length = p1.length := ptx_len p1
          have lo : (Str.ofString "1").length = 1 := rfl
          have etx : (Str.empty ++ Str.ofString "1") ++ ptx p1 = ptx (true :: p1) := by
            rw [empA]
            exact ptx_c1 p1
          refine ⟨fits (by rw [empA]; omega), _, rfl, .inl ⟨_, rfl, fits (by omega), _, rfl, fits (by rw [slen, empA]; omega), ?_⟩⟩
          obtain ⟨dxG, _, _, _, hxG, _⟩ := id PG
          refine ⟨_, rfl, x, dxG, _, rfl, hxG, n1, _, rfl, _, rfl, x, d, a, b, c, il, k1, ts', tl, u1, rfl, PG, by omega, prG2 _ _ (pr3 _ _ (prG _ _ (pr1 _ _ hul))), prG2 _ _ hk1, fun k2 ts4 H4 P4 e4 pr4 hk2 ln4 => ?_⟩
          refine ⟨two_le, fun qn hqn => ?_⟩
          have s5' := Same.new hqn (.tup [.str ((Str.empty ++ Str.ofString "1") ++ ptx p1), .int (k2 : Nat)])
          have hD4 := e4 _ _ hDG2 Dd2 Da2 Db2 Dc2
          have hD5 := s5' _ _ hD4
          have hq3 : SqT K (upd H4 qn (.tup [.str ((Str.empty ++ Str.ofString "1") ++ ptx p1), .int (k2 : Nat)])) qn [.str (ptx (true :: p1)), .int (k2 : Nat)] := by
            rw [← etx]
            exact SqT.here upd_same
          have P5 := P4.same s5'
          have tp3 := (PG.tp e4).trans (Tp.same s5')
          generalize (upd H4 qn (.tup [.str ((Str.empty ++ Str.ofString "1") ++ ptx p1), .int (k2 : Nat)])) = H6 at *
          refine ⟨ac2, hD5, small1000 (by omega), ts4, ac2 ++ [.ref qn], P5.setL hD5 Da2 Db2 Dc2, ((exG2.trans e4).trans (Ex4.same s5')).setL hD2, prG2.trans pr4, by omega, upd_same, ?_⟩
          rw [List.take_succ_eq_append_getElem hi, (List.getElem?_eq_some_iff.mp hy1).2, List.map_append]
          have tp4 : Tp H6 (upd H6 D2 (.lst (ac2 ++ [.ref qn]))) := Tp.but hD5 But.set
          exact (AG2.mono (tp3.trans tp4) pr4).snoc (tp4.sqT hq3) hk2
        · rintro G2 ⟨ts4, ac2, P4, exG2, prG2, lnG2, hDG2, AG2⟩
          have lw2 := A2.len
          rw [lw2, List.take_of_length_le (Nat.le_refl _)] at AG2
          have hD4 := exG2 _ _ hD3 Dd Da Db Dc
          have lA := AG.len
          have lB := AG2.len
          rw [List.length_map] at lA lB
          refine ⟨D1, D2, acc, ac2, rfl, rfl, hD4, hDG2, fits (by omega), ?_⟩
          have P5 : PoolA K C x d a b c (upd G2 D1 (.lst (acc ++ ac2))) ts4 := P4.setL hD4 Da Db Dc
          have tp5 : Tp G2 (upd G2 D1 (.lst (acc ++ ac2))) := Tp.but hD4 But.set
          have A5 : PlA K (upd G2 D1 (.lst (acc ++ ac2))) ts4 (acc ++ ac2) (tl.exs.map (fun y => (false :: y.1, Tree.N y.2 tr)) ++ tr.exs.map fun y => (true :: y.1, Tree.N tl y.2)) := (AG3.mono ((P3.tp exG2).trans tp5) prG2).app (AG2.mono tp5 (fun _ _ h => h))
          have X5 : Ex4 d a b c H (upd G2 D1 (.lst (acc ++ ac2))) := (X3.trans exG2).setL D10
          have hD5 : (upd G2 D1 (.lst (acc ++ ac2))) D1 = some (.lst (acc ++ ac2)) := upd_same
          have pr4 : Pre ts ts4 := ((pr1.trans prG).trans pr3).trans prG2
          generalize (upd G2 D1 (.lst (acc ++ ac2))) = G5 at *
          refine ⟨_, rfl, _, rfl, x, d, a, b, c, m, ts4, .N tl tr, rfl, P5, by omega, pr4 _ _ hm, (fun z => nomatch z), fun hN H6 s6 => ?_, fun u hu n6 ts6 H6 P6 e6 pr6 hn6 ln6 => ?_⟩
          · cases tr with
            | N tb tc => exact nomatch (show (some (Tree.N (.N tl tb) (.N tl tc)) : Option Tree) = none from hN)
            | L =>
              refine ⟨_, rfl, rfl, _, rfl, ite_yes rfl ⟨_, rfl, ?_⟩⟩
              have e2 : Tree.L.exs.length = 0 := rfl
              have e3 : Tree.L.sz = 1 := rfl
              exact q D1 _ ts4 H6 (P5.same s6) (X5.trans (Ex4.same s6)) pr4 (by show ts4.length + (tl.sz + 1) ≤ ts.length + (tl.sz + 1) * (tl.sz + 1); rw [e3] at eq2 ln3; omega) D10 (s6 _ _ hD5) (A5.mono (Tp.same s6) (fun _ _ h => h))
          · cases tr with
            | L => exact nomatch (show (none : Option Tree) = some u from hu)
            | N tb tc =>
              have hu : some (Tree.N (.N tl tb) (.N tl tc)) = some u := hu
              cases hu
              have e2 := tb.sz_pos
              have e3 := tc.sz_pos
              have e4 : (Tree.N tb tc).sz = tb.sz + tc.sz := rfl
              have hD6 := e6 _ _ hD5 Dd Da Db Dc
              refine ⟨_, rfl, rfl, _, rfl, ite_no rfl ?_⟩
              refine ⟨_, rfl, two_le, fun qn hqn => ⟨one_le, fun ln hln => ⟨_, rfl, ?_⟩⟩⟩
              have s7 := (Same.new hqn (.tup [.str "", .int (n6 : Nat)])).trans (Same.new hln (.lst [.ref qn]))
              have hq7 : SqT K (upd (upd H6 qn (.tup [.str "", .int (n6 : Nat)])) ln (.lst [.ref qn])) qn [.str (ptx []), .int (n6 : Nat)] := SqT.here ((Same.new hln _) _ _ upd_same)
              have hl7 : (upd (upd H6 qn (.tup [.str "", .int (n6 : Nat)])) ln (.lst [.ref qn])) ln = some (.lst [.ref qn]) := upd_same
              have hD7 := s7 _ _ hD6
              have P7 := P6.same s7
              have X7 := (X5.trans e6).trans (Ex4.same s7)
              have A7 := A5.mono ((P5.tp e6).trans (Tp.same s7)) pr6
              generalize (upd (upd H6 qn (.tup [.str "", .int (n6 : Nat)])) ln (.lst [.ref qn])) = H7 at *
              refine ⟨ln, D1, _, _, rfl, rfl, hl7, hD7, fits (by rw [List.length_append]; show 1 + _ ≤ _; omega), fun z hz0 => ?_⟩
              have s8 := Same.new hz0 (.lst ([.ref qn] ++ (acc ++ ac2)))
              refine q z _ ts6 _ (P7.same s8) (X7.trans (Ex4.same s8)) (pr4.trans pr6) ?_ (Ex4.free P7 X7 hz0) upd_same ?_
              · show ts6.length + (tl.sz + (tb.sz + tc.sz)) ≤ ts.length + (tl.sz + (tb.sz + tc.sz)) * (tl.sz + (tb.sz + tc.sz))
                have m3 : 2 * tl.sz ≤ tl.sz * (tb.sz + tc.sz) := by
                  rw [Nat.mul_comm 2]
                  exact Nat.mul_le_mul_left _ (by omega)
                rw [e4] at eq2 ln3 m1 m2 er
                omega
              · exact .cons (Tp.sqT (Tp.same s8) hq7) hn6 (A7.mono (Tp.same s8) (fun _ _ h => h))

abbrev s_found_expansions : Stmt := top 38
theorem sc_found_expansions : FnScope ["pool", "term", "max_size", "origins", "waiting", "number", "origin", "path", "place", "after"] ["pool", "term", "max_size"] (defScope s_found_expansions) := ⟨rfl, rfl, rfl, by decide +kernel, rfl, by decide +kernel, by decide +kernel⟩
theorem ok_found_expansions {Cp CI CZ CL fP fM fG f1 f2 f3 f4 f5 : Addr} {fdP fdM fdG e1 e2 e3 e4 e5 : FuncData} {tk tk2 : Tok} (d_found_expansions : D K mg "found_expansions" s_found_expansions ["pool", "term", "max_size"] f fd) (T : PoolT K mg Cp) (B : Blt mg) (C : Cst mg) (GEN : ∃ t, mg "GENERATOR" = some (.int 0 t)) (C_MAX_EXPANSION_SIZE : mg "MAX_EXPANSION_SIZE" = some (.int 30 tk)) (C_MAX_EXPANSIONS : mg "MAX_EXPANSIONS" = some (.int 500 tk2)) (EI : ErrC K mg "InvalidTerm" CI) (EZ : ErrC K mg "InvalidSize" CZ)
    (FLG : FunS P K mg "TooLarge" "TooLarge.__init__" s_TLInit ["self", "size"] CL fG fdG) (nG : PySem.W.findIn K (.ref CL) "size" = some none)
    (FP : Fun K "pair" "Pool.pair" s_PPair fP fdP) (bP : Binds K fdP ["self", "left", "right"] []) (mP : Meth K Cp "pair" fP)
    (FN : Fun K "number_of" "Pool.number_of" s_PNum fM fdM) (bN : Binds K fdM ["self", "term"] []) (mN : Meth K Cp "number_of" fM)
    (d_is_pair : D K mg "is_pair" s_is_pair ["part"] f1 e1) (d_is_term : D K mg "is_term" s_is_term ["term"] f2 e2) (d_check_term : D K mg "check_term" s_check_term ["term"] f3 e3)
    (d_expanded : D K mg "expanded" s_expanded ["pool", "number"] f4 e4) (d_steps_from : D K mg "steps_from" s_steps_from ["pool", "number"] f5 e5) :
    FnOk P w K mg base (L2N.CX P w) 36 f fd ["pool", "term", "max_size"] (spFnd K Cp CI CZ CL) := by
  have GN : FnOk P w K mg base CX0 8 fM fdM ["self", "term"] (spNum K Cp 7) := ok_PNum FN bN mN T B GEN FP bP mP 7
  have GLG : FnOk P w K mg base CX0 1 fG fdG ["self", "size"] (spS CL "size" okInt) := ok_TLInit FLG nG
  have G_check_term : FnOk P w K mg base (L2N.CX P w) 3 f3 e3 ["term"] (spChk K CI) := ok_check_term d_check_term B C EI d_is_pair d_is_term
  have G_steps_from : FnOk P w K mg base CX0 34 f5 e5 ["pool", "number"] (spStF K Cp 32) := ok_steps_from d_steps_from T B FP bP mP d_expanded 32
  refine Fun.okN d_found_expansions.F sc_found_expansions (fun vs H Q E h => ?_) (fun cdv A outer s H vs Q E hr h => ?_)
  · obtain ⟨_, _, _, _, _, _, _, _, _, rfl, _⟩ := h
    rfl
  obtain ⟨x, d, a, b, c, v, dt, top, ts, rfl, hP, hln, hN, hn, hI, hW⟩ := h
  refine ⟨_, (pss_cons (ps_expr (pe_call G_check_term (hr.mono (by decide)) rfl d_check_term.m d_check_term.F.kp d_check_term.b .nil passD (pa_cons (pv 1) pa_nil)))
 (pss_cons (ps_if (pt_not (pt_chain op_le op_le pe_int (pv 2) (pe_glob (v := .int 30) rfl C_MAX_EXPANSION_SIZE ⟨_, rfl⟩))) (pss_one (L2N.ps_raise rfl (L2N.takes_of rfl rfl rfl rfl) (L2N.pmk_own PySem.F.excBase_ValueError EZ.q EZ.g EZ.k (raises_own EZ.b EZ.t) (by exact rfl)))) pss_nil)
 (pss_cons (ps_set (i := 3) sc_found_expansions.nd rfl (Or.inl rfl) pe_dnewK)
 (pss_cons (ps_set (i := 4) sc_found_expansions.nd rfl (Or.inl rfl) (pe_lst (pa_cons (pe_tup (pa_cons (pe_meth (pv 0) T.cl mN GN (hr.mono (by decide)) bN .nil pass0 (pa_cons (pv 1) pa_nil)) (pa_cons pe_non (pa_cons pe_str pa_nil)))) pa_nil)))
 (pss_cons (ps_while (passes_of rfl) (pt_truth (pv 4) (by intro _; rfl)) (pss_cons (ps_asg (pe_bm0 PySem.F.plainAttrs_list PySem.F.slot_list_pop PySem.F.type_list_pop mt_pop (pv 4)) (pg_tup (by rfl) (pgs_cons (pg_name (i := 5) sc_found_expansions.nd rfl (Or.inr rfl)) (pgs_cons (pg_name (i := 6) sc_found_expansions.nd rfl (Or.inl rfl)) (pgs_cons (pg_name (i := 7) sc_found_expansions.nd rfl (Or.inl rfl)) pgs_nil)))))
 (pss_cons (ps_if (PW.pt (pw_or (pt_cmp (pc_din (hu_of hr) (pv 5) (pv 3)) (by with_unfolding_all rfl)) (pw_or1 (pt_cmpR op_gt (pe_ix ix_list (pe_fld (pv 0) rfl) (pv 5) (fun _ _ => rfl)) (pv 2) (nomark _))))) (pss_one ps_continue) pss_nil)
 (pss_cons (ps_dput (hu_of hr) (pv 3) (pv 5) (pe_tup (pa_cons (pv 6) (pa_cons (pv 7) pa_nil))) (by rfl))
 (pss_cons (ps_if (pt_cmpR op_gt (pe_callB call_lenD (by rfl) B.len PySem.boot_len (pa_cons (pv 3) pa_nil)) (pe_glob (v := .int 500) rfl C_MAX_EXPANSIONS ⟨_, rfl⟩) (nomark _)) (pss_one (L2N.ps_raise rfl (L2N.takes_of rfl rfl rfl rfl) (pmkN_oex FLG.T FLG.iC FLG.tI GLG (hr.mono (by decide)) FLG.b (fun _ _ _ _ _ _ _ h => h.elim) (by exact rfl) FLG.m (pa_cons (pv 2) pa_nil)))) pss_nil)
 (pss_one (ps_aug (i := 4) sc_found_expansions.nd rfl (Or.inl rfl) (pe_lc (own := [("place", 8), ("after", 9)]) (g := gTup K 2 (gCons (gName 8) (gCons (gName 9) gNil))) (tt := tYes) (by rfl) sc_found_expansions.nd (pi_list (pe_call G_steps_from (hr.mono (by decide)) rfl d_steps_from.m d_steps_from.F.kp d_steps_from.b .nil pass0 (pa_cons (pv 0) (pa_cons (pv 5) pa_nil)))) (blkOk_by (own := [("place", 8), ("after", 9)]) (N := ["pool", "term", "max_size", "origins", "waiting", "number", "origin", "path", "place", "after"]) (sc := defScope s_found_expansions) (by decide +kernel)) (fun _ _ _ _ _ => (pg_tup (by rfl) (pgs_cons (pg_name (i := 8) sc_found_expansions.nd rfl (Or.inl rfl)) (pgs_cons (pg_name (i := 9) sc_found_expansions.nd rfl (Or.inl rfl)) pgs_nil)))) (fun _ _ _ _ _ => pts_nil) (fun _ _ _ _ _ => (pe_tup (pa_cons (pv 9) (pa_cons (pv 5) (pa_cons (pv 8) pa_nil)))))) iop_ext)))))))
 (pss_one (ps_ret (pv 3)))))))), ?_⟩
  refine ⟨_, rfl, v, dt, rfl, hN, hn, fun ok H1 s1 => ?_, fun no H1 s1 => hI no H1 s1⟩
  obtain ⟨t, rfl, hsz, hdp⟩ := okd_tree ok
  obtain ⟨hZ, hW⟩ := hW t rfl hsz hdp
  have hnn := tree_nodes t
  refine ⟨_, rfl, _, _, rfl, rfl, _, rfl, ?_⟩
  refine ite2 (fun c1 => ?_) (fun c1 => ?_)
  case refine_2 =>
    have c1 : ¬ 1 ≤ top := fun z => by rw [decide_eq_true z] at c1; exact c1 rfl
    exact ⟨_, rfl, hZ (fun z => c1 z.1) H1 s1⟩
  have c1 : 1 ≤ top := of_decide_eq_true c1
  refine ⟨_, _, rfl, rfl, _, rfl, ?_⟩
  refine ite2 (fun c2 => ?_) (fun c2 => ?_)
  · have c2 : ¬ top ≤ 30 := fun z => by rw [decide_eq_true z] at c2; cases c2
    exact hZ (fun z => c2 z.2) H1 s1
  have c2 : top ≤ 30 := by
    by_cases z : top ≤ 30
    · exact z
    · rw [decide_eq_false z] at c2
      exact absurd rfl c2
  obtain ⟨hB, hQ⟩ := hW c1 c2
  clear hW hZ hI
  obtain ⟨tp, rfl⟩ : ∃ n : Nat, top = (n : Int) := ⟨top.toNat, by omega⟩
  rw [Int.toNat_natCast] at hB hQ
  have c2 : tp ≤ 30 := by omega
  intro o ho
  have so := s1.trans (Same.new ho (.dK []))
  have ho1 : (upd H1 o (.dK [])) o = some (.dK []) := upd_same
  have o0 : H o = none := s1.free ho
  generalize (upd H1 o (.dK [])) = H2 at *
  have n1 : (pf d a b c).lookup ("number_of" : Str) = none := pf_no _ _ _ _ (by decide +kernel) (by decide +kernel) (by decide +kernel) (by decide +kernel)
  have P2 := hP.same so
  obtain ⟨dx2, es2, ps2, cs2, hx2, _⟩ := id P2
  refine ⟨_, rfl, x, dx2, _, rfl, hx2, n1, _, rfl, x, d, a, b, c, v, t, ts, rfl, P2, ta_mono (Tp.same so) hN.dp, by omega, by omega, by omega, fun m ts3 H3 P3 x3 pr3 hm ln3 => ?_⟩
  have X3 : Ex4 d a b c H H3 := (Ex4.same so).trans x3
  obtain ⟨od, oa, ob, oc⟩ := hP.fresh o0
  have ho3 := x3 _ _ ho1 od oa ob oc
  refine ⟨(by show 3 ≤ sizeLine; decide), fun q0 nq0 => ⟨one_le, fun l nl => ?_⟩⟩
  have s4 := (Same.new nq0 (.tup [.int (m : Nat), .non, .str ""])).trans (Same.new nl (.lst [.ref q0]))
  have hq4 : (upd (upd H3 q0 (.tup [.int (m : Nat), .non, .str ""])) l (.lst [.ref q0])) q0 = some (.tup [.int (m : Nat), .non, .str ""]) := (Same.new nl _) _ _ upd_same
  have hl4 : (upd (upd H3 q0 (.tup [.int (m : Nat), .non, .str ""])) l (.lst [.ref q0])) l = some (.lst [.ref q0]) := upd_same
  have l3 : H3 l = none := (Same.new nq0 _).free nl
  have P4 := P3.same s4
  have X4 := X3.trans (Ex4.same s4)
  have ho4 := s4 _ _ ho3
  have l0 := Ex4.free P3 X3 l3
  obtain ⟨ld, la, lb, lc⟩ := hP.fresh l0
  have nlo : l ≠ o := fun z => by rw [z, ho3] at l3; cases l3
  generalize (upd (upd H3 q0 (.tup [.int (m : Nat), .non, .str ""])) l (.lst [.ref q0])) = H4 at *
  have hnt : t.nodes ≤ 23 := by omega
  refine ⟨fun M σ G => ∃ (ts' : List Tree) (O W : List Org) (vs : List V) (x5 x6 x7 : Option V), σ = [some (.ref x), some v, some (.int (tp : Int)), some (.ref o), some (.ref l), x5, x6, x7, none, none] ∧ PoolA K Cp x d a b c G ts' ∧ Ex4 d a b c H G ∧ Pre ts ts' ∧ ts'.length ≤ ts.length + 23 + 870 * O.length ∧ OrgA K G o O ∧ O.length ≤ 500 ∧ G l = some (.lst vs) ∧ WtA K G vs W ∧ W.length ≤ 1 + 30 * O.length ∧ Seek ts' tp t O W ∧ M = 40 * (501 - O.length) + W.length,
    ⟨_, ts3, [], [(m, none, [])], [.ref q0], none, none, none, rfl, P4, X4, pr3, by show ts3.length ≤ ts.length + 23 + 0; omega, ⟨[], ho4, .nil⟩, Nat.zero_le _, hl4, .cons ⟨q0, rfl, SqT.here hq4⟩ .nil, Nat.le_refl _, Seek.start hm (by omega), rfl⟩, ?_⟩
  rintro M σ G ⟨ts', O, W, vs, x5, x6, x7, rfl, PG, XG, prG, lnG, hO, hO5, hlG, hW, hWl, hS, rfl⟩
  rcases List.eq_nil_or_concat W with rfl | ⟨W', ⟨n, g, p⟩, rfl⟩
  · cases hW
    refine ⟨_, rfl, _, .inl ⟨_, SqL.here hlG, rfl⟩, iteF ?_⟩
    exact ⟨_, rfl, hQ o O ts' G PG XG prG (by omega) o0 hO hO5 hS.found⟩
  · rw [List.concat_eq_append] at *
    obtain ⟨vs', v9, rfl, hW', q9, rfl, hq9⟩ := paired_split hW
    have hq9 : SqT K G q9 [.int (n : Int), orgV g, .str (ptx p)] := hq9
    refine ⟨_, rfl, true, .inl ⟨_, SqL.here hlG, ?_⟩, iteT ?_⟩
    · cases vs' <;> rfl
    obtain ⟨u, hu, huz, hpl, _⟩ := hS.wk n g p (List.mem_append_right _ (List.mem_singleton.mpr rfl))
    obtain ⟨kvs, hoG, hkv⟩ := hO
    obtain ⟨hkeys, hklen⟩ := orgA_keys hkv
    have hln2 : (W' ++ [(n, g, p)]).length = W'.length + 1 := List.length_append
    rw [hln2] at hWl
    refine ⟨fun σ' H' => ∃ (ts2 : List Tree) (O2 W2 : List Org) (vs : List V) (x5 x6 x7 : Option V), σ' = [some (.ref x), some v, some (.int (tp : Int)), some (.ref o), some (.ref l), x5, x6, x7, none, none] ∧ PoolA K Cp x d a b c H' ts2 ∧ Ex4 d a b c H H' ∧ Pre ts ts2 ∧ ts2.length ≤ ts.length + 23 + 870 * O2.length ∧ OrgA K H' o O2 ∧ O2.length ≤ 500 ∧ H' l = some (.lst vs) ∧ WtA K H' vs W2 ∧ W2.length ≤ 1 + 30 * O2.length ∧ Seek ts2 tp t O2 W2 ∧ 40 * (501 - O2.length) + W2.length < 40 * (501 - O.length) + (W' ++ [(n, g, p)]).length, ?_, ?_⟩
    · rintro σ' H' ⟨ts2, O2, W2, vs, x5, x6, x7, e1, e2, e3, e4, e5, e6, e7, e8, e9, e10, e11, e12⟩
      exact ⟨_, e12, ts2, O2, W2, vs, x5, x6, x7, e1, e2, e3, e4, e5, e6, e7, e8, e9, e10, e11, rfl⟩
    have edl : (vs' ++ [V.ref q9]).dropLast = vs' := by simp
    have tp1 : Tp G (upd G l (.lst vs')) := Tp.but hlG But.set
    refine ⟨_, rfl, .inl ⟨rfl, _, SqL.here hlG⟩, l, _, .ref q9, rfl, rfl, hlG, by simp, q9, _, rfl, (by rw [edl]; exact tp1.sqT hq9), rfl, _, _, rfl, _, _, rfl, _, _, rfl, rfl, ?_⟩
    rw [edl]
    have hoG1 : (upd G l (.lst vs')) o = some (.dK kvs) := by rw [upd_ne (Ne.symm nlo)]; exact hoG
    have hlG1 : (upd G l (.lst vs')) l = some (.lst vs') := upd_same
    have PG1 : PoolA K Cp x d a b c (upd G l (.lst vs')) ts' := PG.setL hlG la lb lc
    have XG1 : Ex4 d a b c H (upd G l (.lst vs')) := XG.setL l0
    have hW1 : WtA K _ vs' W' := WtA.mono tp1 hW'
    have hkv1 := paired_mono (S := fun (kv : Key × V) (e : Org) => kv.1 = Sum.inl (e.1 : Int) ∧ ∃ q, kv.2 = .ref q ∧ SqT K (upd G l (.lst vs')) q [orgV e.2.1, .str (ptx e.2.2)]) (fun _ _ ⟨h1, q, h2, h3⟩ => ⟨h1, q, h2, tp1.sqT h3⟩) hkv
    clear hkv hW' hoG PG XG hW hq9
    generalize (upd G l (.lst vs')) = G1 at *
    refine ⟨_, rfl, _, rfl, o, _, rfl, DGet.k (k := Sum.inl (n : Int)) hoG1, ?_⟩
    refine ⟨_, rfl, ite_eq (val_keys hkeys n) ?_⟩
    have drop : (n ∈ O.map (·.1) ∨ tp < u.sz) → ∃ (ts2 : List Tree) (O2 W2 : List Org) (vs : List V) (x5 x6 x7 : Option V), [some (V.ref x), some v, some (.int (tp : Int)), some (.ref o), some (.ref l), some (.int (n : Int)), some (orgV g), some (.str (ptx p)), none, none] = [some (.ref x), some v, some (.int (tp : Int)), some (.ref o), some (.ref l), x5, x6, x7, none, none] ∧ PoolA K Cp x d a b c G1 ts2 ∧ Ex4 d a b c H G1 ∧ Pre ts ts2 ∧ ts2.length ≤ ts.length + 23 + 870 * O2.length ∧ OrgA K G1 o O2 ∧ O2.length ≤ 500 ∧ G1 l = some (.lst vs) ∧ WtA K G1 vs W2 ∧ W2.length ≤ 1 + 30 * O2.length ∧ Seek ts2 tp t O2 W2 ∧ 40 * (501 - O2.length) + W2.length < 40 * (501 - O.length) + (W' ++ [(n, g, p)]).length := fun h =>
      ⟨ts', O, W', vs', _, _, _, rfl, PG1, XG1, prG, lnG, ⟨kvs, hoG1, hkv1⟩, hO5, hlG1, hW1, by omega, hS.skip hu h, by rw [hln2]; omega⟩
    by_cases hmem : n ∈ O.map (·.1)
    · exact ite_yes (decide_eq_true hmem) (ite_yes rfl (drop (.inl hmem)))
    refine ite_no (decide_eq_false hmem) ?_
    obtain ⟨dxG, esG, psG, csG, hxG, hdG, haG, hbG, hcG, _⟩ := id PG1
    have hszG : (ts'.map fun t => V.int (t.sz : Nat))[n]? = some (V.int (u.sz : Nat)) := by rw [List.getElem?_map, hu]; rfl
    refine ⟨_, rfl, x, Cp, dxG, _, _, rfl, hxG, T.cl, T.n3, pf_s _ _ _ _, _, rfl, b, _, _, _, rfl, rfl, SqL.here hbG, atI_nat hszG, _, rfl, _, _, rfl, rfl, _, rfl, ?_⟩
    by_cases big : tp < u.sz
    · exact ite_yes (decide_eq_true (by omega)) (drop (.inr big))
    refine ite_no (decide_eq_false (by omega)) ?_
    clear drop
    have hz : u.sz ≤ tp := by omega
    obtain ⟨so1, so2, so3⟩ := hS.org hu hmem hz
    refine ⟨_, rfl, _, rfl, two_le, fun q1 nq1 => ?_⟩
    have sq := Same.new nq1 (.tup [orgV g, .str (ptx p)])
    have PG2 := PG1.same sq
    have XG2 := XG1.trans (Ex4.same sq)
    have hoG2 := sq _ _ hoG1
    have hlG2 := sq _ _ hlG1
    have hW2 : WtA K _ vs' W' := WtA.mono (Tp.same sq) hW1
    have hkv2 := paired_mono (S := fun (kv : Key × V) (e : Org) => kv.1 = Sum.inl (e.1 : Int) ∧ ∃ q, kv.2 = .ref q ∧ SqT K (upd G1 q1 (.tup [orgV g, .str (ptx p)])) q [orgV e.2.1, .str (ptx e.2.2)]) (fun _ _ ⟨h1, q, h2, h3⟩ => ⟨h1, q, h2, (Tp.same sq).sqT h3⟩) hkv1
    have hq1 : SqT K (upd G1 q1 (.tup [orgV g, .str (ptx p)])) q1 [orgV g, .str (ptx p)] := SqT.here upd_same
    clear hkv1 hW1 hoG1 hlG1 hxG hdG haG hbG hcG PG1 XG1
    generalize (upd G1 q1 (.tup [orgV g, .str (ptx p)])) = G2 at *
    have vn : valV kvs (Sum.inl (n : Int)) = none := by
      have e := val_keys hkeys n
      rw [decide_eq_false hmem] at e
      cases ev : valV kvs (Sum.inl (n : Int)) with
      | none => rfl
      | some w => rw [ev] at e; cases e
    have klt : kvs.length < sizeLine := mil (by omega)
    refine ⟨_, rfl, _, rfl, o, _, rfl, DPut.k (k := Sum.inl (n : Int)) hoG2 klt, ?_⟩
    rw [putK_new _ vn]
    have tp3 : Tp G2 (upd G2 o (.dK (kvs ++ [(Sum.inl (n : Int), .ref q1)]))) := fun bb xs hb => by
      rcases hb with hb | ⟨oo, hb⟩
      · exact .inl (by rw [upd_ne (ne_of hb hoG2 (fun z => nomatch z))]; exact hb)
      · exact .inr ⟨oo, by rw [upd_ne (ne_of hb hoG2 (fun z => nomatch z))]; exact hb⟩
    have PG3 : PoolA K Cp x d a b c (upd G2 o (.dK (kvs ++ [(Sum.inl (n : Int), .ref q1)]))) ts' := PG2.setD hoG2 od
    have XG3 : Ex4 d a b c H (upd G2 o (.dK (kvs ++ [(Sum.inl (n : Int), .ref q1)]))) := XG2.setL o0
    have hlG3 : (upd G2 o (.dK (kvs ++ [(Sum.inl (n : Int), .ref q1)]))) l = some (.lst vs') := by rw [upd_ne nlo]; exact hlG2
    have hoG3 : (upd G2 o (.dK (kvs ++ [(Sum.inl (n : Int), .ref q1)]))) o = some (.dK (kvs ++ [(Sum.inl (n : Int), .ref q1)])) := upd_same
    have hW3 : WtA K _ vs' W' := WtA.mono tp3 hW2
    have hkv3 := paired_app (paired_mono (S := fun (kv : Key × V) (e : Org) => kv.1 = Sum.inl (e.1 : Int) ∧ ∃ q, kv.2 = .ref q ∧ SqT K (upd G2 o (.dK (kvs ++ [(Sum.inl (n : Int), .ref q1)]))) q [orgV e.2.1, .str (ptx e.2.2)]) (fun _ _ ⟨h1, q, h2, h3⟩ => ⟨h1, q, h2, tp3.sqT h3⟩) hkv2) (Paired.cons (a := ((Sum.inl (n : Int), .ref q1) : Key × V)) (b := (n, g, p)) ⟨rfl, q1, rfl, tp3.sqT hq1⟩ .nil)
    clear hkv2 hW2 hoG2 hlG2 PG2 XG2
    generalize (upd G2 o (.dK (kvs ++ [(Sum.inl (n : Int), .ref q1)]))) = G3 at *
    refine ⟨_, rfl, o, _, rfl, hoG3, _, _, rfl, rfl, _, rfl, ?_⟩
    have hl1 : (kvs ++ [((Sum.inl (n : Int), .ref q1) : Key × V)]).length = O.length + 1 := by rw [List.length_append, hklen]; rfl
    by_cases many : 500 < O.length + 1
    · refine ite_yes (decide_eq_true (by rw [hl1]; omega)) ?_
      have mn : Many tp t := orgs_many (fun h1 h2 => PG3.inj h1 h2) so1 so2 (by rw [List.length_append]; exact many)
      exact out_own rfl ⟨_, rfl, by omega, by omega⟩ fun e H9 s9 he hx => hB mn e H9 (XG3.trans (Ex4.same s9)) (Ex4.free PG3 XG3 he) hx
    refine ite_no (decide_eq_false (by rw [hl1]; omega)) ?_
    have udp := u.dp_lt
    have usq : u.sz * u.sz ≤ 870 + u.sz := by
      have h1 : u.sz * u.sz ≤ u.sz * 30 := Nat.mul_le_mul_left _ (by omega)
      have h2 : u.sz ≤ 30 := by omega
      rcases Nat.lt_or_ge u.sz 30 with h3 | h3
      · have h4 : u.sz * u.sz ≤ u.sz * 29 := Nat.mul_le_mul_left _ (by omega)
        omega
      · have h5 : u.sz = 30 := by omega
        rw [h5]
        decide
    refine ⟨.ref l, rfl, _, rfl, _, rfl, x, d, a, b, c, n, ts', u, rfl, PG3, hu, by omega, by omega, by omega, by omega, fun ls ws ts2 H4 P4' e4 pr4 ln4 nls hls A4 => ?_⟩
    obtain ⟨ks, k1, k2, k3⟩ := A4.ks
    have lw4 := A4.len
    have XG4 := XG3.trans e4
    have hlG4 := e4 _ _ hlG3 ld la lb lc
    have hoG4 := e4 _ _ hoG3 od oa ob oc
    have tp4 := PG3.tp e4
    have hW4 : WtA K _ vs' W' := WtA.mono tp4 hW3
    have hkv4 := paired_mono (S := fun (kv : Key × V) (e : Org) => kv.1 = Sum.inl (e.1 : Int) ∧ ∃ q, kv.2 = .ref q ∧ SqT K H4 q [orgV e.2.1, .str (ptx e.2.2)]) (fun _ _ ⟨h1, q, h2, h3⟩ => ⟨h1, q, h2, tp4.sqT h3⟩) hkv3
    clear hkv3 hW3 hlG3 hoG3
    refine ⟨ls, rfl, ⟨_, SqL.here hls⟩, fun D hD => ?_⟩
    have sD := Same.new hD (.lst [])
    refine lc_list (K := K) (a := ls) (xs := ws) (fun i G => ∃ acc, Same H4 G ∧ G D = some (.lst acc) ∧ acc.length = i ∧ WtA K G acc (newW n (ks.take i))) ⟨[], sD, upd_same, rfl, by rw [List.take_zero]; exact .nil⟩ (fun i G _ ⟨_, sm, _⟩ => SqL.here (sm _ _ hls)) ?_ ?_
    · rintro i w' G5 hw ⟨acc, sm, hDG, hal, hA⟩
      obtain ⟨z, q, k, rfl, hz5, hk5⟩ := k3 i _ hw
      have hi := (List.getElem?_eq_some_iff.mp hw).1
      have uel := u.exs_len
      refine ⟨z, _, rfl, (Tp.same sm).sqT hz5, rfl, _, _, rfl, _, _, rfl, rfl, rfl, _, rfl, _, rfl, _, rfl, (by show 3 ≤ sizeLine; decide), fun z2 nz2 => ?_⟩
      have s6 := Same.new nz2 (.tup [.int (k : Nat), .int (n : Int), .str (ptx q)])
      have hD6 := s6 _ _ hDG
      have hA6 : WtA K _ acc (newW n (ks.take i)) := WtA.mono (Tp.same s6) hA
      have hz6 : SqT K (upd G5 z2 (.tup [.int (k : Nat), .int (n : Int), .str (ptx q)])) z2 [.int (k : Nat), .int (n : Int), .str (ptx q)] := SqT.here upd_same
      have sm6 := sm.trans s6
      generalize (upd G5 z2 (.tup [.int (k : Nat), .int (n : Int), .str (ptx q)])) = G6 at *
      have tp7 : Tp G6 (upd G6 D (.lst (acc ++ [.ref z2]))) := Tp.but hD6 But.set
      refine ⟨acc, hD6, small1000 (by omega), acc ++ [.ref z2], fun bb oo hb => ?_, upd_same, by rw [List.length_append, hal]; rfl, ?_⟩
      · rw [upd_ne (ne_of_none hb hD)]
        exact sm6 _ _ hb
      · have hki := (List.getElem?_eq_some_iff.mp hk5).1
        rw [List.take_succ_eq_append_getElem hki, (List.getElem?_eq_some_iff.mp hk5).2]
        unfold newW
        rw [List.map_append]
        exact paired_app (WtA.mono tp7 hA6) (.cons ⟨z2, rfl, tp7.sqT hz6⟩ .nil)
    · rintro G5 ⟨acc, sm, hDG, hal, hA⟩
      rw [lw4, ← k1, List.take_of_length_le (Nat.le_refl _)] at hA
      have hl5 := sm _ _ hlG4
      have lW := Paired.length hW4
      have uel := u.exs_len
      refine ⟨l, D, _, _, rfl, rfl, hl5, hDG, milL (by omega), ?_⟩
      have tp5 : Tp G5 (upd G5 l (.lst (vs' ++ acc))) := Tp.but hl5 But.set
      have tp6 := (Tp.same sm).trans tp5
      have nol := nlo
      refine ⟨ts2, O ++ [(n, g, p)], W' ++ newW n ks, vs' ++ acc, _, _, _, rfl, (P4'.same sm).setL hl5 la lb lc, (XG4.trans (Ex4.same sm)).setL l0, prG.trans pr4, by rw [List.length_append, List.length_singleton]; omega, ⟨_, by rw [upd_ne (Ne.symm nol)]; exact sm _ _ hoG4, paired_mono (fun _ _ ⟨h1, q, h2, h3⟩ => ⟨h1, q, h2, tp6.sqT h3⟩) hkv4⟩, by rw [List.length_append, List.length_singleton]; omega, upd_same, paired_app (WtA.mono tp6 hW4) (WtA.mono tp5 hA), ?_, hS.take hu hmem hz c2 pr4 k1 k2, ?_⟩
      · unfold newW
        rw [List.length_append, List.length_append, List.length_map, List.length_singleton]
        omega
      · unfold newW
        rw [hln2, List.length_append, List.length_append, List.length_map, List.length_singleton]
        omega

abbrev s_sizes_inside : Stmt := top 41
theorem sc_sizes_inside : FnScope ["pool", "number", "sizes", "operand"] ["pool", "number"] (defScope s_sizes_inside) := ⟨rfl, rfl, rfl, by decide +kernel, rfl, by decide +kernel, by decide +kernel⟩
theorem ok_sizes_inside {C : Addr} (d_sizes_inside : D K mg "sizes_inside" s_sizes_inside ["pool", "number"] f fd) (T : PoolT K mg C) (B : Blt mg) : ∀ n : Nat, FnOk P w K mg base CX0 n f fd ["pool", "number"] (spSzI K C n)
  | 0 => fn_none fun vs H Q E h => by
    obtain ⟨_, _, _, _, _, _, _, _, _, _, _, h, _⟩ := h
    omega
  | n + 1 => by
    have G_sizes_inside := ok_sizes_inside d_sizes_inside T B n
    refine d_sizes_inside.F.ok sc_sizes_inside (fun vs H Q E h => ?_) (fun cdv A outer s H vs Q E hr h => ?_)
    · obtain ⟨_, _, _, _, _, _, _, _, rfl, _⟩ := h
      rfl
    obtain ⟨x, d, a, b, c, m, ts, t, rfl, hP, hm, hd, hn, hz, q⟩ := h
    obtain ⟨dx0, es0, ps0, cs0, hx0, hd0, ha0, hb0, hc0, _⟩ := id hP
    have hsz : (ts.map fun t => V.int (t.sz : Nat))[m]? = some (V.int (t.sz : Nat)) := by rw [List.getElem?_map, hm]; rfl
    refine ⟨_, (pss_cons (ps_set (i := 2) sc_sizes_inside.nd rfl (Or.inl rfl) (pe_lst (pa_cons (pe_ix ix_list (pe_fld (pv 0) rfl) (pv 1) (fun _ _ => rfl)) pa_nil)))
 (pss_cons (ps_for PassesOwn.never rfl (pi_tup (pe_ix ix_list (pe_fld (pv 0) rfl) (pv 1) (fun _ _ => rfl))) (pg_name (i := 3) sc_sizes_inside.nd rfl (Or.inl rfl))
  (pss_one (ps_aug (i := 2) sc_sizes_inside.nd rfl (Or.inl rfl) (pe_call G_sizes_inside hr rfl d_sizes_inside.m d_sizes_inside.F.kp d_sizes_inside.b .nil pass0 (pa_cons (pv 0) (pa_cons (pv 3) pa_nil))) iop_ext)))
 (pss_one (ps_ret (pv 2))))), ?_⟩
    refine ⟨_, rfl, x, C, dx0, _, _, rfl, hx0, T.cl, T.n3, pf_s _ _ _ _, _, rfl, b, _, _, _, rfl, rfl, SqL.here hb0, atI_nat hsz, one_le, fun l hl0 => ?_⟩
    have s1 := Same.new hl0 (.lst [.int (t.sz : Nat)])
    have hl1 : (upd H l (.lst [.int (t.sz : Nat)])) l = some (.lst [.int (t.sz : Nat)]) := upd_same
    generalize (upd H l (.lst [.int (t.sz : Nat)])) = H1 at *
    obtain ⟨dx, ps, qq, ops, hx, ha, hpm, hS, hops⟩ := (hP.same s1).at hm
    obtain ⟨us, hus, hk⟩ : ∃ us : List Tree, t.szr = (t.sz : Int) :: (us.map Tree.szr).flatten ∧ (ops.length = us.length ∧ ∀ (j : Nat) (v : V), ops[j]? = some v → ∃ (k : Nat) (u : Tree), v = V.int (k : Nat) ∧ ts[k]? = some u ∧ us[j]? = some u ∧ u.dp < n ∧ u.nodes ≤ 1000 ∧ ((us.take (j + 1)).map Tree.szr).flatten.length ≤ 1000) := by
      cases t with
      | L =>
        have hops : ops = [] := hops
        subst hops
        exact ⟨[], rfl, rfl, fun j v h => nomatch h⟩
      | N tl tr =>
        obtain ⟨il, ir, rfl, hl, hr'⟩ := hops
        have hd : max tl.dp tr.dp + 1 < n + 1 := hd
        have hz : tl.nodes + tr.nodes + 1 ≤ 1000 := hz
        refine ⟨[tl, tr], by show _ :: (tl.szr ++ tr.szr) = _ :: (tl.szr ++ (tr.szr ++ [])); rw [List.append_nil]; rfl, rfl, fun j v h => ?_⟩
        have e1 := tl.szr_len
        have e2 := tr.szr_len
        match j, h with
        | 0, h =>
          cases h
          exact ⟨il, tl, rfl, hl, rfl, by omega, by omega, by show (tl.szr ++ []).length ≤ 1000; rw [List.append_nil]; omega⟩
        | 1, h =>
          cases h
          exact ⟨ir, tr, rfl, hr', rfl, by omega, by omega, by show (tl.szr ++ (tr.szr ++ [])).length ≤ 1000; rw [List.append_nil, List.length_append]; omega⟩
        | j + 2, h => simp at h
    obtain ⟨hlen, hk⟩ := hk
    refine ⟨_, rfl, x, C, dx, _, _, rfl, hx, T.cl, T.n2, pf_p _ _ _ _, _, rfl, a, _, _, _, rfl, rfl, SqL.here ha, atI_nat hpm, qq, rfl, ⟨_, hS⟩, for_tup (K := K) (xs := ops) (fun j σ G => ∃ x4 : Option V, σ = [some (.ref x), some (.int m), some (.ref l), x4] ∧ Same H G ∧ Tp H1 G ∧ G l = some (.lst ((((t.sz : Int) :: ((us.take j).map Tree.szr).flatten)).map V.int)))
      ⟨none, rfl, s1, Tp.refl _, hl1⟩ (fun j σ G _ ⟨_, _, _, tp, _⟩ => tp.sqT hS) ?_ ?_⟩
    · rintro j v σ G hv ⟨x4, rfl, sm, tp, hlG⟩
      obtain ⟨k, u, rfl, hu, huj, hud, hun, hul⟩ := hk j v hv
      refine ⟨.ref l, rfl, _, rfl, _, rfl, x, d, a, b, c, k, ts, u, rfl, hP.same sm, hu, hud, by omega, hun, fun z G2 s3 nz hz2 => ?_⟩
      have hl3 := s3 _ _ hlG
      have et : us.take (j + 1) = us.take j ++ [u] := by
        obtain ⟨h1, h2⟩ := List.getElem?_eq_some_iff.mp huj
        rw [List.take_succ_eq_append_getElem h1, h2]
      have e5 : ((us.take (j + 1)).map Tree.szr).flatten = ((us.take j).map Tree.szr).flatten ++ u.szr := by
        rw [et, List.map_append, List.flatten_append]
        show _ ++ (u.szr ++ []) = _
        rw [List.append_nil]
      rw [e5, List.length_append] at hul
      refine ⟨l, z, _, _, rfl, rfl, hl3, hz2, fits (by rw [List.length_map, List.length_map, List.length_cons]; omega), _, rfl, fun e o he => ?_, (tp.trans (Tp.same s3)).trans (Tp.but hl3 But.set), ?_⟩
      · rw [upd_ne (ne_of_none he hl0)]
        exact s3 _ _ (sm _ _ he)
      · rw [upd_same, e5, ← List.map_append]
        rfl
    · rintro σ G ⟨x4, rfl, sm, tp, hlG⟩
      rw [hlen, List.take_of_length_le (Nat.le_refl _), ← hus] at hlG
      exact ⟨_, rfl, q l G sm hl0 hlG⟩

abbrev s_in_order : Stmt := top 40
theorem sc_in_order : FnScope ["pool", "numbers"] ["pool", "numbers"] (defScope s_in_order) := ⟨rfl, rfl, rfl, by decide +kernel, rfl, by decide +kernel, by decide +kernel⟩
def inQ : Str := (PyProof.Rows.envOfC "in_order" (defScope s_in_order) 0 0 .none).qual ++ "<lambda>"
theorem ok_in_order {C ca Pa g1 : Addr} {h1 : FuncData} {TT : List (Addr × Str)} {oc dV kV doc pm ct : Value} {od an : Option Addr} {osl : Array (Option Value)} (lk : K.lookup f = some ⟨oc, od, .func (PySem.W.fnOf "in_order" "in_order" (defArgs s_in_order) (defBody s_in_order) (defScope s_in_order) dV kV doc pm an (.ref ca) ct), osl⟩) (hcd : PySem.W.codeIn K (.ref ca) "in_order" = true) (T : PoolT K mg C) (B : Blt mg)
    (TB : LamX.TabB base mg ca Pa) (hT1 : (Pa, inQ) ∈ TT) (hT2 : ∀ p ∈ TT, p.1 = Pa → p.2 = inQ) (d_sizes_inside : D K mg "sizes_inside" s_sizes_inside ["pool", "number"] g1 h1) :
    FnOk P w K mg base CX0 36 f (PySem.W.fnOf "in_order" "in_order" (defArgs s_in_order) (defBody s_in_order) (defScope s_in_order) dV kV doc pm an (.ref ca) ct) ["pool", "numbers"] (spInO K C TT) := by
  have G_sizes_inside : FnOk P w K mg base CX0 32 g1 h1 ["pool", "number"] (spSzI K C 32) := ok_sizes_inside d_sizes_inside T B 32
  refine fn_of (k := 35) lk hcd sc_in_order (fun vs H Q E h => ?_) (fun A outer s H vs Q E hr h => ?_)
  · obtain ⟨_, _, _, _, _, _, _, _, _, rfl, _⟩ := h
    rfl
  obtain ⟨x, d, a, b, c, o, ts, kvs, ns, rfl, hP, hT, ho, hk, hn, ht, q⟩ := h
  refine ⟨_, (pss_one (ps_ret (pe_sortedLam (T := TT) (kl := 32) (Nl := ["number", "pool"]) (px := "number") (fr := ["pool"]) (js := [0]) hr rfl (by rfl) B.sorted TB rfl hT1 hT2 rfl (NdefX.nscope_by (by rfl)) (by rfl) rfl (fun _ _ _ _ _ _ => rfl) (fun A2 o2 s2 H2 f2 cl2 c2 hr2 => (pe_call G_sizes_inside (hr2.mono (by decide)) rfl d_sizes_inside.m d_sizes_inside.F.kp d_sizes_inside.b .nil pass0 (pa_cons (pe_var (i := 1) rfl (.inr (.inr rfl))) (pa_cons (pe_var (i := 0) rfl (.inl rfl)) pa_nil)))) (pa_cons (pv 1) pa_nil)))), ?_⟩
  refine ⟨_, rfl, hT, _, rfl, fun H2 eN T2 => ⟨o, ixs ns, ns.map (fun n => (trOf ts n).szr), rfl, .inr ⟨kvs, ns.map fun n : Nat => (n : Int), .inl (eN _ _ ho (fun _ => nofun)), by rw [hk, List.map_map]; rfl, by unfold ixs; rw [List.map_map]; rfl⟩, by unfold ixs; rw [List.length_map, List.length_map], fun i y row hy hrow H3 s3 => ?_, fun p bs H3 s3 np np3 hb => ?_⟩⟩
  · unfold ixs at hy
    rw [List.getElem?_map] at hy hrow
    obtain ⟨n, hn', rfl⟩ := Option.map_eq_some_iff.mp hy
    rw [hn'] at hrow
    cases hrow
    obtain ⟨t, ht1, ht2, ht3⟩ := ht n (List.mem_of_getElem? hn')
    have hz : (fun n => (trOf ts n).szr) n = t.szr := by
      show (trOf ts n).szr = _
      rw [trOf_at ht1]
    rw [hz]
    refine ⟨_, rfl, _, rfl, x, d, a, b, c, n, ts, t, rfl, (hP.extN eN).same s3, ht1, ht2, by omega, ht3, fun l H4 s4 nl hl => ⟨s4, ?_⟩⟩
    exact Dp.lst (SqL.here hl) (dp_ints _)
  · obtain ⟨ms, h1, h2⟩ := byRow_nums hb
    have eP := eN.trans (LamX.ExtN.of s3)
    refine q p ms _ (eP.trans (upd_extN np3)) ((T2.ext s3).ext (Same.new np3 _)) (NewX.ext eP (NewX.of np3)) (by rw [h2]; exact upd_same) h1

abbrev s_expansions : Stmt := top 37
theorem sc_expansions : FnScope ["term", "max_size", "pool", "origins", "number"] ["term", "max_size"] (defScope s_expansions) := ⟨rfl, rfl, rfl, by decide +kernel, rfl, by decide +kernel, by decide +kernel⟩
structure DExp (K : PySem.W.Frag) (mg : Str → Option Value) (f : Addr) (fd : FuncData) : Prop where
  F : Fun K "expansions" "expansions" s_expansions f fd
  m : mg "expansions" = some (.ref f)
  b : ∃ ds, Vals [.int 24] ds ∧ Binds K fd ["term", "max_size"] ds
  kb : KBn K fd ["term", "max_size"] 1 ["max_size"] (fun us ws => us ++ ws) (fun vs zs => vs ++ zs)
theorem dexp_mk {K : PySem.W.Frag} {mg : Str → Option Value} {f Dk : Addr} {oc : Value} {od an : Option Addr} {osl : Array (Option Value)} {doc pm cdv ct : Value} {tk : Tok} (l : K.lookup f = some ⟨oc, od, .func (PySem.W.fnOf "expansions" "expansions" (defArgs s_expansions) (defBody s_expansions) (defScope s_expansions) .none (.ref Dk) doc pm an cdv ct), osl⟩)
    (c : PySem.W.codeIn K cdv "expansions" = true) (k : PySem.W.keepIn K (.ref f) = true) (m : mg "expansions" = some (.ref f)) (hk : PySem.W.nsIn K Dk "max_size" = some (some (.int 24 tk))) : DExp K mg f (PySem.W.fnOf "expansions" "expansions" (defArgs s_expansions) (defBody s_expansions) (defScope s_expansions) .none (.ref Dk) doc pm an cdv ct) := by
  have F : FunD K "expansions" "expansions" (defArgs s_expansions) (defBody s_expansions) (defScope s_expansions) [] [("max_size", .int 24)] f (PySem.W.fnOf "expansions" "expansions" (defArgs s_expansions) (defBody s_expansions) (defScope s_expansions) .none (.ref Dk) doc pm an cdv ct) :=
    ⟨⟨oc, od, .none, .ref Dk, doc, pm, an, cdv, ct, osl, rfl, l, c, .inl ⟨rfl, rfl⟩, .inr ⟨Dk, rfl, fun q hq => by rw [List.mem_singleton.mp hq]; exact ⟨_, hk, _, rfl⟩⟩⟩, k⟩
  refine ⟨fun_mk l c k, m, ?_, ?_⟩
  · refine F.binds0 (ps := ["term", "max_size"]) 1 (by simp) rfl fun D doc pm an cdv ct us ks h1 h2 => ?_
    match us, ks, h1, h2 with
    | [u], [k], _, _ => exact ⟨_, _, _, _, _, _, rfl, rfl, rfl⟩
  · refine ⟨fun s us ws _ h1 h2 => ?_, fun r1 r2 => r1.append r2⟩
    match us, ws, h1, h2 with
    | [u], [v], _, _ => exact .of_eq rfl
theorem ok_expansions {Cp CI CZ CL fI g1 g2 : Addr} {fdI h1 h2 : FuncData} {TT : List (Addr × Str)} (d_expansions : DExp K mg f fd) (T : PoolT K mg Cp) (B : Blt mg)
    (M : L2.Mk K Cp fI) (FI : Fun K "__init__" "Pool.__init__" s_PInit fI fdI) (bI : Binds K fdI ["self"] []) (d_found_expansions : D K mg "found_expansions" s_found_expansions ["pool", "term", "max_size"] g1 h1) (d_in_order : D K mg "in_order" s_in_order ["pool", "numbers"] g2 h2)
    (G_found_expansions : FnOk P w K mg base (L2N.CX P w) 36 g1 h1 ["pool", "term", "max_size"] (spFnd K Cp CI CZ CL)) (G_in_order : FnOk P w K mg base CX0 36 g2 h2 ["pool", "numbers"] (spInO K Cp TT)) :
    FnOk P w K mg base (L2N.CX P w) 38 f fd ["term", "max_size"] (spXps K CI CZ CL TT) := by
  have GI : FnOk P w K mg base CX0 1 fI fdI ["self"] (spPInit K Cp) := ok_PInit FI T
  refine Fun.okN d_expansions.F sc_expansions (fun vs H Q E h => ?_) (fun cdv A outer s H vs Q E hr h => ?_)
  · obtain ⟨_, _, _, rfl, _⟩ := h
    rfl
  obtain ⟨v, dt, top, rfl, hT, hN, hn, hI, hW⟩ := h
  refine ⟨_, (pss_cons (ps_set (i := 2) sc_expansions.nd rfl (Or.inr rfl) (pe_make0 M GI (hr.mono (by decide)) rfl T.mgC bI .nil pass0))
 (pss_cons (ps_set (i := 3) sc_expansions.nd rfl (Or.inl rfl) (pe_call G_found_expansions (hr.mono (by decide)) rfl d_found_expansions.m d_found_expansions.F.kp d_found_expansions.b .nil passD (pa_cons (pv 2) (pa_cons (pv 0) (pa_cons (pv 1) pa_nil)))))
 (pss_one (ps_ret (pe_lc (own := [("number", 4)]) (g := gName 4) (tt := tYes) (by rfl) sc_expansions.nd (pi_list (pe_call G_in_order (hr.mono (by decide)) rfl d_in_order.m d_in_order.F.kp d_in_order.b .nil pass0 (pa_cons (pv 2) (pa_cons (pv 3) pa_nil)))) (blkOk_by (own := [("number", 4)]) (N := ["term", "max_size", "pool", "origins", "number"]) (sc := defScope s_expansions) (by decide +kernel)) (fun _ _ _ _ _ => (pg_name (i := 4) sc_expansions.nd rfl (Or.inl rfl))) (fun _ _ _ _ _ => pts_nil) (fun _ _ _ _ _ => (pe_ix (r := rIxL K) ix_list (show PE _ _ (tFld K (tVar 2) "terms") from pe_fld (pv 2) rfl) (pv 4) (fun _ _ => rfl)))))))), ?_⟩
  intro x dx nx ndx nex
  have s0 : Same H (upd (upd H dx (.own x)) x (.ins Cp dx [])) := fun e o he => by
    rw [upd_ne (ne_of_none he nx), upd_ne (ne_of_none he ndx)]
    exact he
  refine ⟨H, x, dx, rfl, s0, nx, upd_same, fun d' a b c H2 P2 s2 z1 z2 z3 z4 => ⟨rfl, ?_⟩⟩
  have exA : ∀ {H4 : Hp}, Ex4 d' a b c H2 H4 → Same H H4 := fun {H4} e4 e o he => e4 e o (s2 _ _ he) (ne_of_none he z1) (ne_of_none he z2) (ne_of_none he z3) (ne_of_none he z4)
  refine ⟨_, rfl, _, rfl, _, rfl, x, d', a, b, c, v, dt, top, [.L], rfl, P2, (by show 1 ≤ 440000; omega), hN.tp (Tp.same s2), hn, fun no H' s' => hI no H' (s2.trans s'), fun t ht hz hd => ?_⟩
  obtain ⟨hZ, hW⟩ := hW t ht hz hd
  refine ⟨fun no H' s' => hZ no H' (s2.trans s'), fun c1 c2 => ?_⟩
  obtain ⟨hB, hQ⟩ := hW c1 c2
  refine ⟨fun mn e H' ex he hx => hB mn e H' (exA ex) (s2.free he) hx, fun o O ts' H3 P3 x3 pr3 ln3 ho hO hO5 hF => ?_⟩
  obtain ⟨kvs, hoG, hkv⟩ := hO
  obtain ⟨hkeys, hklen⟩ := orgA_keys hkv
  have s3 := exA x3
  have htop : top.toNat ≤ 30 := by omega
  refine ⟨_, rfl, _, rfl, x, d', a, b, c, o, ts', kvs, O.map (·.1), rfl, P3, hT.ext s3, hoG, hkeys, by rw [List.length_map]; omega, fun n hn => ?_, fun p ms H4 eN T4 np hp hord => ?_⟩
  · obtain ⟨⟨n', g, pp⟩, h1, h2⟩ := List.mem_map.mp hn
    cases h2
    obtain ⟨u, a1, a2⟩ := (show OrgOk ts' top.toNat t O from hF.ok).tree h1
    have := a2.sz
    have := u.dp_lt
    have := tree_nodes u
    exact ⟨u, a1, by omega, by omega⟩
  · have P4 := P3.extN eN
    obtain ⟨hA, hPw, hlen⟩ := found_all (fun h1 h2 => P4.inj h1 h2) hF hord
    have eH := (LamX.ExtN.of s3).trans eN
    obtain ⟨dx4, es4, ps4, cs4, hx4, _, _, _, hc4, _, _, _, _, _, dd4⟩ := id P4
    refine ⟨p, rfl, ⟨_, SqL.here hp⟩, fun D hD => ?_⟩
    have sD := Same.new hD (.lst [])
    have lms : ms.length = O.length := by rw [← hlen, List.length_map]
    refine lc_list (K := K) (a := p) (xs := ixs ms) (fun i G => ∃ acc, Same H4 G ∧ G D = some (.lst acc) ∧ acc.length = i ∧ DpAll K G acc (((ms.take i).map (trOf ts')).map Tree.d)) ⟨[], sD, upd_same, rfl, .nil⟩ (fun i G _ ⟨_, sm, _⟩ => SqL.here (sm _ _ hp)) ?_ ?_
    · rintro i w' G5 hw ⟨acc, sm, hDG, hal, hAc⟩
      unfold ixs at hw
      rw [List.getElem?_map] at hw
      obtain ⟨n, hn, rfl⟩ := Option.map_eq_some_iff.mp hw
      have hi := (List.getElem?_eq_some_iff.mp hn).1
      obtain ⟨⟨n', g, pp⟩, h1, h2⟩ := List.mem_map.mp (hord.1.mem_iff.mp (List.mem_of_getElem? hn))
      cases h2
      obtain ⟨u, a1, a2⟩ := (show OrgOk ts' top.toNat t O from hF.ok).tree h1
      obtain ⟨w9, hw1, hw2⟩ := dpAll_at dd4 n' u.d (by rw [List.getElem?_map, a1]; rfl)
      refine ⟨rfl, _, rfl, x, Cp, dx4, _, _, rfl, sm _ _ hx4, T.cl, T.n4, pf_t _ _ _ _, _, rfl, c, _, _, w9, rfl, rfl, SqL.here (sm _ _ hc4), atI_nat hw1, ?_⟩
      have tp7 : Tp G5 (upd G5 D (.lst (acc ++ [w9]))) := Tp.but hDG But.set
      refine ⟨acc, hDG, small1000 (by omega), acc ++ [w9], fun bb oo hb => ?_, upd_same, by rw [List.length_append, hal]; rfl, ?_⟩
      · rw [upd_ne (ne_of_none hb hD)]
        exact sm _ _ hb
      · rw [List.take_succ_eq_append_getElem hi, (List.getElem?_eq_some_iff.mp hn).2, List.map_append, List.map_append]
        refine dpAll_snoc (dpAll_tp tp7 hAc) ?_
        rw [trOf_at a1]
        exact ta_mono tp7 (ta_mono (Tp.same sm) hw2)
    · rintro G5 ⟨acc, sm, hDG, hal, hAc⟩
      have e1 : (ixs ms).length = ms.length := List.length_map _
      rw [e1, List.take_of_length_le (Nat.le_refl _)] at hAc
      exact hQ D acc _ G5 (eH.trans (LamX.ExtN.of sm)) (T4.ext sm) (NewX.ext eH (NewX.of hD)) hDG hAc hA hPw (by omega)

abbrev s_law : Stmt := top 65
theorem sc_law : FnScope ["_law_script", "_law_rng", "_law_turn", "_law_some", "_law_expected", "_law_again", "_law_result", "_law_plain", "_law_words", "_law_bad", "_law_comb_here", "_law_size_here", "_law_term_here", "_law_text"] ["_law_script"] (defScope s_law) := ⟨rfl, rfl, rfl, by decide +kernel, rfl, by decide +kernel, by decide +kernel⟩
abbrev s__law_try : Stmt := top 49
theorem sc__law_try : FnScope ["_law_ask", "_law_e", "_law_word"] ["_law_ask"] (defScope s__law_try) := ⟨rfl, rfl, rfl, by decide +kernel, rfl, by decide +kernel, by decide +kernel⟩
def lamQ : Str := (PyProof.Rows.envOfC "law" (defScope s_law) 0 0 .none).qual ++ "<lambda>"
theorem ok_law {Cp fI fP fM fL CT CI CZ CL Pt Pa ca fs c : Addr} {fdI fdP fdM fdL : FuncData} {tk2 tk3 : Tok} {cl : Nat → Addr} {word : Addr → Option Str} {fld : Addr → Option Addr → Hp → V → Prop} {oc dV kV doc pm ct oca kVa doca pma cta dVa : Value} {od an oda ana : Option Addr} {osl osla : Array (Option Value)} {g0 g1 g2 g3 g4 g5 g6 g7 g8 g9 g10 g11 g12 g13 g14 g15 g16 g17 g18 g19 g20 g21 g22 g23 g24 g25 g26 g27 g28 : Addr} {h0 h1 h2 h3 h4 h5 h6 h7 h8 h9 h10 h11 h12 h13 h14 h15 h16 h17 h18 h19 h20 h21 h22 h23 h24 h25 h26 h27 h28 : FuncData}
    (lk : K.lookup f = some ⟨oc, od, .func (PySem.W.fnOf "law" "law" (defArgs s_law) (defBody s_law) (defScope s_law) dV kV doc pm an (.ref c) ct), osl⟩) (hcd : PySem.W.codeIn K (.ref c) "law" = true) (TB : LamX.TabB base mg c Pt) (TBa : LamX.TabB base mg ca Pa) (hnp : Pt ≠ Pa) (B : Blt mg) (C : Cst mg)
    (hwd : ∀ D nm, word D = some nm → ∃ j, Isw K cl D j ∧ nm = en j) (w0 : word CI = some (en 0)) (w5 : word CL = some (en 5)) (w6 : word CZ = some (en 6))
    (hfld : fld = fun D dd H v => ((D = CI ∨ D = CZ) ∧ v = .non) ∨ (D = CL ∧ ∃ (e : Addr) (fs : List (Str × V)), dd = some e ∧ H e = some (.xd fs) ∧ fs.lookup ("size" : Str) = some v))
    (hx : ∀ D nm, word D = some nm → XfC K D ∧ PySem.W.findIn K (.ref D) "position" = some none ∧ PySem.W.findIn K (.ref D) "name" = some none ∧ PySem.W.findIn K (.ref D) "size" = some none ∧ PySem.W.findIn K (.ref D) "row" = some none)
    (M : Errs mg cl) (xc0 : ExcC K CI) (xc5 : ExcC K CL) (xc6 : ExcC K CZ) (xm0 : PySem.W.exmOne K (.ref CI) (.ref CT) = some true) (xm5 : PySem.W.exmOne K (.ref CL) (.ref CT) = some true) (xm6 : PySem.W.exmOne K (.ref CZ) (.ref CT) = some true) (EI : ErrC K mg "InvalidTerm" CI) (EZ : ErrC K mg "InvalidSize" CZ) (FL : FunS P K mg "TooLarge" "TooLarge.__init__" s_TLInit ["self", "size"] CL fL fdL) (nL : PySem.W.findIn K (.ref CL) "size" = some none) (mT : mg "TermError" = some (.ref CT))
    (lka : K.lookup fs = some ⟨oca, oda, .func (PySem.W.fnOf "in_order" "in_order" (defArgs s_in_order) (defBody s_in_order) (defScope s_in_order) dVa kVa doca pma ana (.ref ca) cta), osla⟩) (hcda : PySem.W.codeIn K (.ref ca) "in_order" = true)
    (GEN : ∃ t, mg "GENERATOR" = some (.int 0 t)) (C_MAX_EXPANSION_SIZE : mg "MAX_EXPANSION_SIZE" = some (.int 30 tk2)) (C_MAX_EXPANSIONS : mg "MAX_EXPANSIONS" = some (.int 500 tk3))
    (T : PoolT K mg Cp) (MM : L2.Mk K Cp fI) (FI : Fun K "__init__" "Pool.__init__" s_PInit fI fdI) (bI : Binds K fdI ["self"] []) (FP : Fun K "pair" "Pool.pair" s_PPair fP fdP) (bP : Binds K fdP ["self", "left", "right"] []) (mP : Meth K Cp "pair" fP)
    (FN : Fun K "number_of" "Pool.number_of" s_PNum fM fdM) (bN : Binds K fdM ["self", "term"] []) (mN : Meth K Cp "number_of" fM)
    {ge : Addr} {he : FuncData} (d_expansions : DExp K mg ge he)
    (d_in_order : D K mg "in_order" s_in_order ["pool", "numbers"] fs (PySem.W.fnOf "in_order" "in_order" (defArgs s_in_order) (defBody s_in_order) (defScope s_in_order) dVa kVa doca pma ana (.ref ca) cta))
    (d__law_draws : D K mg "_law_draws" s__law_draws ["_law_script"] g0 h0) (d__law_draw : D K mg "_law_draw" s__law_draw ["_law_rng", "_law_amount"] g1 h1) (d__law_pick : D K mg "_law_pick" s__law_pick ["_law_rng", "_law_terms"] g2 h2) (d__law_same : D K mg "_law_same" s__law_same ["_law_result", "_law_expected"] g3 h3) (d__law_error_name : D K mg "_law_error_name" s__law_error_name ["_law_e"] g4 h4) (d__law_error_field : D K mg "_law_error_field" s__law_error_field ["_law_e", "_law_word"] g5 h5) (d__law_try : D K mg "_law_try" s__law_try ["_law_ask"] g6 h6) (d__law_comb : D K mg "_law_comb" s__law_comb ["_law_many", "_law_onleft"] g7 h7) (d__law_term : D K mg "_law_term" s__law_term ["_law_rng", "_law_many", "_law_cap"] g8 h8) (d__law_any_term : D K mg "_law_any_term" s__law_any_term ["_law_rng", "_law_top"] g9 h9) (d__law_size : D K mg "_law_size" s__law_size ["_law_term_here"] g10 h10) (d__law_format : D K mg "_law_format" s__law_format ["_law_term_here"] g11 h11) (d__law_paths : D K mg "_law_paths" s__law_paths ["_law_term_here", "_law_spot"] g12 h12) (d__law_subterm : D K mg "_law_subterm" s__law_subterm ["_law_term_here", "_law_spot"] g13 h13) (d__law_replace : D K mg "_law_replace" s__law_replace ["_law_term_here", "_law_spot", "_law_new"] g14 h14) (d__law_expanded : D K mg "_law_expanded" s__law_expanded ["_law_some"] g15 h15) (d__law_contracted : D K mg "_law_contracted" s__law_contracted ["_law_some"] g16 h16) (d__law_rewrite : D K mg "_law_rewrite" s__law_rewrite ["_law_term_here", "_law_spot", "_law_onward"] g17 h17) (d__law_steps : D K mg "_law_steps" s__law_steps ["_law_term_here"] g18 h18) (d__law_invalid_term : D K mg "_law_invalid_term" s__law_invalid_term ["_law_rng"] g19 h19) (d__law_expansions : D K mg "_law_expansions" s__law_expansions ["_law_term_here", "_law_top"] g20 h20) (d__law_sort_key : D K mg "_law_sort_key" s__law_sort_key ["_law_term_here"] g21 h21) (d_is_pair : D K mg "is_pair" s_is_pair ["part"] g22 h22) (d_is_term : D K mg "is_term" s_is_term ["term"] g23 h23) (d_check_term : D K mg "check_term" s_check_term ["term"] g24 h24) (d_expanded : D K mg "expanded" s_expanded ["pool", "number"] g25 h25) (d_steps_from : D K mg "steps_from" s_steps_from ["pool", "number"] g26 h26) (d_found_expansions : D K mg "found_expansions" s_found_expansions ["pool", "term", "max_size"] g27 h27) (d_sizes_inside : D K mg "sizes_inside" s_sizes_inside ["pool", "number"] g28 h28) :
    FnOk P w K mg base CX0 64 f (PySem.W.fnOf "law" "law" (defArgs s_law) (defBody s_law) (defScope s_law) dV kV doc pm an (.ref c) ct) ["_law_script"] (spLawTs K [Pt, Pa]) := by
  have hm1 : (Pt, lamQ) ∈ [(Pt, lamQ), (Pa, inQ)] := List.mem_cons_self
  have hu1 : ∀ p ∈ [(Pt, lamQ), (Pa, inQ)], p.1 = Pt → p.2 = lamQ := fun p hp e => by
    rcases List.mem_cons.mp hp with rfl | hp
    · rfl
    · rw [List.mem_singleton.mp hp] at e
      exact absurd e.symm hnp
  have hu2 : ∀ p ∈ [(Pt, lamQ), (Pa, inQ)], p.1 = Pa → p.2 = inQ := fun p hp e => by
    rcases List.mem_cons.mp hp with rfl | hp
    · exact absurd e hnp
    · rw [List.mem_singleton.mp hp]
  have G__law_draws := ok__law_draws (P := P) (w := w) (base := base) d__law_draws B
  have G__law_draw := ok__law_drawC (P := P) (w := w) (base := base) d__law_draw B
  have G__law_same : FnOk P w K mg base CX0 30 _ _ ["_law_result", "_law_expected"] (spSame K 30) := ok__law_same d__law_same B 30
  have G__law_sort_key : FnOk P w K mg base CX0 32 _ _ ["_law_term_here"] (spKeyR K 32) := ok__law_sort_key d__law_sort_key 32
  have G__law_any_term := ok__law_any_termC (P := P) (w := w) (base := base) d__law_any_term B d__law_draw d__law_comb d__law_term
  have G__law_invalid_term := ok__law_invalid_term (P := P) (w := w) (base := base) d__law_invalid_term B d__law_draw d__law_pick d__law_comb d__law_term
  have G__law_comb := ok__law_combX (P := P) (w := w) (base := base) d__law_comb B
  have G__law_expansions := ok__law_expansions (P := P) (w := w) (base := base) d__law_expansions B d__law_size d__law_format d__law_paths d__law_rewrite d__law_subterm d__law_expanded d__law_replace d__law_contracted d__law_steps
  have G_found_expansions := ok_found_expansions (P := P) (w := w) (base := base) d_found_expansions T B C GEN C_MAX_EXPANSION_SIZE C_MAX_EXPANSIONS EI EZ FL nL FP bP mP FN bN mN d_is_pair d_is_term d_check_term d_expanded d_steps_from
  have G_in_order : FnOk P w K mg base CX0 36 fs _ ["pool", "numbers"] (spInO K Cp [(Pt, lamQ), (Pa, inQ)]) := ok_in_order lka hcda T B TBa (List.mem_cons_of_mem _ (List.mem_singleton.mpr rfl)) hu2 d_sizes_inside
  have G_expansions := ok_expansions (P := P) (w := w) (base := base) d_expansions T B MM FI bI d_found_expansions d_in_order G_found_expansions G_in_order
  obtain ⟨dsC, hvC, hbC⟩ := d_expansions.b
  have GN : FnB P w K mg base 3 g4 h4 ["_law_e"] (spName2 K CT word) := (ok__law_error_name d__law_error_name B M hwd).mono (by decide)
  have GF : FnB P w K mg base 3 g5 h5 ["_law_e", "_law_word"] (spField word fld) := (ok__law_error_field d__law_error_field B hx fun D nm dd H v z y => by
    rw [hfld] at y
    rcases y with ⟨rfl | rfl, rfl⟩ | ⟨rfl, e, fs, h1, h2, h3⟩
    · exact ⟨0, by decide, Option.some.inj (z.symm.trans w0), .inl ⟨by decide, rfl⟩⟩
    · exact ⟨6, by decide, Option.some.inj (z.symm.trans w6), .inl ⟨by decide, rfl⟩⟩
    · exact ⟨5, by decide, Option.some.inj (z.symm.trans w5), .inr ⟨e, fs, by decide, h1, h2, h3⟩⟩).mono (by decide)
  have hfs : ∀ D dd H H' v, Same H H' → fld D dd H v → fld D dd H' v := fun D dd H H' v sm y => by
    rw [hfld] at y ⊢
    exact y.imp id fun ⟨a, e, fs, h1, h2, h3⟩ => ⟨a, e, fs, h1, sm _ _ h2, h3⟩
  have wL := w5
  obtain ⟨ocT, odT, kVT, docT, pmT, anT, cdT, ctT, oslT, rfl, lkT, hcT⟩ := d__law_try.F.ex
  refine fn_of (k := 63) lk hcd sc_law (fun vs H Q E h => ?_) (fun A outer s H vs Q E hr h => ?_)
  · obtain ⟨_, _, rfl, _⟩ := h
    rfl
  obtain ⟨a, ns, rfl, hS, hP, q⟩ := h
  suffices z : ∃ t, PSs (cxOf CX0 P w K mg base ["_law_script", "_law_rng", "_law_turn", "_law_some", "_law_expected", "_law_again", "_law_result", "_law_plain", "_law_words", "_law_bad", "_law_comb_here", "_law_size_here", "_law_term_here", "_law_text"] "law" (defScope s_law) f (.ref c) A outer s H E).nox (defBody s_law) t ∧ t { nx := fun _ H' => Q .non H', rt := Q } (L2.start ["_law_script", "_law_rng", "_law_turn", "_law_some", "_law_expected", "_law_again", "_law_result", "_law_plain", "_law_words", "_law_bad", "_law_comb_here", "_law_size_here", "_law_term_here", "_law_text"] [.ref a]) H from z.elim fun t y => ⟨t, y.1.nox, y.2⟩
  refine ⟨_, (pss_cons (ps_set (i := 1) sc_law.nd rfl (Or.inl rfl) (pe_call G__law_draws (hr.mono (by decide)) rfl d__law_draws.m d__law_draws.F.kp d__law_draws.b .nil pass0 (pa_cons (pv 0) pa_nil)))
 (pss_cons (ps_for PassesOwn.never rfl (pi_range1 (by rfl) B.range (pa_cons pe_int pa_nil)) (pg_name (i := 2) sc_law.nd rfl (Or.inl rfl))
  (pss_cons (ps_asg (pe_tup (pa_cons (pe_call G__law_any_term (hr.mono (by decide)) rfl d__law_any_term.m d__law_any_term.F.kp d__law_any_term.b .nil pass0 (pa_cons (pv 1) (pa_cons pe_int pa_nil))) (pa_cons (pe_op op_add pe_int (pe_call G__law_draw (hr.mono (by decide)) rfl d__law_draw.m d__law_draw.F.kp d__law_draw.b .nil pass0 (pa_cons (pv 1) (pa_cons pe_int pa_nil)))) pa_nil))) (pg_tup (by rfl) (pgs_cons (pg_name (i := 12) sc_law.nd rfl (Or.inr rfl)) (pgs_cons (pg_name (i := 11) sc_law.nd rfl (Or.inr rfl)) pgs_nil))))
 (pss_cons (ps_set (i := 3) sc_law.nd rfl (Or.inr rfl) (pe_call G__law_expansions (hr.mono (by decide)) rfl d__law_expansions.m d__law_expansions.F.kp d__law_expansions.b .nil pass0 (pa_cons (pv 12) (pa_cons (pv 11) pa_nil))))
 (pss_cons (ps_set (i := 4) sc_law.nd rfl (Or.inl rfl) (pe_tup (pa_cons pe_str (pa_cons (pv 11) pa_nil))))
 (C8.pss_cut (ps_if (pt_cmpR op_le (pe_callB call_lenD (by rfl) B.len PySem.boot_len (pa_cons (pv 3) pa_nil)) pe_int (nomark _)) (pss_one (ps_set (i := 4) sc_law.nd rfl (Or.inl rfl) (pe_tup (pa_cons pe_str (pa_cons (pe_sortedDef G__law_sort_key (hr.mono (by decide)) rfl (by rfl) B.sorted (by rfl) d__law_sort_key.m d__law_sort_key.b (pa_cons (pe_lc (own := [("_law_text", 13)]) (g := gName 13) (tt := tYes) (by rfl) sc_law.nd (pi_list (pe_callB (call_sortedDS (by rfl) hr.units) (by rfl) B.sorted (by decide +kernel) (pa_cons (pv 3) pa_nil))) (blkOk_by (own := [("_law_text", 13)]) (N := ["_law_script", "_law_rng", "_law_turn", "_law_some", "_law_expected", "_law_again", "_law_result", "_law_plain", "_law_words", "_law_bad", "_law_comb_here", "_law_size_here", "_law_term_here", "_law_text"]) (sc := defScope s_law) (by decide +kernel)) (fun _ _ _ _ _ => (pg_name (i := 13) sc_law.nd rfl (Or.inl rfl))) (fun _ _ _ _ _ => pts_nil) (fun _ _ _ _ _ => (pe_ix (r := rIxT K) ix_tup (pe_dget (hu_of hr) (pv 3) (pv 13) (fun _ _ => rfl)) pe_int (fun _ _ => rfl)))) pa_nil)) pa_nil))))) pss_nil)
 (pss_one (ps_for PassesOwn.never rfl (pi_range1 (by rfl) B.range (pa_cons pe_int pa_nil)) (pg_name (i := 5) sc_law.nd rfl (Or.inl rfl))
  (pss_cons (ps_set (i := 6) sc_law.nd rfl (Or.inl rfl) (pe_lamN (T := [(Pt, lamQ), (Pa, inQ)]) (TT := TTry2 K CT word fld) (t := fun E => tCallN 1 1 (spXps K CI CZ CL [(Pt, lamQ), (Pa, inQ)]) (fun vs zs => vs ++ zs) E (tCons (tVar 12) tNil) (tCons (tVar 11) tNil)) rfl d__law_try.m d__law_try.F.kp lkT hcT d__law_try.b sc__law_try rfl (.inl rfl)
  (try_gives2 rfl rfl rfl rfl rfl rfl mT d__law_error_name.m d__law_error_field.m d__law_error_name.F.kp d__law_error_field.F.kp d__law_error_name.b d__law_error_field.b GN GF) TB rfl hm1 hu1 (hr.mono (by decide)) (by decide : 40 ≤ 55 + 1) (LamX.lamS_by (by rfl)) rfl (fun _ _ _ _ _ => rfl)
  (fun A2 outer2 s2 H2 E2 f2 c2 hr2 => (pe_callN (ks := ["max_size"]) (n := 1) (E := E2) G_expansions (hr2.mono (by decide)) rfl d_expansions.m d_expansions.F.kp d_expansions.kb passL (pa_cons (pe_var (i := 12) rfl (.inr (.inr rfl))) pa_nil) (pk_cons (pe_var (i := 11) rfl (.inr (.inr rfl))) pk_nil)))))
 (pss_cons (ps_if (pt_not (pt_val (pe_call G__law_same (hr.mono (by decide)) rfl d__law_same.m d__law_same.F.kp d__law_same.b .nil pass0 (pa_cons (pv 6) (pa_cons (pv 4) pa_nil))))) (pss_one (ps_ret pe_bl)) pss_nil)
 (pss_one (ps_if (pt_cmpR op_eq (pe_ix ix_tup (pv 6) pe_int (fun _ _ => rfl)) pe_str (nomark _)) (pss_cons (ps_expr (pe_bm PySem.F.plainAttrs_list PySem.F.slot_list_append PySem.F.type_list_append mt_append (pe_ix ix_tup (pv 6) pe_int (fun _ _ => rfl)) (pa_cons (pe_tup pa_nil) pa_nil)))
 (pss_one (ps_expr (pe_bm0 PySem.F.plainAttrs_list PySem.F.slot_list_reverse PySem.F.type_list_reverse mt_reverse (pe_ix ix_tup (pv 6) pe_int (fun _ _ => rfl)))))) pss_nil)))))))))))
 (pss_cons (ps_set (i := 10) sc_law.nd rfl (Or.inr rfl) (pe_call G__law_comb (hr.mono (by decide)) rfl d__law_comb.m d__law_comb.F.kp d__law_comb.b .nil pass0 (pa_cons (pe_op op_add pe_int (pe_call G__law_draw (hr.mono (by decide)) rfl d__law_draw.m d__law_draw.F.kp d__law_draw.b .nil pass0 (pa_cons (pv 1) (pa_cons pe_int pa_nil)))) (pa_cons pe_bl pa_nil))))
 (pss_cons (ps_set (i := 7) sc_law.nd rfl (Or.inr rfl) (pe_call G__law_expansions (hr.mono (by decide)) rfl d__law_expansions.m d__law_expansions.F.kp d__law_expansions.b .nil pass0 (pa_cons (pv 10) (pa_cons pe_int pa_nil))))
 (pss_cons (ps_setLc (i := 4) (own := [("_law_text", 13)]) (g := gName 13) (tt := tYes) (by rfl) sc_law.nd rfl rfl (sw_true rfl rfl rfl (by decide +kernel)) (pi_list (pe_callB (call_sortedDS (by rfl) hr.units) (by rfl) B.sorted (by decide +kernel) (pa_cons (pv 7) pa_nil))) (blkOk_by (own := [("_law_text", 13)]) (N := ["_law_script", "_law_rng", "_law_turn", "_law_some", "_law_expected", "_law_again", "_law_result", "_law_plain", "_law_words", "_law_bad", "_law_comb_here", "_law_size_here", "_law_term_here", "_law_text"]) (sc := defScope s_law) (by decide +kernel)) (fun _ _ _ _ _ => (pg_name (i := 13) sc_law.nd rfl (Or.inl rfl))) (fun _ _ _ _ _ => pts_nil) (fun _ _ _ _ _ => (pe_ix (r := rIxT K) ix_tup (pe_dget (hu_of hr) (pv 7) (pv 13) (fun _ _ => rfl)) pe_int (fun _ _ => rfl))))
 (C8.pss_cut (ps_if (PW.pt (pw_and (pt_cmpR op_le (pe_callB call_len_seq (by rfl) B.len PySem.boot_len (pa_cons (pv 4) pa_nil)) pe_int (nomark _)) (pw_and1 (pt_not (pt_val (pe_call G__law_same (hr.mono (by decide)) rfl d__law_same.m d__law_same.F.kp d__law_same.b .nil pass0 (pa_cons (pe_call G_expansions (hr.mono (by decide)) rfl d_expansions.m d_expansions.F.kp hbC hvC passF (pa_cons (pv 10) pa_nil)) (pa_cons (pe_sortedDef G__law_sort_key (hr.mono (by decide)) rfl (by rfl) B.sorted (by rfl) d__law_sort_key.m d__law_sort_key.b (pa_cons (pv 4) pa_nil)) pa_nil)))))))) (pss_one (ps_ret pe_bl)) pss_nil)
 (pss_cons (ps_set (i := 9) sc_law.nd rfl (Or.inr rfl) (pe_call G__law_invalid_term (hr.mono (by decide)) rfl d__law_invalid_term.m d__law_invalid_term.F.kp d__law_invalid_term.b .nil pass0 (pa_cons (pv 1) pa_nil)))
 (pss_cons (ps_set (i := 8) sc_law.nd rfl (Or.inl rfl) (pe_lst (pa_cons (pe_lamN (T := [(Pt, lamQ), (Pa, inQ)]) (TT := TTry2 K CT word fld) (t := fun E => tCallN 1 1 (spXps K CI CZ CL [(Pt, lamQ), (Pa, inQ)]) (fun vs zs => vs ++ zs) E (tCons (tVar 9) tNil) (tCons (tC (.int 0)) tNil)) rfl d__law_try.m d__law_try.F.kp lkT hcT d__law_try.b sc__law_try rfl (.inl rfl)
  (try_gives2 rfl rfl rfl rfl rfl rfl mT d__law_error_name.m d__law_error_field.m d__law_error_name.F.kp d__law_error_field.F.kp d__law_error_name.b d__law_error_field.b GN GF) TB rfl hm1 hu1 (hr.mono (by decide)) (by decide : 40 ≤ 55 + 1) (LamX.lamS_by (by rfl)) rfl (fun _ _ _ _ _ => rfl)
  (fun A2 outer2 s2 H2 E2 f2 c2 hr2 => (pe_callN (ks := ["max_size"]) (n := 1) (E := E2) G_expansions (hr2.mono (by decide)) rfl d_expansions.m d_expansions.F.kp d_expansions.kb passL (pa_cons (pe_var (i := 9) rfl (.inr (.inr rfl))) pa_nil) (pk_cons pe_int pk_nil)))) (pa_cons (pe_lamD (T := [(Pt, lamQ), (Pa, inQ)]) (TT := TTry2 K CT word fld) (a0 := "_law_a") (t := fun E => tCallN 1 1 (spXps K CI CZ CL [(Pt, lamQ), (Pa, inQ)]) (fun vs zs => vs ++ zs) E (tCons (tTup tNil) tNil) (tCons (tC (.int 0)) tNil)) rfl d__law_try.m d__law_try.F.kp lkT hcT d__law_try.b sc__law_try rfl (.inl rfl)
  (try_gives2 rfl rfl rfl rfl rfl rfl mT d__law_error_name.m d__law_error_field.m d__law_error_name.F.kp d__law_error_field.F.kp d__law_error_name.b d__law_error_field.b GN GF) TB rfl hm1 hu1 (hr.mono (by decide)) (by decide : 40 ≤ 55 + 1) (lamSD_by (by rfl)) rfl rfl rfl (fun _ _ _ _ _ _ _ => ⟨_, rfl, fun _ => rfl⟩)
  (fun A2 outer2 s2 H2 E2 f2 c2 hr2 => (pe_callN (ks := ["max_size"]) (n := 1) (E := E2) G_expansions (hr2.mono (by decide)) rfl d_expansions.m d_expansions.F.kp d_expansions.kb passL (pa_cons (pe_tup pa_nil) pa_nil) (pk_cons pe_int pk_nil)))) pa_nil))))
 (pss_cons (ps_expr (pe_bm PySem.F.plainAttrs_list PySem.F.slot_list_append PySem.F.type_list_append mt_append (pv 8) (pa_cons (pe_lamN (T := [(Pt, lamQ), (Pa, inQ)]) (TT := TTry2 K CT word fld) (t := fun E => tCallN 1 1 (spXps K CI CZ CL [(Pt, lamQ), (Pa, inQ)]) (fun vs zs => vs ++ zs) E (tCons (tVar 10) tNil) (tCons (tC (.int 31)) tNil)) rfl d__law_try.m d__law_try.F.kp lkT hcT d__law_try.b sc__law_try rfl (.inl rfl)
  (try_gives2 rfl rfl rfl rfl rfl rfl mT d__law_error_name.m d__law_error_field.m d__law_error_name.F.kp d__law_error_field.F.kp d__law_error_name.b d__law_error_field.b GN GF) TB rfl hm1 hu1 (hr.mono (by decide)) (by decide : 40 ≤ 55 + 1) (LamX.lamS_by (by rfl)) rfl (fun _ _ _ _ _ => rfl)
  (fun A2 outer2 s2 H2 E2 f2 c2 hr2 => (pe_callN (ks := ["max_size"]) (n := 1) (E := E2) G_expansions (hr2.mono (by decide)) rfl d_expansions.m d_expansions.F.kp d_expansions.kb passL (pa_cons (pe_var (i := 10) rfl (.inr (.inr rfl))) pa_nil) (pk_cons pe_int pk_nil)))) pa_nil)))
 (pss_cons (ps_if (pt_cmpR (op_neD hr.units) (pv 8) (pe_op op_cat (pe_lst (pa_cons (pe_tup (pa_cons pe_str (pa_cons pe_non pa_nil))) pa_nil)) (pe_op op_rep (pe_lst (pa_cons (pe_tup (pa_cons pe_str (pa_cons pe_non pa_nil))) pa_nil)) pe_int)) (nomark _)) (pss_one (ps_ret pe_bl)) pss_nil)
 (pss_one (ps_ret (pe_and (pe_cmpR (op_eqD hr.units) (pe_callN (ks := ["max_size"]) (n := 1) G_expansions (hr.mono (by decide)) rfl d_expansions.m d_expansions.F.kp d_expansions.kb passF (pa_cons (pe_tup (pa_cons (pe_tup pa_nil) (pa_cons (pe_tup pa_nil) pa_nil))) pa_nil) (pk_cons pe_int pk_nil)) (pe_lst pa_nil) (nomark _)) (pe_one (pe_cmpR (op_eqD hr.units) (pe_callN (ks := ["max_size"]) (n := 1) G_expansions (hr.mono (by decide)) rfl d_expansions.m d_expansions.F.kp d_expansions.kb passF (pa_cons (pe_tup pa_nil) pa_nil) (pk_cons pe_int pk_nil)) (pe_lst (pa_cons (pe_tup pa_nil) pa_nil)) (nomark _)))))))))))))))), ?_⟩
  refine ⟨_, rfl, a, ns, rfl, hS, fun r H1 s1 _ R1 => ?_⟩
  obtain ⟨cc, R1⟩ := R1.toC
  have T1 : LamX.Tabs [(Pt, lamQ), (Pa, inQ)] H1 := fun p hp => by
    rcases List.mem_cons.mp hp with rfl | hp
    · exact tabs1 (q := lamQ) (s1 _ _ (hP Pt (by simp))) _ List.mem_cons_self
    · rw [List.mem_singleton.mp hp]
      exact tabs1 (q := inQ) (s1 _ _ (hP Pa (by simp))) _ List.mem_cons_self
  have hNT : ∀ {G : Hp} {v : V} {t : Tree}, TA K G v t → t.sz ≤ 12 → t.dp ≤ 6 → NT K G v t.d ∧ ndD t.d ≤ 1000 ∧ (okd t.d = false → False) := fun {G v t} h1 h2 h3 => by
    have hnd := tree_nodes t
    refine ⟨NT.of h1 (by omega), by rw [tree_nd]; omega, fun bad => ?_⟩
    rw [tree_okd, decide_eq_true h3, decide_eq_true h2] at bad
    cases bad
  have wL := w5
  refine ⟨3, rfl, by decide, by decide, for_range (lo := 0) (n := 3) (fun i σ G => ∃ (x2 x3 x4 x5 x6 x11 x12 x13 : Option V), σ = [some (.ref a), some (.ref r), x2, x3, x4, x5, x6, none, none, none, none, x11, x12, x13] ∧ RngC G r cc ∧ LamX.Tabs [(Pt, lamQ), (Pa, inQ)] G) ⟨_, _, _, _, _, _, _, _, rfl, R1, T1⟩ ?_ ?_⟩
  · rintro i σ H2 hi ⟨x2, x3, x4, x5, x6, x11, x12, x13, rfl, R2, T2⟩
    refine ⟨_, rfl, r, 6, cc, rfl, by decide, by decide, R2, fun v t H3 a3 z3 d3 R3 b3 => ?_⟩
    have T3 := R2.tabs b3 T2
    refine ⟨_, rfl, r, 12, cc, rfl, R3, by decide, by decide, fun m1 H4 m10 m11 R4 b4 => ⟨_, _, rfl, rfl, two_le, fun p5 np5 => ?_⟩⟩
    obtain ⟨N, hN⟩ : ∃ N : Nat, 1 + m1 = (N : Int) := ⟨(1 + m1).toNat, by omega⟩
    obtain rfl : m1 = (N : Int) - 1 := by omega
    have s5 := Same.new np5 (.tup [v, .int (1 + ((N : Int) - 1))])
    refine ⟨p5, _, rfl, SqT.here upd_same, rfl, _, _, rfl, _, _, rfl, rfl, ?_⟩
    have T5 := tabs_same s5 (R3.tabs b4 T3)
    have R5 := R4.same s5
    have a5 := ta_mono ((R3.tp b4).trans (Tp.same s5)) a3
    have hz : t.sz ≤ 6 := by omega
    have tdp := t.dp_lt
    refine ⟨_, rfl, _, rfl, v, t, N, congrArg (fun z => [v, V.int z]) hN, a5, by omega, by omega, fun o1 Q1 H6 s6 n1 hA1 hk1 => ?_⟩
    obtain ⟨kv1, ho1, hv1⟩ := hA1
    obtain ⟨hk1', hl1⟩ := hv1.keys
    have a6 := ta_mono (Tp.same s6) a5
    have R6 := R5.same s6
    have T6 := tabs_same s6 T5
    refine ⟨_, rfl, two_le, fun p7 n7 => ?_⟩
    have s7 := Same.new n7 (.tup [.str (en 5), .int (1 + ((N : Int) - 1))])
    have ho1 := s7 _ _ ho1
    have hv1 := hv1.map (fun v e h => h.same s7)
    have a7 := ta_mono (Tp.same s7) a6
    have R7 := R6.same s7
    have T7 := tabs_same s7 T6
    have hp7 : (upd H6 p7 (.tup [.str (en 5), .int (1 + ((N : Int) - 1))])) p7 = some (.tup [.str (en 5), .int (1 + ((N : Int) - 1))]) := upd_same
    clear a3 R3 R4 b3 b4 T3 T2 R2 a5 R5 T5 a6 R6 T6 s7 s6 n7 n1
    refine ⟨fun σ G => ∃ (q4 : Addr), σ = [some (.ref a), some (.ref r), some (.int (0 + i)), some (.ref o1), some (.ref q4), x5, x6, none, none, none, none, some (.int (N : Int)), some v, x13] ∧ TA K G v t ∧ RngC G r cc ∧ LamX.Tabs [(Pt, lamQ), (Pa, inQ)] G ∧ Exp14 K G q4 kv1.length N t, ?_, ?_⟩
    · refine ⟨_, rfl, o1, kv1, rfl, ho1, _, _, rfl, rfl, _, rfl, ite2 (fun c => ?_) (fun c => ?_)⟩
      · have c : (kv1.length : Int) ≤ 500 := of_decide_eq_true c
        refine ⟨_, rfl, o1, kv1, (trs1 Q1).map Tree.txt, rfl, .inl ho1, by rw [hk1']; simp only [List.map_map]; rfl, fun ys p hperm np => ⟨p, rfl, ⟨_, SqL.here upd_same⟩, fun D hD => ?_⟩⟩
        have s9 := Same.new np (.lst (ys.map V.str))
        obtain ⟨H9, e9⟩ : ∃ H9, H9 = (upd (upd H6 p7 (.tup [.str (en 5), .int (1 + ((N : Int) - 1))])) p (.lst (ys.map V.str))) := ⟨_, rfl⟩
        have hp9 : H9 p = some (.lst (ys.map V.str)) := by rw [e9]; exact upd_same
        have s9 : Same (upd H6 p7 (.tup [.str (en 5), .int (1 + ((N : Int) - 1))])) H9 := by rw [e9]; exact s9
        have hD : H9 D = none := by rw [e9]; exact hD
        have ho1 := s9 _ _ ho1
        have hv1 := hv1.map (fun v e h => h.same s9)
        have hyl : ys.length ≤ 600000 := by
          rw [hperm.length_eq, List.length_map, show (trs1 Q1).length = Q1.length from List.length_map _]
          exact hk1.len
        subst e9
        refine lc_list (K := K) (a := p) (xs := ys.map V.str) (fun i G => ComB K _ G D ys i) ⟨Same.new hD _, [], [], upd_same, .nil, by rw [List.take_zero]; rfl⟩ (fun i G _ z => SqL.here (z.1 _ _ hp9)) ?_ ?_
        · rintro j x G hx hC
          rw [List.getElem?_map] at hx
          obtain ⟨z, hz2, rfl⟩ := Option.map_eq_some_iff.mp hx
          obtain ⟨w, hw, rfl⟩ := List.mem_map.mp (hperm.mem_iff.mp (List.mem_of_getElem? hz2))
          have hj := (List.getElem?_eq_some_iff.mp hz2).1
          have sm := hC.1
          obtain ⟨q1, vt, lp, e1, e2, e3⟩ := kvR_val hv1 hw
          have hdg : DGet G o1 (.str w.txt) (some (.ref q1)) := e1 ▸ DGet.k (k := Sum.inr w.txt) (sm _ _ ho1)
          refine ⟨rfl, _, rfl, _, rfl, o1, .ref q1, rfl, hdg, q1, _, 0, vt, rfl, rfl, (Tp.same sm).sqT e2, rfl, ?_⟩
          exact hC.snoc hD hz2 (ta_mono (Tp.same sm) e3) (by omega)
        rintro H10 ⟨s10, ws, us, hD10, hA10, hm⟩
        rw [show (ys.map V.str).length = ys.length from List.length_map _, List.take_length] at hm
        have hus := comB_all hk1 hperm hm
        have hlw := (dpAll_tree hA10).1
        have hlu : us.length = kv1.length := by rw [hus.length_eq, hl1]; exact List.length_map _
        have sz12 : ∀ w ∈ us, w.sz ≤ 30 := fun w hw => by
          obtain ⟨e, he, rfl⟩ := List.mem_map.mp (hus.mem_iff.mp hw)
          have := (hk1.rc e he).1.sz
          omega
        refine ⟨_, rfl, D, ws, us.map Tree.szr, rfl, .inl (SqL.here hD10), by rw [List.length_map]; exact hlw, fun i y row hy hrow H3 s3 => ?_, fun p2 bs H11 s11 np2 n11 hb => ⟨two_le, fun q4 n4 => ?_⟩⟩
        · obtain ⟨w', h1, h2, rfl⟩ := (dpAll_tree hA10).2 i y row hy hrow
          have hw12 := sz12 w' (List.mem_of_getElem? h1)
          have hwd := w'.dp_lt
          exact ⟨y, w', rfl, ta_mono (Tp.same s3) h2, by omega, by decide, hw12, fun l H4 s4 nl hl4 => ⟨s4, dp_row hl4⟩⟩
        obtain ⟨vs, hvp, hvs, hvd⟩ := byRow_trees hA10 hb
        have sA := s11.trans (Same.new n11 (.lst (bs.map fun b => b.1)))
        have s4 := Same.new n4 (.tup [.str ("value" : Str), .ref p2])
        have sB := s9.trans (s10.trans (sA.trans s4))
        refine ⟨q4, congrArg (fun z : Int => ([some (V.ref a), some (V.ref r), some (V.int (0 + (i : Int))), some (V.ref o1), some (V.ref q4), x5, x6, none, none, none, none, some (V.int z), some v, x13] : L2.St)) hN, ta_mono (Tp.same sB) a7, R7.same sB, tabs_same sB T7, .inr ⟨by omega, p2, vs, _, SqT.here upd_same, s4 _ _ upd_same, dpAll_tp (Tp.same (sA.trans s4)) hvd, ((hk1.all (by omega)).perm hus).perm hvp, hvs⟩⟩
      · have c : ¬ (kv1.length : Int) ≤ 500 := by first | exact of_decide_eq_false c | exact fun z => c (decide_eq_true z)
        refine ⟨p7, congrArg (fun z : Int => ([some (V.ref a), some (V.ref r), some (V.int (0 + (i : Int))), some (V.ref o1), some (V.ref p7), x5, x6, none, none, none, none, some (V.int z), some v, x13] : L2.St)) hN, a7, R7, T7, .inl ⟨by omega, SqT.here (hp7.trans (congrArg (fun z => some (HO.tup [.str (en 5), .int z])) hN))⟩⟩
    · rintro σ G0 ⟨q4, rfl, a0, R0, T0, E0'⟩
      refine ⟨2, rfl, by decide, by decide, for_range (lo := 0) (n := 2) (fun j σ G => ∃ (x5 x6 : Option V), σ = [some (.ref a), some (.ref r), some (.int (0 + i)), some (.ref o1), some (.ref q4), x5, x6, none, none, none, none, some (.int (N : Int)), some v, x13] ∧ LamX.ExtN G0 G ∧ LamX.Tabs [(Pt, lamQ), (Pa, inQ)] G) ⟨x5, x6, rfl, LamX.ExtN.of (Same.refl _), T0⟩ ?_ ?_⟩
      rotate_left
      · rintro σ G ⟨y5, y6, rfl, eG, TG⟩
        exact ⟨_, _, _, _, _, _, _, _, rfl, R0.extN eG, TG⟩
      · rintro j σ G hj ⟨y5, y6, rfl, eG, TG⟩
        refine ⟨TG, fun G3 e3 tb3 f3 => ?_⟩
        have eG3 := eG.trans e3
        obtain ⟨w1, w2, w3⟩ := hNT (ta_mono (Tp.extN eG3) a0) (by omega) d3
        refine ⟨_, rfl, _, rfl, rfl, rfl, v, t.d, N, rfl, tb3, w1, w2, fun bad => (w3 bad).elim, fun t1 e1 _ _ => ?_⟩
        cases d_inj e1
        refine ⟨fun no => absurd ⟨by omega, by omega⟩ no, fun _ _ => ?_⟩
        rw [Int.toNat_natCast]
        refine ⟨fun mn e H4 s4 ne he => ?_, fun p ws us H4 e4 tb4 nx hp hA hall hpw hlen => ⟨two_le, fun q7 n7 => ?_⟩⟩
        · have c1 : 500 < kv1.length := Nat.lt_of_not_le fun h => hk1.few (by omega) mn
          have hq4 : SqT K G0 q4 [.str (en 5), .int (N : Int)] := by
            rcases E0' with ⟨_, h⟩ | ⟨h, _⟩
            · exact h
            · omega
          refine wTry2 (D := CL) (nm := en 5) (v := .int N) hfs rfl ⟨xc5, fun d ed => ⟨_, by cases ed; exact he⟩, xm5⟩ wL (by rw [hfld]; exact .inr ⟨rfl, e, _, rfl, he, rfl⟩) (fun p5 G5 s5 np5 => ?_)
          have s6 := (s4.trans s5).trans (Same.new np5 (.tup [.str (en 5), .int N]))
          have k6 : SqT K (upd G5 p5 (.tup [.str (en 5), .int (N : Int)])) p5 [.str (en 5), .int (N : Int)] := SqT.here upd_same
          refine ⟨_, rfl, _, rfl, .ref p5, .ref q4, tlD N, rfl, dp_tlD k6, dp_tlD ((Tp.extN (eG3.trans (LamX.ExtN.of s6))).sqT hq4), tlD_shaped _, (by have := tlD_depth N; omega), rfl, fun H8 s8 => ⟨true, rfl, iteF ?_⟩⟩
          refine ⟨_, rfl, p5, _, 0, _, rfl, rfl, (Tp.same s8).sqT k6, rfl, rfl, _, rfl, ite_no (by decide +kernel) ?_⟩
          exact ⟨_, _, rfl, eG3.trans (LamX.ExtN.of (s6.trans s8)), tabs_same (s6.trans s8) tb3⟩
        · have c1 : ¬ 500 < kv1.length := fun h => by
            have := many_not (hk1.many (by omega)) hall
            omega
          obtain ⟨_, D, us1, ws1, hq4, hD, hA1, hall1, hpw1⟩ : kv1.length ≤ 500 ∧ _ := E0'.resolve_left fun h => c1 h.1
          obtain rfl := sorted_one hall hall1 hpw hpw1
          have s7 := Same.new n7 (.tup [.str ("value" : Str), .ref p])
          have e7 := (eG3.trans e4).trans (LamX.ExtN.of s7)
          have k7 : SqT K (upd H4 q7 (.tup [.str ("value" : Str), .ref p])) q7 [.str ("value" : Str), .ref p] := SqT.here upd_same
          have hdp : ∀ w ∈ us, w.dp ≤ 12 := fun w hw => by
            have := ((hall.2 w).mp hw).sz
            have := w.dp_lt
            omega
          refine ⟨_, rfl, _, rfl, .ref q7, .ref q4, vlD us, rfl, dp_vlD k7 (s7 _ _ hp) (dpAll_tp (Tp.same s7) hA), dp_vlD ((Tp.extN e7).sqT hq4) (e7 _ _ hD (fun _ => nofun)) (dpAll_tp (Tp.extN e7) hA1), vlD_shaped (fun w hw => by have := hdp w hw; omega), (by have := vlD_depth hdp; omega), vlD_wide (by omega), fun H8 s8 => ⟨true, rfl, iteF ?_⟩⟩
          have k8 := (Tp.same s8).sqT k7
          have hp8 := (s7.trans s8) _ _ hp
          have T8 := tabs_same (s7.trans s8) tb4
          have e8 := e7.trans (LamX.ExtN.of s8)
          have hlw := (dpAll_tree hA).1
          refine ⟨_, rfl, q7, _, 0, _, rfl, rfl, k8, rfl, rfl, _, rfl, ite_yes (decide_eq_true rfl) ?_⟩
          refine ⟨_, rfl, q7, _, 1, .ref p, rfl, rfl, k8, rfl, .inl ⟨rfl, _, SqL.here hp8⟩, zero_le', fun x9 n9 => ?_⟩
          have s9 := Same.new n9 (.tup [])
          have hp9 := s9 _ _ hp8
          refine ⟨p, ws, .ref x9, rfl, rfl, hp9, mil (by omega), ?_⟩
          have tp9 : Tp _ (upd (upd H8 x9 (.tup [])) p (.lst (ws ++ [.ref x9]))) := Tp.but hp9 (But.set (o := .lst (ws ++ [.ref x9])))
          refine ⟨_, rfl, q7, _, 1, .ref p, rfl, rfl, tp9.sqT ((Tp.same s9).sqT k8), rfl, .inl ⟨rfl, _, SqL.here upd_same⟩, p, _, rfl, rfl, upd_same, ?_⟩
          refine ⟨_, _, rfl, fun b o hb nt => ?_, tabs_lst upd_same (tabs_lst hp9 (tabs_same s9 T8))⟩
          have np := nx b o (eG3 b o hb nt) nt
          rw [upd_ne np, upd_ne np]
          exact s9 _ _ (e8 b o hb nt)
  · rintro σ G ⟨x2, x3, x4, x5, x6, x11, x12, x13, rfl, RG, TG⟩
    refine ⟨_, rfl, r, 2, cc, rfl, RG, by decide, by decide, fun m1 H2 m10 m11 R2 b2 => ⟨_, _, rfl, rfl, 3 + m1, false, rfl, by omega, by omega, fun vg H3 ag s3 => ?_⟩⟩
    have T3 := tabs_same s3 (RG.tabs b2 TG)
    have R3 := R2.same s3
    have gz : (cmb false ((3 + m1).toNat - 1)).sz ≤ 12 ∧ (cmb false ((3 + m1).toNat - 1)).dp ≤ 6 := by
      have h : m1 = 0 ∨ m1 = 1 := by omega
      rcases h with rfl | rfl <;> decide +kernel
    generalize (cmb false ((3 + m1).toNat - 1)) = CG at *
    obtain ⟨gz, gd⟩ := gz
    refine ⟨_, rfl, vg, CG, 24, rfl, ag, by omega, by decide, fun o1 Q1 H4 s4 n1 hA1 hk1 => ?_⟩
    obtain ⟨kv1, ho1, hv1⟩ := hA1
    obtain ⟨hk1', hl1⟩ := hv1.keys
    have ag4 := ta_mono (Tp.same s4) ag
    have R4 := R3.same s4
    have T4 := tabs_same s4 T3
    refine ⟨_, rfl, o1, kv1, (trs1 Q1).map Tree.txt, rfl, .inl ho1, by rw [hk1']; simp only [List.map_map]; rfl, fun ys p hperm np => ⟨p, rfl, ⟨_, SqL.here upd_same⟩, fun D hD => ?_⟩⟩
    have s9 := Same.new np (.lst (ys.map V.str))
    have hp9 : (upd H4 p (.lst (ys.map V.str))) p = some (.lst (ys.map V.str)) := upd_same
    have ho1 := s9 _ _ ho1
    have hv1 := hv1.map (fun v e h => h.same s9)
    have hyl : ys.length ≤ 600000 := by
      rw [hperm.length_eq, List.length_map, show (trs1 Q1).length = Q1.length from List.length_map _]
      exact hk1.len
    refine lc_list (K := K) (a := p) (xs := ys.map V.str) (fun i G => ComB K _ G D ys i) ⟨Same.new hD _, [], [], upd_same, .nil, by rw [List.take_zero]; rfl⟩ (fun i G _ z => SqL.here (z.1 _ _ hp9)) ?_ ?_
    · rintro j x G hx hC
      rw [List.getElem?_map] at hx
      obtain ⟨z, hz2, rfl⟩ := Option.map_eq_some_iff.mp hx
      obtain ⟨w, hw, rfl⟩ := List.mem_map.mp (hperm.mem_iff.mp (List.mem_of_getElem? hz2))
      have hj := (List.getElem?_eq_some_iff.mp hz2).1
      have sm := hC.1
      obtain ⟨q1, vt, lp, e1, e2, e3⟩ := kvR_val hv1 hw
      have hdg : DGet G o1 (.str w.txt) (some (.ref q1)) := e1 ▸ DGet.k (k := Sum.inr w.txt) (sm _ _ ho1)
      refine ⟨rfl, _, rfl, _, rfl, o1, .ref q1, rfl, hdg, q1, _, 0, vt, rfl, rfl, (Tp.same sm).sqT e2, rfl, ?_⟩
      exact hC.snoc hD hz2 (ta_mono (Tp.same sm) e3) (by omega)
    rintro H10 ⟨s10, ws, us, hD10, hA10, hm⟩
    rw [show (ys.map V.str).length = ys.length from List.length_map _, List.take_length] at hm
    have hus := comB_all hk1 hperm hm
    have hlw := (dpAll_tree hA10).1
    have hlu : us.length = kv1.length := by rw [hus.length_eq, hl1]; exact List.length_map _
    have sE := s9.trans s10
    have ag10 := ta_mono (Tp.same sE) ag4
    have R10 := R4.same sE
    have T10 := tabs_same sE T4
    have sz12 : ∀ w ∈ us, w.sz ≤ 30 := fun w hw => by
      obtain ⟨e, he, rfl⟩ := List.mem_map.mp (hus.mem_iff.mp hw)
      have := (hk1.rc e he).1.sz
      omega
    refine ⟨fun σ G => σ = [some (.ref a), some (.ref r), x2, x3, some (.ref D), x5, x6, some (.ref o1), none, none, some vg, x11, x12, x13] ∧ RngC G r cc ∧ LamX.Tabs [(Pt, lamQ), (Pa, inQ)] G ∧ TA K G vg CG, ?_, ?_⟩
    · refine ⟨_, rfl, D, ws, rfl, .inl (SqL.here hD10), _, _, rfl, rfl, _, rfl, ite2 (fun c => ?_) (fun _ => iteF ⟨rfl, R10, T10, ag10⟩)⟩
      have c : (ws.length : Int) ≤ 500 := of_decide_eq_true c
      obtain ⟨w1, w2, w3⟩ := hNT ag10 gz gd
      refine ⟨_, rfl, vg, CG.d, 24, rfl, T10, w1, w2, fun bad => (w3 bad).elim, fun t1 e1 _ _ => ?_⟩
      cases d_inj e1
      refine ⟨fun no => absurd ⟨by decide, by decide⟩ no, fun _ _ => ⟨fun mn => absurd mn (hk1.few (by omega)), fun p1 ws2 us2 H6 e6 tb6 nx hp hA hall hpw hlen => ?_⟩⟩
      refine ⟨_, rfl, _, rfl, D, ws, us.map Tree.szr, rfl, .inl (SqL.here (e6 _ _ hD10 (fun _ => nofun))), by rw [List.length_map]; exact hlw, fun i y row hy hrow H3 s3 => ?_, fun p2 bs H11 s11 np2 n11 hb => ?_⟩
      · obtain ⟨w', h1, h2, rfl⟩ := (dpAll_tree (dpAll_tp (Tp.extN e6) hA10)).2 i y row hy hrow
        have hw12 := sz12 w' (List.mem_of_getElem? h1)
        have hwd := w'.dp_lt
        exact ⟨y, w', rfl, ta_mono (Tp.same s3) h2, by omega, by decide, hw12, fun l H4 s4 nl hl4 => ⟨s4, dp_row hl4⟩⟩
      obtain ⟨vs, hvp, hvs, hvd⟩ := byRow_trees (dpAll_tp (Tp.extN e6) hA10) hb
      have hall2 : AllR 24 CG vs := ((hk1.all (by omega)).perm hus).perm hvp
      obtain rfl : us2 = vs := sorted_one hall hall2 hpw hvs
      have sA := s11.trans (Same.new n11 (.lst (bs.map fun b => b.1)))
      have hdp : ∀ w ∈ us2, w.dp ≤ 24 := fun w hw => by
        have := ((hall.2 w).mp hw).sz
        have := w.dp_lt
        omega
      refine ⟨.ref p1, .ref p2, .list (us2.map Tree.d), rfl, Dp.lst (SqL.here (sA _ _ hp)) (dpAll_tp (Tp.same sA) hA), Dp.lst (SqL.here upd_same) (dpAll_tp (Tp.same sA) hvd), rch_list hall (by decide), (by have e4 : (PyData.list (us2.map Tree.d)).depth = PyData.depthAll (us2.map Tree.d) + 1 := rfl; have e5 := trees_dep us2 hdp; omega), trees_wide (by omega), fun H8 s8 => ⟨true, rfl, iteF ?_⟩⟩
      have eA := e6.trans (LamX.ExtN.of (sA.trans s8))
      exact ⟨rfl, R10.extN eA, tabs_same (sA.trans s8) tb6, ta_mono (Tp.extN eA) ag10⟩
    · rintro σ G ⟨rfl, RG, TG, agG⟩
      refine ⟨_, rfl, r, rfl, RG.rng, fun vb H2 hB R2 b2 => ?_⟩
      have T2 := RG.tabs b2 TG
      have ag2 := ta_mono (RG.tp b2) agG
      obtain ⟨db, hN, hn, hbad⟩ := hB
      have noT : ∀ t : Tree, db = t.d → t.sz ≤ 12 → t.dp ≤ 6 → False := fun t et hz hd => by
        rw [et, tree_okd, decide_eq_true hd, decide_eq_true hz] at hbad
        cases hbad
      refine ⟨T2, fun G6 e6 tb6 f6 => ?_⟩
      have N6 := hN.tp (Tp.extN e6)
      have ag6 := ta_mono (Tp.extN e6) ag2
      refine ⟨_, rfl, rfl, rfl, vb, db, 0, rfl, tb6, N6, hn, fun _ H7 s7 => ?_, fun t et hz hd => (noT t et hz hd).elim⟩
      refine wTry2 (D := CI) (nm := en 0) (v := .non) hfs rfl ⟨xc0, fun d ed => (nomatch ed), xm0⟩ w0 (by rw [hfld]; exact .inl ⟨.inl rfl, rfl⟩) (fun q1 G8 s8 nq1 => ?_)
      have sA := s7.trans (s8.trans (Same.new nq1 (.tup [.str (en 0), .non])))
      have k1 : SqT K (upd G8 q1 (.tup [.str (en 0), .non])) q1 [.str (en 0), .non] := SqT.here upd_same
      refine ⟨tabs_same sA tb6, fun G9 e9 tb9 f9 => ?_⟩
      have ag9 := ta_mono ((Tp.same sA).trans (Tp.extN e9)) ag6
      have k1 := (Tp.extN e9).sqT k1
      have okE : okd Tree.L.d = true := by decide +kernel
      refine ⟨zero_le', fun p10 n10 => ?_⟩
      have s10 := Same.new n10 (.tup [])
      refine ⟨rfl, rfl, .ref p10, Tree.L.d, 0, rfl, tabs_same s10 tb9, NT.of (ta_leaf (SqT.here upd_same)) (by decide), by decide +kernel, (fun bad => by rw [okE] at bad; cases bad), fun t1 e1 _ _ => ?_⟩
      cases d_inj (t := .L) e1
      refine ⟨fun _ H11 s11 => ?_, fun h => absurd h (by decide)⟩
      refine wTry2 (D := CZ) (nm := en 6) (v := .non) hfs rfl ⟨xc6, fun d ed => (nomatch ed), xm6⟩ w6 (by rw [hfld]; exact .inl ⟨.inr rfl, rfl⟩) (fun q2 G12 s12 nq2 => ?_)
      have sB := s10.trans (s11.trans (s12.trans (Same.new nq2 (.tup [.str (en 6), .non]))))
      have k1 := (Tp.same sB).sqT k1
      have k2 : SqT K (upd G12 q2 (.tup [.str (en 6), .non])) q2 [.str (en 6), .non] := SqT.here upd_same
      have ag12 := ta_mono (Tp.same sB) ag9
      have T12 := tabs_same sB tb9
      clear sB s12 s11 s10 n10 ag9 tb9 sA
      generalize (upd G12 q2 (.tup [.str (en 6), .non])) = K12 at *
      refine ⟨two_le, fun wl nwl => ?_⟩
      have s13 := Same.new nwl (.lst [.ref q1, .ref q2])
      have hwl : (upd K12 wl (.lst [.ref q1, .ref q2])) wl = some (.lst [.ref q1, .ref q2]) := upd_same
      have k1 := (Tp.same s13).sqT k1
      have k2 := (Tp.same s13).sqT k2
      have ag13 := ta_mono (Tp.same s13) ag12
      have T13 := tabs_same s13 T12
      clear s13 nwl ag12 T12 nq2
      generalize (upd K12 wl (.lst [.ref q1, .ref q2])) = K13 at *
      refine ⟨_, rfl, .inl ⟨rfl, _, SqL.here hwl⟩, T13, fun G14 e14 tb14 f14 => ?_⟩
      have hwl := e14 _ _ hwl (fun _ => nofun)
      have k1 := (Tp.extN e14).sqT k1
      have k2 := (Tp.extN e14).sqT k2
      obtain ⟨w1, w2, w3⟩ := hNT (ta_mono (Tp.extN e14) ag13) gz gd
      refine ⟨_, rfl, rfl, rfl, vg, CG.d, 31, rfl, tb14, w1, w2, fun bad => (w3 bad).elim, fun t1 e1 _ _ => ?_⟩
      cases d_inj e1
      refine ⟨fun _ H15 s15 => ?_, fun _ h => absurd h (by decide)⟩
      refine wTry2 (D := CZ) (nm := en 6) (v := .non) hfs rfl ⟨xc6, fun d ed => (nomatch ed), xm6⟩ w6 (by rw [hfld]; exact .inl ⟨.inr rfl, rfl⟩) (fun q3 G16 s16 nq3 => ?_)
      have sC := s15.trans (s16.trans (Same.new nq3 (.tup [.str (en 6), .non])))
      have hwl := sC _ _ hwl
      have k1 := (Tp.same sC).sqT k1
      have k2 := (Tp.same sC).sqT k2
      have k3 : SqT K (upd G16 q3 (.tup [.str (en 6), .non])) q3 [.str (en 6), .non] := SqT.here upd_same
      have T17 := tabs_same sC tb14
      clear sC s16 s15 tb14 nq3
      generalize (upd G16 q3 (.tup [.str (en 6), .non])) = K17 at *
      refine ⟨wl, _, _, rfl, rfl, hwl, (by show 2 < sizeLine; decide), ?_⟩
      have tpW : Tp K17 (upd K17 wl (.lst ([.ref q1, .ref q2] ++ [.ref q3]))) := Tp.but hwl (But.set (o := .lst ([.ref q1, .ref q2] ++ [.ref q3])))
      have T18 : LamX.Tabs [(Pt, lamQ), (Pa, inQ)] (upd K17 wl (.lst ([.ref q1, .ref q2] ++ [.ref q3]))) := tabs_lst hwl T17
      have k1 := tpW.sqT k1
      have k2 := tpW.sqT k2
      have k3 := tpW.sqT k3
      have hw : (upd K17 wl (.lst ([.ref q1, .ref q2] ++ [.ref q3]))) wl = some (.lst ([.ref q1, .ref q2] ++ [.ref q3])) := upd_same
      clear tpW hwl T17
      generalize (upd K17 wl (.lst ([.ref q1, .ref q2] ++ [.ref q3]))) = K18 at *
      refine ⟨_, rfl, two_le, fun y1 j1 => ⟨one_le, fun y2 j2 => ⟨two_le, fun y3 j3 => ⟨one_le, fun y4 j4 => ⟨y4, 2, [.ref y3], rfl, rfl, upd_same, by decide, by decide, two_le, fun y5 j5 => ?_⟩⟩⟩⟩⟩
      have v1 := Same.new j1 (.tup [.str (en 0), .non])
      have v2 := Same.new j2 (.lst [.ref y1])
      have v3 := Same.new j3 (.tup [.str (en 6), .non])
      have v4 := Same.new j4 (.lst [.ref y3])
      have v5 := Same.new j5 (.lst [.ref y3, .ref y3])
      refine ⟨y2, y5, [.ref y1], [.ref y3, .ref y3], rfl, rfl, (v3.trans (v4.trans v5)) _ _ upd_same, upd_same, (by show 3 ≤ sizeLine; decide), fun y6 j6 => ?_⟩
      have v6 := Same.new j6 (.lst [.ref y1, .ref y3, .ref y3])
      have v46 := v4.trans (v5.trans v6)
      have v26 := v2.trans (v3.trans v46)
      have vA := v1.trans v26
      have m1' : SqT K _ y1 [.str (en 0), .non] := (Tp.same v26).sqT (SqT.here upd_same)
      have m3' : SqT K _ y3 [.str (en 6), .non] := (Tp.same v46).sqT (SqT.here upd_same)
      have shp : SeqAt.shaped (.list [eD 0, eD 6, eD 6]) = true := by decide +kernel
      refine ⟨.list [eD 0, eD 6, eD 6], .list [eD 0, eD 6, eD 6], Dp.lst (SqL.here (vA _ _ hw)) (.cons (dp_eD ((Tp.same vA).sqT k1)) (.cons (dp_eD ((Tp.same vA).sqT k2)) (.cons (dp_eD ((Tp.same vA).sqT k3)) .nil))), Dp.lst (SqL.here upd_same) (.cons (dp_eD m1') (.cons (dp_eD m3') (.cons (dp_eD m3') .nil))), shp, shp, _, rfl, ite_no (by rw [SeqAt.eqv_refl _ (SeqAt.canLay_of_shaped shp)]; rfl) ?_⟩
      have T20 := tabs_same vA T18
      clear m1' m3' v46 v26 vA v1 v2 v3 v4 v5 v6 T18 k1 k2 k3 hw
      refine ⟨zero_le', fun r1 g1 => ⟨zero_le', fun r2 g2 => ⟨two_le, fun r3 g3 => ?_⟩⟩⟩
      have u1 := Same.new g1 (.tup [])
      have u2 := Same.new g2 (.tup [])
      have u3 := Same.new g3 (.tup [.ref r1, .ref r2])
      have uu := u1.trans (u2.trans u3)
      have mP : TA K _ (.ref r3) (.N .L .L) := ta_node (SqT.here upd_same) (ta_leaf (SqT.here ((u2.trans u3) _ _ upd_same))) (ta_leaf (SqT.here (u3 _ _ upd_same)))
      obtain ⟨w1, w2, w3⟩ := hNT mP (by decide) (by decide)
      refine ⟨rfl, rfl, .ref r3, (Tree.N .L .L).d, 1, rfl, tabs_same uu T20, w1, w2, fun bad => (w3 bad).elim, fun t1 e1 _ _ => ?_⟩
      cases d_inj (t := .N .L .L) e1
      refine ⟨fun no => absurd ⟨by decide, by decide⟩ no, fun _ _ => ⟨fun mn => absurd mn (many_none (by decide)), fun p21 ws21 us21 H21 e21 tb21 nx21 hp21 hA21 hall21 _ _ => ?_⟩⟩
      have us0 : us21 = [] := List.eq_nil_iff_forall_not_mem.mpr fun w hw => absurd (rch_none ((hall21.2 w).mp hw)) (by decide)
      subst us0
      cases hA21
      refine ⟨zero_le', fun x1 c1 => ?_⟩
      have b1 := Same.new c1 (.lst [])
      have shE : SeqAt.shaped (.list []) = true := by decide +kernel
      refine ⟨.list [], .list [], Dp.lst (SqL.here (b1 _ _ hp21)) .nil, Dp.lst (SqL.here upd_same) .nil, shE, shE, _, ?_, iteT ?_⟩
      · rw [SeqAt.eqv_refl _ (SeqAt.canLay_of_shaped shE)]
      refine ⟨zero_le', fun x2 c2 => ?_⟩
      have b2 := Same.new c2 (.tup [])
      refine ⟨rfl, rfl, .ref x2, Tree.L.d, 30, rfl, tabs_same (b1.trans b2) tb21, NT.of (ta_leaf (SqT.here upd_same)) (by decide), by decide +kernel, (fun bad => by rw [okE] at bad; cases bad), fun t1 e1 _ _ => ?_⟩
      cases d_inj (t := .L) e1
      refine ⟨fun no => absurd ⟨by decide, by decide⟩ no, fun _ _ => ⟨fun mn => absurd mn many_leaf, fun p22 ws22 us22 H22 e22 tb22 nx22 hp22 hA22 hall22 _ _ => ?_⟩⟩
      obtain rfl := leaf_all (by decide) hall22
      refine ⟨zero_le', fun x3 c3 => ⟨one_le, fun x4 c4 => ?_⟩⟩
      have b3 := Same.new c3 (.tup [])
      have b4 := Same.new c4 (.lst [.ref x3])
      have shL : SeqAt.shaped (.list [Tree.L.d]) = true := by decide +kernel
      refine ⟨.list [Tree.L.d], .list [Tree.L.d], Dp.lst (SqL.here ((b3.trans b4) _ _ hp22)) (dpAll_tp (Tp.same (b3.trans b4)) hA22), Dp.lst (SqL.here upd_same) (.cons (Dp.tup (SqT.here (b4 _ _ upd_same)) .nil) .nil), shL, shL, ?_⟩
      rw [SeqAt.eqv_refl _ (SeqAt.canLay_of_shaped shL)]
      exact q _

end
theorem kit_own {K : PySem.W.Frag} {C c : Addr} {b : Bool} (ne : (Value.ref C == Value.ref c) = false) (h1 : PySem.W.isClsIn K c = true) (h2 : PySem.W.typeIn K (.ref c) = some (.type "type")) (h3 : PySem.W.subIn K (.ref C) (.ref c) = some b) : PySem.W.kitOne K (.ref C) (.ref c) = some b := by
  have e2 : ((PySem.W.clsIn K c).isSome && PySem.W.typeIn K (.ref c) == some (.type "type")) = true := by
    have h1' : (PySem.W.clsIn K c).isSome = true := h1
    rw [h1', h2] <;> rfl
  unfold PySem.W.kitOne
  rw [ne, if_neg (by decide)]
  show (if ((PySem.W.clsIn K c).isSome && PySem.W.typeIn K (.ref c) == some (.type "type")) = true then PySem.W.subIn K (.ref C) (.ref c) else none) = some b
  rw [if_pos e2]
  exact h3
theorem codeHd_mk {K : PySem.W.Frag} {cL Pt : Addr} {edL : Option Addr} {vsL : Array Value} {slL : Array (Option Value)} {f18 : Str} {t18 t7 t10 : Tok} {i7 i10 : Int} {b9 : Bool} (lC : K.lookup cL = some ⟨.type "code", edL, .fields vsL, slL⟩) (h11 : vsL[11]? = some (.ref Pt)) (h18 : vsL.getD 18 .none = .str f18 t18)
    (h7 : vsL.getD 7 .none = .int i7 t7) (h9 : vsL.getD 9 .none = .bool b9) (h10 : vsL.getD 10 .none = .int i10 t10) (ne : (cL != Pt) = true) : PySem.W.codeHdIn K cL Pt = true := by
  unfold PySem.W.codeHdIn
  rw [lC]
  simp only [h11, h18, h7, h9, h10, ne, beq_self_eq_true, Bool.and_true, Bool.and_self]
set_option maxHeartbeats 0 in
theorem all_mk {l : PySem.W.OpenLaw} {w : World} {K : PySem.W.Frag} {h : Heap} {mg : Str → Option Value} {fa : Addr} (X : K.In h) (G : h.Ns mainGlobals mg) (hfa : mg "law" = some (.ref fa)) 
    {g0 g1 g2 g3 g4 g5 g6 g7 g8 g9 g10 g11 g12 g13 g14 g15 g16 g17 g18 g19 g20 g21 g22 g23 g24 g25 g26 g27 g28 g29 g30 g31 : Addr}
    {od0 an0 od1 an1 od2 an2 od3 an3 od4 an4 od5 an5 od6 an6 od7 an7 od8 an8 od9 an9 od10 an10 od11 an11 od12 an12 od13 an13 od14 an14 od15 an15 od16 an16 od17 an17 od18 an18 od19 an19 od20 an20 od21 an21 od22 an22 od23 an23 od24 an24 od25 an25 od26 an26 od27 an27 od28 an28 od29 an29 od30 an30 od31 an31 : Option Addr}
    {sl0 sl1 sl2 sl3 sl4 sl5 sl6 sl7 sl8 sl9 sl10 sl11 sl12 sl13 sl14 sl15 sl16 sl17 sl18 sl19 sl20 sl21 sl22 sl23 sl24 sl25 sl26 sl27 sl28 sl29 sl30 sl31 : Array (Option Value)}
    {oc0 kV0 dc0 pm0 cd0 ct0 oc1 kV1 dc1 pm1 cd1 ct1 oc2 kV2 dc2 pm2 cd2 ct2 oc3 kV3 dc3 pm3 cd3 ct3 oc4 kV4 dc4 pm4 cd4 ct4 oc5 kV5 dc5 pm5 cd5 ct5 oc6 kV6 dc6 pm6 cd6 ct6 oc7 kV7 dc7 pm7 cd7 ct7 oc8 kV8 dc8 pm8 cd8 ct8 oc9 kV9 dc9 pm9 cd9 ct9 oc10 kV10 dc10 pm10 cd10 ct10 oc11 kV11 dc11 pm11 cd11 ct11 oc12 kV12 dc12 pm12 cd12 ct12 oc13 kV13 dc13 pm13 cd13 ct13 oc14 kV14 dc14 pm14 cd14 ct14 oc15 kV15 dc15 pm15 cd15 ct15 oc16 kV16 dc16 pm16 cd16 ct16 oc17 kV17 dc17 pm17 cd17 ct17 oc18 kV18 dc18 pm18 cd18 ct18 oc19 kV19 dc19 pm19 cd19 ct19 oc20 kV20 dc20 pm20 cd20 ct20 oc21 kV21 dc21 pm21 cd21 ct21 oc22 kV22 dc22 pm22 cd22 ct22 oc23 kV23 dc23 pm23 cd23 ct23 oc24 kV24 dc24 pm24 cd24 ct24 oc25 kV25 dc25 pm25 cd25 ct25 oc26 kV26 dc26 pm26 cd26 ct26 oc27 kV27 dc27 pm27 cd27 ct27 oc28 kV28 dc28 pm28 ct28 oc29 dc29 pm29 cd29 ct29 oc30 kV30 dc30 pm30 cd30 ct30 oc31 kV31 dc31 pm31 ct31 : Value}
    {cL Pt CT : Addr} {f18 : Str} {t18 t7 t10 : Tok} {i7 i10 : Int} {b9 : Bool} {edL : Option Addr} {vsL : Array Value} {slL : Array (Option Value)}
    {DK29 : Addr} {tD29 : Tok}
    {tc_MAX_SIZE : Tok}
    {tc_MAX_DEPTH : Tok}
    {tc_GENERATOR : Tok}
    {tc_MAX_EXPANSION_SIZE : Tok}
    {tc_MAX_EXPANSIONS : Tok}
    {cA28 PA28 : Addr} {fA18_28 : Str} {tA18_28 tA7_28 tA10_28 : Tok} {iA7_28 iA10_28 : Int} {bA9_28 : Bool} {edA28 : Option Addr} {vsA28 : Array Value} {slA28 : Array (Option Value)}
    {x0 x1 x2 x3 x4 x5 x6 x7 x8 x9 x10 x11 x12 x13 x14 x15 x16 x17 x18 x19 : Addr}
    {tf5 tcd5 tcc5 tN5 : Addr} {to5 tkV5 tdc5 tpm5 tct5 tcl5 tccl5 : Value} {td5 tan5 tcdd5 tccd5 tdd5 : Option Addr} {tsl5 tcs5 tccs5 : Array (Option Value)} {tcv5 : Array Value} {tfile5 tnm5 tq5 : Str} {tft5 : Tok} {tbs5 tbm5 tsub5 : List Value} {tsn5 : List Str} {tab5 : Bool} {tcol5 : Option Bool} {tk0_5 tk1_5 tk2_5 tk3_5 tk5_5 : Option Value}
    {Cp m0 m1 m2 : Addr} {mod0 man0 mod1 man1 mod2 man2 : Option Addr} {msl0 msl1 msl2 : Array (Option Value)} {moc0 mkV0 mdc0 mpm0 mcd0 mct0 moc1 mkV1 mdc1 mpm1 mcd1 mct1 moc2 mkV2 mdc2 mpm2 mcd2 mct2 : Value}
    (a0 : PySem.W.nsIn K mainGlobals "_law_draws" = some (some (.ref g0)))
    (l0 : K.lookup g0 = some ⟨oc0, od0, .func (PySem.W.fnOf "_law_draws" "_law_draws" (defArgs s__law_draws) (defBody s__law_draws) (defScope s__law_draws) .none kV0 dc0 pm0 an0 cd0 ct0), sl0⟩)
    (c0 : PySem.W.codeIn K cd0 "_law_draws" = true)
    (k0 : PySem.W.keepIn K (.ref g0) = true)
    (a1 : PySem.W.nsIn K mainGlobals "_law_draw" = some (some (.ref g1)))
    (l1 : K.lookup g1 = some ⟨oc1, od1, .func (PySem.W.fnOf "_law_draw" "_law_draw" (defArgs s__law_draw) (defBody s__law_draw) (defScope s__law_draw) .none kV1 dc1 pm1 an1 cd1 ct1), sl1⟩)
    (c1 : PySem.W.codeIn K cd1 "_law_draw" = true)
    (k1 : PySem.W.keepIn K (.ref g1) = true)
    (a2 : PySem.W.nsIn K mainGlobals "_law_pick" = some (some (.ref g2)))
    (l2 : K.lookup g2 = some ⟨oc2, od2, .func (PySem.W.fnOf "_law_pick" "_law_pick" (defArgs s__law_pick) (defBody s__law_pick) (defScope s__law_pick) .none kV2 dc2 pm2 an2 cd2 ct2), sl2⟩)
    (c2 : PySem.W.codeIn K cd2 "_law_pick" = true)
    (k2 : PySem.W.keepIn K (.ref g2) = true)
    (a3 : PySem.W.nsIn K mainGlobals "_law_same" = some (some (.ref g3)))
    (l3 : K.lookup g3 = some ⟨oc3, od3, .func (PySem.W.fnOf "_law_same" "_law_same" (defArgs s__law_same) (defBody s__law_same) (defScope s__law_same) .none kV3 dc3 pm3 an3 cd3 ct3), sl3⟩)
    (c3 : PySem.W.codeIn K cd3 "_law_same" = true)
    (k3 : PySem.W.keepIn K (.ref g3) = true)
    (a4 : PySem.W.nsIn K mainGlobals "_law_error_name" = some (some (.ref g4)))
    (l4 : K.lookup g4 = some ⟨oc4, od4, .func (PySem.W.fnOf "_law_error_name" "_law_error_name" (defArgs s__law_error_name) (defBody s__law_error_name) (defScope s__law_error_name) .none kV4 dc4 pm4 an4 cd4 ct4), sl4⟩)
    (c4 : PySem.W.codeIn K cd4 "_law_error_name" = true)
    (k4 : PySem.W.keepIn K (.ref g4) = true)
    (a5 : PySem.W.nsIn K mainGlobals "_law_error_field" = some (some (.ref g5)))
    (l5 : K.lookup g5 = some ⟨oc5, od5, .func (PySem.W.fnOf "_law_error_field" "_law_error_field" (defArgs s__law_error_field) (defBody s__law_error_field) (defScope s__law_error_field) .none kV5 dc5 pm5 an5 cd5 ct5), sl5⟩)
    (c5 : PySem.W.codeIn K cd5 "_law_error_field" = true)
    (k5 : PySem.W.keepIn K (.ref g5) = true)
    (a6 : PySem.W.nsIn K mainGlobals "_law_comb" = some (some (.ref g6)))
    (l6 : K.lookup g6 = some ⟨oc6, od6, .func (PySem.W.fnOf "_law_comb" "_law_comb" (defArgs s__law_comb) (defBody s__law_comb) (defScope s__law_comb) .none kV6 dc6 pm6 an6 cd6 ct6), sl6⟩)
    (c6 : PySem.W.codeIn K cd6 "_law_comb" = true)
    (k6 : PySem.W.keepIn K (.ref g6) = true)
    (a7 : PySem.W.nsIn K mainGlobals "_law_term" = some (some (.ref g7)))
    (l7 : K.lookup g7 = some ⟨oc7, od7, .func (PySem.W.fnOf "_law_term" "_law_term" (defArgs s__law_term) (defBody s__law_term) (defScope s__law_term) .none kV7 dc7 pm7 an7 cd7 ct7), sl7⟩)
    (c7 : PySem.W.codeIn K cd7 "_law_term" = true)
    (k7 : PySem.W.keepIn K (.ref g7) = true)
    (a8 : PySem.W.nsIn K mainGlobals "_law_any_term" = some (some (.ref g8)))
    (l8 : K.lookup g8 = some ⟨oc8, od8, .func (PySem.W.fnOf "_law_any_term" "_law_any_term" (defArgs s__law_any_term) (defBody s__law_any_term) (defScope s__law_any_term) .none kV8 dc8 pm8 an8 cd8 ct8), sl8⟩)
    (c8 : PySem.W.codeIn K cd8 "_law_any_term" = true)
    (k8 : PySem.W.keepIn K (.ref g8) = true)
    (a9 : PySem.W.nsIn K mainGlobals "_law_size" = some (some (.ref g9)))
    (l9 : K.lookup g9 = some ⟨oc9, od9, .func (PySem.W.fnOf "_law_size" "_law_size" (defArgs s__law_size) (defBody s__law_size) (defScope s__law_size) .none kV9 dc9 pm9 an9 cd9 ct9), sl9⟩)
    (c9 : PySem.W.codeIn K cd9 "_law_size" = true)
    (k9 : PySem.W.keepIn K (.ref g9) = true)
    (a10 : PySem.W.nsIn K mainGlobals "_law_format" = some (some (.ref g10)))
    (l10 : K.lookup g10 = some ⟨oc10, od10, .func (PySem.W.fnOf "_law_format" "_law_format" (defArgs s__law_format) (defBody s__law_format) (defScope s__law_format) .none kV10 dc10 pm10 an10 cd10 ct10), sl10⟩)
    (c10 : PySem.W.codeIn K cd10 "_law_format" = true)
    (k10 : PySem.W.keepIn K (.ref g10) = true)
    (a11 : PySem.W.nsIn K mainGlobals "_law_paths" = some (some (.ref g11)))
    (l11 : K.lookup g11 = some ⟨oc11, od11, .func (PySem.W.fnOf "_law_paths" "_law_paths" (defArgs s__law_paths) (defBody s__law_paths) (defScope s__law_paths) .none kV11 dc11 pm11 an11 cd11 ct11), sl11⟩)
    (c11 : PySem.W.codeIn K cd11 "_law_paths" = true)
    (k11 : PySem.W.keepIn K (.ref g11) = true)
    (a12 : PySem.W.nsIn K mainGlobals "_law_subterm" = some (some (.ref g12)))
    (l12 : K.lookup g12 = some ⟨oc12, od12, .func (PySem.W.fnOf "_law_subterm" "_law_subterm" (defArgs s__law_subterm) (defBody s__law_subterm) (defScope s__law_subterm) .none kV12 dc12 pm12 an12 cd12 ct12), sl12⟩)
    (c12 : PySem.W.codeIn K cd12 "_law_subterm" = true)
    (k12 : PySem.W.keepIn K (.ref g12) = true)
    (a13 : PySem.W.nsIn K mainGlobals "_law_replace" = some (some (.ref g13)))
    (l13 : K.lookup g13 = some ⟨oc13, od13, .func (PySem.W.fnOf "_law_replace" "_law_replace" (defArgs s__law_replace) (defBody s__law_replace) (defScope s__law_replace) .none kV13 dc13 pm13 an13 cd13 ct13), sl13⟩)
    (c13 : PySem.W.codeIn K cd13 "_law_replace" = true)
    (k13 : PySem.W.keepIn K (.ref g13) = true)
    (a14 : PySem.W.nsIn K mainGlobals "_law_expanded" = some (some (.ref g14)))
    (l14 : K.lookup g14 = some ⟨oc14, od14, .func (PySem.W.fnOf "_law_expanded" "_law_expanded" (defArgs s__law_expanded) (defBody s__law_expanded) (defScope s__law_expanded) .none kV14 dc14 pm14 an14 cd14 ct14), sl14⟩)
    (c14 : PySem.W.codeIn K cd14 "_law_expanded" = true)
    (k14 : PySem.W.keepIn K (.ref g14) = true)
    (a15 : PySem.W.nsIn K mainGlobals "_law_contracted" = some (some (.ref g15)))
    (l15 : K.lookup g15 = some ⟨oc15, od15, .func (PySem.W.fnOf "_law_contracted" "_law_contracted" (defArgs s__law_contracted) (defBody s__law_contracted) (defScope s__law_contracted) .none kV15 dc15 pm15 an15 cd15 ct15), sl15⟩)
    (c15 : PySem.W.codeIn K cd15 "_law_contracted" = true)
    (k15 : PySem.W.keepIn K (.ref g15) = true)
    (a16 : PySem.W.nsIn K mainGlobals "_law_rewrite" = some (some (.ref g16)))
    (l16 : K.lookup g16 = some ⟨oc16, od16, .func (PySem.W.fnOf "_law_rewrite" "_law_rewrite" (defArgs s__law_rewrite) (defBody s__law_rewrite) (defScope s__law_rewrite) .none kV16 dc16 pm16 an16 cd16 ct16), sl16⟩)
    (c16 : PySem.W.codeIn K cd16 "_law_rewrite" = true)
    (k16 : PySem.W.keepIn K (.ref g16) = true)
    (a17 : PySem.W.nsIn K mainGlobals "_law_steps" = some (some (.ref g17)))
    (l17 : K.lookup g17 = some ⟨oc17, od17, .func (PySem.W.fnOf "_law_steps" "_law_steps" (defArgs s__law_steps) (defBody s__law_steps) (defScope s__law_steps) .none kV17 dc17 pm17 an17 cd17 ct17), sl17⟩)
    (c17 : PySem.W.codeIn K cd17 "_law_steps" = true)
    (k17 : PySem.W.keepIn K (.ref g17) = true)
    (a18 : PySem.W.nsIn K mainGlobals "_law_invalid_term" = some (some (.ref g18)))
    (l18 : K.lookup g18 = some ⟨oc18, od18, .func (PySem.W.fnOf "_law_invalid_term" "_law_invalid_term" (defArgs s__law_invalid_term) (defBody s__law_invalid_term) (defScope s__law_invalid_term) .none kV18 dc18 pm18 an18 cd18 ct18), sl18⟩)
    (c18 : PySem.W.codeIn K cd18 "_law_invalid_term" = true)
    (k18 : PySem.W.keepIn K (.ref g18) = true)
    (a19 : PySem.W.nsIn K mainGlobals "_law_expansions" = some (some (.ref g19)))
    (l19 : K.lookup g19 = some ⟨oc19, od19, .func (PySem.W.fnOf "_law_expansions" "_law_expansions" (defArgs s__law_expansions) (defBody s__law_expansions) (defScope s__law_expansions) .none kV19 dc19 pm19 an19 cd19 ct19), sl19⟩)
    (c19 : PySem.W.codeIn K cd19 "_law_expansions" = true)
    (k19 : PySem.W.keepIn K (.ref g19) = true)
    (a20 : PySem.W.nsIn K mainGlobals "_law_sort_key" = some (some (.ref g20)))
    (l20 : K.lookup g20 = some ⟨oc20, od20, .func (PySem.W.fnOf "_law_sort_key" "_law_sort_key" (defArgs s__law_sort_key) (defBody s__law_sort_key) (defScope s__law_sort_key) .none kV20 dc20 pm20 an20 cd20 ct20), sl20⟩)
    (c20 : PySem.W.codeIn K cd20 "_law_sort_key" = true)
    (k20 : PySem.W.keepIn K (.ref g20) = true)
    (a21 : PySem.W.nsIn K mainGlobals "is_pair" = some (some (.ref g21)))
    (l21 : K.lookup g21 = some ⟨oc21, od21, .func (PySem.W.fnOf "is_pair" "is_pair" (defArgs s_is_pair) (defBody s_is_pair) (defScope s_is_pair) .none kV21 dc21 pm21 an21 cd21 ct21), sl21⟩)
    (c21 : PySem.W.codeIn K cd21 "is_pair" = true)
    (k21 : PySem.W.keepIn K (.ref g21) = true)
    (a22 : PySem.W.nsIn K mainGlobals "is_term" = some (some (.ref g22)))
    (l22 : K.lookup g22 = some ⟨oc22, od22, .func (PySem.W.fnOf "is_term" "is_term" (defArgs s_is_term) (defBody s_is_term) (defScope s_is_term) .none kV22 dc22 pm22 an22 cd22 ct22), sl22⟩)
    (c22 : PySem.W.codeIn K cd22 "is_term" = true)
    (k22 : PySem.W.keepIn K (.ref g22) = true)
    (a23 : PySem.W.nsIn K mainGlobals "check_term" = some (some (.ref g23)))
    (l23 : K.lookup g23 = some ⟨oc23, od23, .func (PySem.W.fnOf "check_term" "check_term" (defArgs s_check_term) (defBody s_check_term) (defScope s_check_term) .none kV23 dc23 pm23 an23 cd23 ct23), sl23⟩)
    (c23 : PySem.W.codeIn K cd23 "check_term" = true)
    (k23 : PySem.W.keepIn K (.ref g23) = true)
    (a24 : PySem.W.nsIn K mainGlobals "expanded" = some (some (.ref g24)))
    (l24 : K.lookup g24 = some ⟨oc24, od24, .func (PySem.W.fnOf "expanded" "expanded" (defArgs s_expanded) (defBody s_expanded) (defScope s_expanded) .none kV24 dc24 pm24 an24 cd24 ct24), sl24⟩)
    (c24 : PySem.W.codeIn K cd24 "expanded" = true)
    (k24 : PySem.W.keepIn K (.ref g24) = true)
    (a25 : PySem.W.nsIn K mainGlobals "steps_from" = some (some (.ref g25)))
    (l25 : K.lookup g25 = some ⟨oc25, od25, .func (PySem.W.fnOf "steps_from" "steps_from" (defArgs s_steps_from) (defBody s_steps_from) (defScope s_steps_from) .none kV25 dc25 pm25 an25 cd25 ct25), sl25⟩)
    (c25 : PySem.W.codeIn K cd25 "steps_from" = true)
    (k25 : PySem.W.keepIn K (.ref g25) = true)
    (a26 : PySem.W.nsIn K mainGlobals "found_expansions" = some (some (.ref g26)))
    (l26 : K.lookup g26 = some ⟨oc26, od26, .func (PySem.W.fnOf "found_expansions" "found_expansions" (defArgs s_found_expansions) (defBody s_found_expansions) (defScope s_found_expansions) .none kV26 dc26 pm26 an26 cd26 ct26), sl26⟩)
    (c26 : PySem.W.codeIn K cd26 "found_expansions" = true)
    (k26 : PySem.W.keepIn K (.ref g26) = true)
    (a27 : PySem.W.nsIn K mainGlobals "sizes_inside" = some (some (.ref g27)))
    (l27 : K.lookup g27 = some ⟨oc27, od27, .func (PySem.W.fnOf "sizes_inside" "sizes_inside" (defArgs s_sizes_inside) (defBody s_sizes_inside) (defScope s_sizes_inside) .none kV27 dc27 pm27 an27 cd27 ct27), sl27⟩)
    (c27 : PySem.W.codeIn K cd27 "sizes_inside" = true)
    (k27 : PySem.W.keepIn K (.ref g27) = true)
    (a28 : PySem.W.nsIn K mainGlobals "in_order" = some (some (.ref g28)))
    (l28 : K.lookup g28 = some ⟨oc28, od28, .func (PySem.W.fnOf "in_order" "in_order" (defArgs s_in_order) (defBody s_in_order) (defScope s_in_order) .none kV28 dc28 pm28 an28 (.ref cA28) ct28), sl28⟩)
    (c28 : PySem.W.codeIn K (.ref cA28) "in_order" = true)
    (k28 : PySem.W.keepIn K (.ref g28) = true)
    (a29 : PySem.W.nsIn K mainGlobals "expansions" = some (some (.ref g29)))
    (l29 : K.lookup g29 = some ⟨oc29, od29, .func (PySem.W.fnOf "expansions" "expansions" (defArgs s_expansions) (defBody s_expansions) (defScope s_expansions) .none (.ref DK29) dc29 pm29 an29 cd29 ct29), sl29⟩)
    (c29 : PySem.W.codeIn K cd29 "expansions" = true)
    (k29 : PySem.W.keepIn K (.ref g29) = true)
    (hk29 : PySem.W.nsIn K DK29 "max_size" = some (some (.int 24 tD29)))
    (a30 : PySem.W.nsIn K mainGlobals "_law_try" = some (some (.ref g30)))
    (l30 : K.lookup g30 = some ⟨oc30, od30, .func (PySem.W.fnOf "_law_try" "_law_try" (defArgs s__law_try) (defBody s__law_try) (defScope s__law_try) .none kV30 dc30 pm30 an30 cd30 ct30), sl30⟩)
    (c30 : PySem.W.codeIn K cd30 "_law_try" = true)
    (k30 : PySem.W.keepIn K (.ref g30) = true)
    (a31 : PySem.W.nsIn K mainGlobals "law" = some (some (.ref g31)))
    (l31 : K.lookup g31 = some ⟨oc31, od31, .func (PySem.W.fnOf "law" "law" (defArgs s_law) (defBody s_law) (defScope s_law) .none kV31 dc31 pm31 an31 (.ref cL) ct31), sl31⟩)
    (c31 : PySem.W.codeIn K (.ref cL) "law" = true)
    (k31 : PySem.W.keepIn K (.ref g31) = true)
    (z_len : PySem.W.nsIn K mainGlobals "len" = some none)
    (z_list : PySem.W.nsIn K mainGlobals "list" = some none)
    (z_tuple : PySem.W.nsIn K mainGlobals "tuple" = some none)
    (z_dict : PySem.W.nsIn K mainGlobals "dict" = some none)
    (z_bool : PySem.W.nsIn K mainGlobals "bool" = some none)
    (z_isinstance : PySem.W.nsIn K mainGlobals "isinstance" = some none)
    (z_max : PySem.W.nsIn K mainGlobals "max" = some none)
    (z_min : PySem.W.nsIn K mainGlobals "min" = some none)
    (z_range : PySem.W.nsIn K mainGlobals "range" = some none)
    (z_all : PySem.W.nsIn K mainGlobals "all" = some none)
    (z_sorted : PySem.W.nsIn K mainGlobals "sorted" = some none)
    (z_enumerate : PySem.W.nsIn K mainGlobals "enumerate" = some none)
    (z_sum : PySem.W.nsIn K mainGlobals "sum" = some none)
    (z_str : PySem.W.nsIn K mainGlobals "str" = some none)
    (z_int : PySem.W.nsIn K mainGlobals "int" = some none)
    (q_MAX_SIZE : PySem.W.nsIn K mainGlobals "MAX_SIZE" = some (some (.int 12 tc_MAX_SIZE)))
    (q_MAX_DEPTH : PySem.W.nsIn K mainGlobals "MAX_DEPTH" = some (some (.int 6 tc_MAX_DEPTH)))
    (q_GENERATOR : PySem.W.nsIn K mainGlobals "GENERATOR" = some (some (.int 0 tc_GENERATOR)))
    (q_MAX_EXPANSION_SIZE : PySem.W.nsIn K mainGlobals "MAX_EXPANSION_SIZE" = some (some (.int 30 tc_MAX_EXPANSION_SIZE)))
    (q_MAX_EXPANSIONS : PySem.W.nsIn K mainGlobals "MAX_EXPANSIONS" = some (some (.int 500 tc_MAX_EXPANSIONS)))
    (lC : K.lookup cL = some ⟨.type "code", edL, .fields vsL, slL⟩)
    (lP11 : vsL[11]? = some (.ref Pt))
    (nP : K.lookup Pt = none)
    (v18 : vsL.getD 18 .none = .str f18 t18)
    (v7 : vsL.getD 7 .none = .int i7 t7)
    (v9 : vsL.getD 9 .none = .bool b9)
    (v10 : vsL.getD 10 .none = .int i10 t10)
    (vne : (cL != Pt) = true)
    (lC_28 : K.lookup cA28 = some ⟨.type "code", edA28, .fields vsA28, slA28⟩)
    (lP11_28 : vsA28[11]? = some (.ref PA28))
    (nP_28 : K.lookup PA28 = none)
    (v18_28 : vsA28.getD 18 .none = .str fA18_28 tA18_28)
    (v7_28 : vsA28.getD 7 .none = .int iA7_28 tA7_28)
    (v9_28 : vsA28.getD 9 .none = .bool bA9_28)
    (v10_28 : vsA28.getD 10 .none = .int iA10_28 tA10_28)
    (vne_28 : (cA28 != PA28) = true)
    (pne_28 : (Pt != PA28) = true)
    (aT : PySem.W.nsIn K mainGlobals "TermError" = some (some (.ref CT)))
    (ax0 : PySem.W.nsIn K mainGlobals "InvalidTerm" = some (some (.ref x0)))
    (ax1 : PySem.W.nsIn K mainGlobals "InvalidText" = some (some (.ref x1)))
    (ax2 : PySem.W.nsIn K mainGlobals "InvalidPath" = some (some (.ref x2)))
    (ax3 : PySem.W.nsIn K mainGlobals "PathNotFound" = some (some (.ref x3)))
    (ax4 : PySem.W.nsIn K mainGlobals "NotRewritable" = some (some (.ref x4)))
    (ax5 : PySem.W.nsIn K mainGlobals "TooLarge" = some (some (.ref x5)))
    (ax6 : PySem.W.nsIn K mainGlobals "InvalidSize" = some (some (.ref x6)))
    (ax7 : PySem.W.nsIn K mainGlobals "InvalidIndex" = some (some (.ref x7)))
    (ax8 : PySem.W.nsIn K mainGlobals "InvalidWord" = some (some (.ref x8)))
    (ax9 : PySem.W.nsIn K mainGlobals "InvalidStep" = some (some (.ref x9)))
    (ax10 : PySem.W.nsIn K mainGlobals "InvalidElement" = some (some (.ref x10)))
    (ax11 : PySem.W.nsIn K mainGlobals "InvalidModel" = some (some (.ref x11)))
    (ax12 : PySem.W.nsIn K mainGlobals "NestingTooDeep" = some (some (.ref x12)))
    (ax13 : PySem.W.nsIn K mainGlobals "InvalidLabel" = some (some (.ref x13)))
    (ax14 : PySem.W.nsIn K mainGlobals "DuplicateName" = some (some (.ref x14)))
    (ax15 : PySem.W.nsIn K mainGlobals "UnknownName" = some (some (.ref x15)))
    (ax16 : PySem.W.nsIn K mainGlobals "LimitReached" = some (some (.ref x16)))
    (ax17 : PySem.W.nsIn K mainGlobals "InvalidCommand" = some (some (.ref x17)))
    (ax18 : PySem.W.nsIn K mainGlobals "EmptyHistory" = some (some (.ref x18)))
    (ax19 : PySem.W.nsIn K mainGlobals "InvalidSnapshot" = some (some (.ref x19)))
    (ki0 : PySem.W.isClsIn K x0 = true)
    (ky0 : PySem.W.typeIn K (.ref x0) = some (.type "type"))
    (ki1 : PySem.W.isClsIn K x1 = true)
    (ky1 : PySem.W.typeIn K (.ref x1) = some (.type "type"))
    (ki2 : PySem.W.isClsIn K x2 = true)
    (ky2 : PySem.W.typeIn K (.ref x2) = some (.type "type"))
    (ki3 : PySem.W.isClsIn K x3 = true)
    (ky3 : PySem.W.typeIn K (.ref x3) = some (.type "type"))
    (ki4 : PySem.W.isClsIn K x4 = true)
    (ky4 : PySem.W.typeIn K (.ref x4) = some (.type "type"))
    (ki5 : PySem.W.isClsIn K x5 = true)
    (ky5 : PySem.W.typeIn K (.ref x5) = some (.type "type"))
    (ki6 : PySem.W.isClsIn K x6 = true)
    (ky6 : PySem.W.typeIn K (.ref x6) = some (.type "type"))
    (ki7 : PySem.W.isClsIn K x7 = true)
    (ky7 : PySem.W.typeIn K (.ref x7) = some (.type "type"))
    (ki8 : PySem.W.isClsIn K x8 = true)
    (ky8 : PySem.W.typeIn K (.ref x8) = some (.type "type"))
    (ki9 : PySem.W.isClsIn K x9 = true)
    (ky9 : PySem.W.typeIn K (.ref x9) = some (.type "type"))
    (ki10 : PySem.W.isClsIn K x10 = true)
    (ky10 : PySem.W.typeIn K (.ref x10) = some (.type "type"))
    (ki11 : PySem.W.isClsIn K x11 = true)
    (ky11 : PySem.W.typeIn K (.ref x11) = some (.type "type"))
    (ki12 : PySem.W.isClsIn K x12 = true)
    (ky12 : PySem.W.typeIn K (.ref x12) = some (.type "type"))
    (ki13 : PySem.W.isClsIn K x13 = true)
    (ky13 : PySem.W.typeIn K (.ref x13) = some (.type "type"))
    (ki14 : PySem.W.isClsIn K x14 = true)
    (ky14 : PySem.W.typeIn K (.ref x14) = some (.type "type"))
    (ki15 : PySem.W.isClsIn K x15 = true)
    (ky15 : PySem.W.typeIn K (.ref x15) = some (.type "type"))
    (ki16 : PySem.W.isClsIn K x16 = true)
    (ky16 : PySem.W.typeIn K (.ref x16) = some (.type "type"))
    (ki17 : PySem.W.isClsIn K x17 = true)
    (ky17 : PySem.W.typeIn K (.ref x17) = some (.type "type"))
    (ki18 : PySem.W.isClsIn K x18 = true)
    (ky18 : PySem.W.typeIn K (.ref x18) = some (.type "type"))
    (ki19 : PySem.W.isClsIn K x19 = true)
    (ky19 : PySem.W.typeIn K (.ref x19) = some (.type "type"))
    (xn : PySem.W.specialIn K (.builtin "object.__class__") "__get__" = some (some (.builtin "getset_descriptor.__get__")))
    (xt : PySem.W.takesIn K (.builtin "object.__class__") = some true)
    (ye : PySem.W.subIn K (.ref CT) (.type "BaseException") = some true)
    (yd : PySem.W.hasDictIn K CT = true)
    (yt : PySem.W.typeIn K (.ref CT) = some (.type "type"))
    (kn0_1 : (Value.ref x0 == Value.ref x1) = false)
    (ks0_1 : PySem.W.subIn K (.ref x0) (.ref x1) = some false)
    (kn0_2 : (Value.ref x0 == Value.ref x2) = false)
    (ks0_2 : PySem.W.subIn K (.ref x0) (.ref x2) = some false)
    (kn0_3 : (Value.ref x0 == Value.ref x3) = false)
    (ks0_3 : PySem.W.subIn K (.ref x0) (.ref x3) = some false)
    (kn0_4 : (Value.ref x0 == Value.ref x4) = false)
    (ks0_4 : PySem.W.subIn K (.ref x0) (.ref x4) = some false)
    (kn0_5 : (Value.ref x0 == Value.ref x5) = false)
    (ks0_5 : PySem.W.subIn K (.ref x0) (.ref x5) = some false)
    (kn0_6 : (Value.ref x0 == Value.ref x6) = false)
    (ks0_6 : PySem.W.subIn K (.ref x0) (.ref x6) = some false)
    (kn0_7 : (Value.ref x0 == Value.ref x7) = false)
    (ks0_7 : PySem.W.subIn K (.ref x0) (.ref x7) = some false)
    (kn0_8 : (Value.ref x0 == Value.ref x8) = false)
    (ks0_8 : PySem.W.subIn K (.ref x0) (.ref x8) = some false)
    (kn0_9 : (Value.ref x0 == Value.ref x9) = false)
    (ks0_9 : PySem.W.subIn K (.ref x0) (.ref x9) = some false)
    (kn0_10 : (Value.ref x0 == Value.ref x10) = false)
    (ks0_10 : PySem.W.subIn K (.ref x0) (.ref x10) = some false)
    (kn0_11 : (Value.ref x0 == Value.ref x11) = false)
    (ks0_11 : PySem.W.subIn K (.ref x0) (.ref x11) = some false)
    (kn0_12 : (Value.ref x0 == Value.ref x12) = false)
    (ks0_12 : PySem.W.subIn K (.ref x0) (.ref x12) = some false)
    (kn0_13 : (Value.ref x0 == Value.ref x13) = false)
    (ks0_13 : PySem.W.subIn K (.ref x0) (.ref x13) = some false)
    (kn0_14 : (Value.ref x0 == Value.ref x14) = false)
    (ks0_14 : PySem.W.subIn K (.ref x0) (.ref x14) = some false)
    (kn0_15 : (Value.ref x0 == Value.ref x15) = false)
    (ks0_15 : PySem.W.subIn K (.ref x0) (.ref x15) = some false)
    (kn0_16 : (Value.ref x0 == Value.ref x16) = false)
    (ks0_16 : PySem.W.subIn K (.ref x0) (.ref x16) = some false)
    (kn0_17 : (Value.ref x0 == Value.ref x17) = false)
    (ks0_17 : PySem.W.subIn K (.ref x0) (.ref x17) = some false)
    (kn0_18 : (Value.ref x0 == Value.ref x18) = false)
    (ks0_18 : PySem.W.subIn K (.ref x0) (.ref x18) = some false)
    (kn0_19 : (Value.ref x0 == Value.ref x19) = false)
    (ks0_19 : PySem.W.subIn K (.ref x0) (.ref x19) = some false)
    (xg0 : PySem.W.findIn K (.ref x0) "__getattribute__" = some (some (.builtin "BaseException.__getattribute__")))
    (xk0 : PySem.W.findIn K (.ref x0) "__getattr__" = some none)
    (xd0 : PySem.W.hasDictIn K x0 = true)
    (xa0 : PySem.W.findIn K (.ref x0) "__class__" = some (some (.builtin "object.__class__")))
    (xm0 : PySem.W.mroIn K x0 (.type "object") = some true)
    (ys0 : PySem.W.subIn K (.ref x0) (.ref CT) = some true)
    (kn5_0 : (Value.ref x5 == Value.ref x0) = false)
    (ks5_0 : PySem.W.subIn K (.ref x5) (.ref x0) = some false)
    (kn5_1 : (Value.ref x5 == Value.ref x1) = false)
    (ks5_1 : PySem.W.subIn K (.ref x5) (.ref x1) = some false)
    (kn5_2 : (Value.ref x5 == Value.ref x2) = false)
    (ks5_2 : PySem.W.subIn K (.ref x5) (.ref x2) = some false)
    (kn5_3 : (Value.ref x5 == Value.ref x3) = false)
    (ks5_3 : PySem.W.subIn K (.ref x5) (.ref x3) = some false)
    (kn5_4 : (Value.ref x5 == Value.ref x4) = false)
    (ks5_4 : PySem.W.subIn K (.ref x5) (.ref x4) = some false)
    (kn5_6 : (Value.ref x5 == Value.ref x6) = false)
    (ks5_6 : PySem.W.subIn K (.ref x5) (.ref x6) = some false)
    (kn5_7 : (Value.ref x5 == Value.ref x7) = false)
    (ks5_7 : PySem.W.subIn K (.ref x5) (.ref x7) = some false)
    (kn5_8 : (Value.ref x5 == Value.ref x8) = false)
    (ks5_8 : PySem.W.subIn K (.ref x5) (.ref x8) = some false)
    (kn5_9 : (Value.ref x5 == Value.ref x9) = false)
    (ks5_9 : PySem.W.subIn K (.ref x5) (.ref x9) = some false)
    (kn5_10 : (Value.ref x5 == Value.ref x10) = false)
    (ks5_10 : PySem.W.subIn K (.ref x5) (.ref x10) = some false)
    (kn5_11 : (Value.ref x5 == Value.ref x11) = false)
    (ks5_11 : PySem.W.subIn K (.ref x5) (.ref x11) = some false)
    (kn5_12 : (Value.ref x5 == Value.ref x12) = false)
    (ks5_12 : PySem.W.subIn K (.ref x5) (.ref x12) = some false)
    (kn5_13 : (Value.ref x5 == Value.ref x13) = false)
    (ks5_13 : PySem.W.subIn K (.ref x5) (.ref x13) = some false)
    (kn5_14 : (Value.ref x5 == Value.ref x14) = false)
    (ks5_14 : PySem.W.subIn K (.ref x5) (.ref x14) = some false)
    (kn5_15 : (Value.ref x5 == Value.ref x15) = false)
    (ks5_15 : PySem.W.subIn K (.ref x5) (.ref x15) = some false)
    (kn5_16 : (Value.ref x5 == Value.ref x16) = false)
    (ks5_16 : PySem.W.subIn K (.ref x5) (.ref x16) = some false)
    (kn5_17 : (Value.ref x5 == Value.ref x17) = false)
    (ks5_17 : PySem.W.subIn K (.ref x5) (.ref x17) = some false)
    (kn5_18 : (Value.ref x5 == Value.ref x18) = false)
    (ks5_18 : PySem.W.subIn K (.ref x5) (.ref x18) = some false)
    (kn5_19 : (Value.ref x5 == Value.ref x19) = false)
    (ks5_19 : PySem.W.subIn K (.ref x5) (.ref x19) = some false)
    (xg5 : PySem.W.findIn K (.ref x5) "__getattribute__" = some (some (.builtin "BaseException.__getattribute__")))
    (xk5 : PySem.W.findIn K (.ref x5) "__getattr__" = some none)
    (xd5 : PySem.W.hasDictIn K x5 = true)
    (xa5 : PySem.W.findIn K (.ref x5) "__class__" = some (some (.builtin "object.__class__")))
    (xm5 : PySem.W.mroIn K x5 (.type "object") = some true)
    (ys5 : PySem.W.subIn K (.ref x5) (.ref CT) = some true)
    (kn6_0 : (Value.ref x6 == Value.ref x0) = false)
    (ks6_0 : PySem.W.subIn K (.ref x6) (.ref x0) = some false)
    (kn6_1 : (Value.ref x6 == Value.ref x1) = false)
    (ks6_1 : PySem.W.subIn K (.ref x6) (.ref x1) = some false)
    (kn6_2 : (Value.ref x6 == Value.ref x2) = false)
    (ks6_2 : PySem.W.subIn K (.ref x6) (.ref x2) = some false)
    (kn6_3 : (Value.ref x6 == Value.ref x3) = false)
    (ks6_3 : PySem.W.subIn K (.ref x6) (.ref x3) = some false)
    (kn6_4 : (Value.ref x6 == Value.ref x4) = false)
    (ks6_4 : PySem.W.subIn K (.ref x6) (.ref x4) = some false)
    (kn6_5 : (Value.ref x6 == Value.ref x5) = false)
    (ks6_5 : PySem.W.subIn K (.ref x6) (.ref x5) = some false)
    (kn6_7 : (Value.ref x6 == Value.ref x7) = false)
    (ks6_7 : PySem.W.subIn K (.ref x6) (.ref x7) = some false)
    (kn6_8 : (Value.ref x6 == Value.ref x8) = false)
    (ks6_8 : PySem.W.subIn K (.ref x6) (.ref x8) = some false)
    (kn6_9 : (Value.ref x6 == Value.ref x9) = false)
    (ks6_9 : PySem.W.subIn K (.ref x6) (.ref x9) = some false)
    (kn6_10 : (Value.ref x6 == Value.ref x10) = false)
    (ks6_10 : PySem.W.subIn K (.ref x6) (.ref x10) = some false)
    (kn6_11 : (Value.ref x6 == Value.ref x11) = false)
    (ks6_11 : PySem.W.subIn K (.ref x6) (.ref x11) = some false)
    (kn6_12 : (Value.ref x6 == Value.ref x12) = false)
    (ks6_12 : PySem.W.subIn K (.ref x6) (.ref x12) = some false)
    (kn6_13 : (Value.ref x6 == Value.ref x13) = false)
    (ks6_13 : PySem.W.subIn K (.ref x6) (.ref x13) = some false)
    (kn6_14 : (Value.ref x6 == Value.ref x14) = false)
    (ks6_14 : PySem.W.subIn K (.ref x6) (.ref x14) = some false)
    (kn6_15 : (Value.ref x6 == Value.ref x15) = false)
    (ks6_15 : PySem.W.subIn K (.ref x6) (.ref x15) = some false)
    (kn6_16 : (Value.ref x6 == Value.ref x16) = false)
    (ks6_16 : PySem.W.subIn K (.ref x6) (.ref x16) = some false)
    (kn6_17 : (Value.ref x6 == Value.ref x17) = false)
    (ks6_17 : PySem.W.subIn K (.ref x6) (.ref x17) = some false)
    (kn6_18 : (Value.ref x6 == Value.ref x18) = false)
    (ks6_18 : PySem.W.subIn K (.ref x6) (.ref x18) = some false)
    (kn6_19 : (Value.ref x6 == Value.ref x19) = false)
    (ks6_19 : PySem.W.subIn K (.ref x6) (.ref x19) = some false)
    (xg6 : PySem.W.findIn K (.ref x6) "__getattribute__" = some (some (.builtin "BaseException.__getattribute__")))
    (xk6 : PySem.W.findIn K (.ref x6) "__getattr__" = some none)
    (xd6 : PySem.W.hasDictIn K x6 = true)
    (xa6 : PySem.W.findIn K (.ref x6) "__class__" = some (some (.builtin "object.__class__")))
    (xm6 : PySem.W.mroIn K x6 (.type "object") = some true)
    (ys6 : PySem.W.subIn K (.ref x6) (.ref CT) = some true)
    (xs0 : PySem.W.subIn K (.ref x0) (.type "BaseException") = some true)
    (xs5 : PySem.W.subIn K (.ref x5) (.type "BaseException") = some true)
    (xs6 : PySem.W.subIn K (.ref x6) (.type "BaseException") = some true)
    (xq0 : PySem.W.excIn K x0 [.type "ValueError", .type "Exception", .type "BaseException", .type "object"] "ValueError.__new__" = true)
    (xkp0 : PySem.W.keepIn K (.ref x0) = true)
    (xq6 : PySem.W.excIn K x6 [.type "ValueError", .type "Exception", .type "BaseException", .type "object"] "ValueError.__new__" = true)
    (xkp6 : PySem.W.keepIn K (.ref x6) = true)
    (xf0_position : PySem.W.findIn K (.ref x0) "position" = some none)
    (xf0_name : PySem.W.findIn K (.ref x0) "name" = some none)
    (xf0_size : PySem.W.findIn K (.ref x0) "size" = some none)
    (xf0_row : PySem.W.findIn K (.ref x0) "row" = some none)
    (xf5_position : PySem.W.findIn K (.ref x5) "position" = some none)
    (xf5_name : PySem.W.findIn K (.ref x5) "name" = some none)
    (xf5_size : PySem.W.findIn K (.ref x5) "size" = some none)
    (xf5_row : PySem.W.findIn K (.ref x5) "row" = some none)
    (xf6_position : PySem.W.findIn K (.ref x6) "position" = some none)
    (xf6_name : PySem.W.findIn K (.ref x6) "name" = some none)
    (xf6_size : PySem.W.findIn K (.ref x6) "size" = some none)
    (xf6_row : PySem.W.findIn K (.ref x6) "row" = some none)
    (z_super : PySem.W.nsIn K mainGlobals "super" = some none)
    (tany : PySem.W.nsIn K cStatics "thirdparty.any" = some none)
    (ttop : (l.prog.main.scope.names.lookup ("super" : Str)).isSome = false)
    (ti5 : PySem.W.findIn K (.ref x5) "__init__" = some (some (.ref tf5)))
    (tt5 : PySem.W.typeIn K (.ref tf5) = some (.type "function"))
    (tl5 : K.lookup tf5 = some ⟨to5, td5, .func (PySem.W.ksFn "__init__" "TooLarge.__init__" (defArgs s_TLInit) (defBody s_TLInit) (defScope s_TLInit) .none tkV5 tdc5 tpm5 tan5 (.ref tcd5) tct5 tcc5), tsl5⟩)
    (tci5 : PySem.W.codeIn K (.ref tcd5) "TooLarge.__init__" = true)
    (tco5 : K.lookup tcd5 = some ⟨tcl5, tcdd5, .fields tcv5, tcs5⟩)
    (tcf5 : tcv5[2]? = some (.str tfile5 tft5))
    (tpf5 : ((l.prog.main.file : Str) == tfile5) = true)
    (tce5 : K.lookup tcc5 = some ⟨tccl5, tccd5, .cell (some (.ref x5)), tccs5⟩)
    (tlk5 : K.lookup x5 = some (excClassObj tnm5 tq5 x5 tN5 tbs5 tbm5 true tsn5 tsub5 tab5 tcol5 tdd5 tk0_5 tk1_5 tk2_5 tk3_5 tk5_5 "ValueError.__new__"))
    (tre5 : PySem.HandSPX.refsVE tbm5 = true)
    (tsa5 : PySem.W.findIn K (.ref x5) "__setattr__" = some (some (.builtin "object.__setattr__")))
    (tkp5 : PySem.W.keepIn K (.ref x5) = true)
    (tmr5 : PySem.W.mroIn K x5 (.ref x5) = some true)
    (tks5 : PySem.W.ks_superIn K x5 x5 "__init__" = some (some (.builtin "ValueError.__init__")))
    (tva5 : PySem.W.subIn K (.ref x5) (.type "ValueError") = some true)
    (aC : PySem.W.nsIn K mainGlobals "Pool" = some (some (.ref Cp)))
    (ma0 : PySem.W.findIn K (.ref Cp) "__init__" = some (some (.ref m0)))
    (mi0 : PySem.W.isFn K (.ref m0) = true)
    (ml0 : K.lookup m0 = some ⟨moc0, mod0, .func (PySem.W.fnOf "__init__" "Pool.__init__" (defArgs s_PInit) (defBody s_PInit) (defScope s_PInit) .none mkV0 mdc0 mpm0 man0 mcd0 mct0), msl0⟩)
    (mc0 : PySem.W.codeIn K mcd0 "Pool.__init__" = true)
    (mk0 : PySem.W.keepIn K (.ref m0) = true)
    (ma1 : PySem.W.findIn K (.ref Cp) "pair" = some (some (.ref m1)))
    (mi1 : PySem.W.isFn K (.ref m1) = true)
    (ml1 : K.lookup m1 = some ⟨moc1, mod1, .func (PySem.W.fnOf "pair" "Pool.pair" (defArgs s_PPair) (defBody s_PPair) (defScope s_PPair) .none mkV1 mdc1 mpm1 man1 mcd1 mct1), msl1⟩)
    (mc1 : PySem.W.codeIn K mcd1 "Pool.pair" = true)
    (mk1 : PySem.W.keepIn K (.ref m1) = true)
    (ma2 : PySem.W.findIn K (.ref Cp) "number_of" = some (some (.ref m2)))
    (mi2 : PySem.W.isFn K (.ref m2) = true)
    (ml2 : K.lookup m2 = some ⟨moc2, mod2, .func (PySem.W.fnOf "number_of" "Pool.number_of" (defArgs s_PNum) (defBody s_PNum) (defScope s_PNum) .none mkV2 mdc2 mpm2 man2 mcd2 mct2), msl2⟩)
    (mc2 : PySem.W.codeIn K mcd2 "Pool.number_of" = true)
    (mk2 : PySem.W.keepIn K (.ref m2) = true)
    (cpg : PySem.W.plainGet K Cp Str.empty = true)
    (chd : PySem.W.hasDictIn K Cp = true)
    (cpo : PySem.W.plainOver K Cp = true)
    (csa : PySem.W.findIn K (.ref Cp) "__setattr__" = some (some (.builtin "object.__setattr__")))
    (cmk : PySem.W.makesIn K Cp = true)
    (ckc : PySem.W.keepIn K (.ref Cp) = true)
    (cn0 : PySem.W.findIn K (.ref Cp) "numbers" = some none)
    (cn1 : PySem.W.findIn K (.ref Cp) "pairs" = some none)
    (cn2 : PySem.W.findIn K (.ref Cp) "sizes" = some none)
    (cn3 : PySem.W.findIn K (.ref Cp) "terms" = some none) (tT_L : h.get? Pt = some { cls := .none, data := .fields #[] }) (tT_28 : h.get? PA28 = some { cls := .none, data := .fields #[] }) :
    LamX.LawAtS l w K CX0 64 63 "_law_script" mg fa h := by
  have e := hfa.symm.trans (PySem.W.mg_of X G a31)
  cases e
  have F0 := fun_mk (st := s__law_draws) l0 c0 k0
  have d__law_draws : D K mg "_law_draws" s__law_draws ["_law_script"] _ _ := ⟨F0, F0.binds (ps := ["_law_script"]) fun _ _ _ _ _ _ us hl => match us, hl with | [_], _ => rfl, PySem.W.mg_of X G a0⟩
  have F1 := fun_mk (st := s__law_draw) l1 c1 k1
  have d__law_draw : D K mg "_law_draw" s__law_draw ["_law_rng", "_law_amount"] _ _ := ⟨F1, F1.binds (ps := ["_law_rng", "_law_amount"]) fun _ _ _ _ _ _ us hl => match us, hl with | [_, _], _ => rfl, PySem.W.mg_of X G a1⟩
  have F2 := fun_mk (st := s__law_pick) l2 c2 k2
  have d__law_pick : D K mg "_law_pick" s__law_pick ["_law_rng", "_law_terms"] _ _ := ⟨F2, F2.binds (ps := ["_law_rng", "_law_terms"]) fun _ _ _ _ _ _ us hl => match us, hl with | [_, _], _ => rfl, PySem.W.mg_of X G a2⟩
  have F3 := fun_mk (st := s__law_same) l3 c3 k3
  have d__law_same : D K mg "_law_same" s__law_same ["_law_result", "_law_expected"] _ _ := ⟨F3, F3.binds (ps := ["_law_result", "_law_expected"]) fun _ _ _ _ _ _ us hl => match us, hl with | [_, _], _ => rfl, PySem.W.mg_of X G a3⟩
  have F4 := fun_mk (st := s__law_error_name) l4 c4 k4
  have d__law_error_name : D K mg "_law_error_name" s__law_error_name ["_law_e"] _ _ := ⟨F4, F4.binds (ps := ["_law_e"]) fun _ _ _ _ _ _ us hl => match us, hl with | [_], _ => rfl, PySem.W.mg_of X G a4⟩
  have F5 := fun_mk (st := s__law_error_field) l5 c5 k5
  have d__law_error_field : D K mg "_law_error_field" s__law_error_field ["_law_e", "_law_word"] _ _ := ⟨F5, F5.binds (ps := ["_law_e", "_law_word"]) fun _ _ _ _ _ _ us hl => match us, hl with | [_, _], _ => rfl, PySem.W.mg_of X G a5⟩
  have F6 := fun_mk (st := s__law_comb) l6 c6 k6
  have d__law_comb : D K mg "_law_comb" s__law_comb ["_law_many", "_law_onleft"] _ _ := ⟨F6, F6.binds (ps := ["_law_many", "_law_onleft"]) fun _ _ _ _ _ _ us hl => match us, hl with | [_, _], _ => rfl, PySem.W.mg_of X G a6⟩
  have F7 := fun_mk (st := s__law_term) l7 c7 k7
  have d__law_term : D K mg "_law_term" s__law_term ["_law_rng", "_law_many", "_law_cap"] _ _ := ⟨F7, F7.binds (ps := ["_law_rng", "_law_many", "_law_cap"]) fun _ _ _ _ _ _ us hl => match us, hl with | [_, _, _], _ => rfl, PySem.W.mg_of X G a7⟩
  have F8 := fun_mk (st := s__law_any_term) l8 c8 k8
  have d__law_any_term : D K mg "_law_any_term" s__law_any_term ["_law_rng", "_law_top"] _ _ := ⟨F8, F8.binds (ps := ["_law_rng", "_law_top"]) fun _ _ _ _ _ _ us hl => match us, hl with | [_, _], _ => rfl, PySem.W.mg_of X G a8⟩
  have F9 := fun_mk (st := s__law_size) l9 c9 k9
  have d__law_size : D K mg "_law_size" s__law_size ["_law_term_here"] _ _ := ⟨F9, F9.binds (ps := ["_law_term_here"]) fun _ _ _ _ _ _ us hl => match us, hl with | [_], _ => rfl, PySem.W.mg_of X G a9⟩
  have F10 := fun_mk (st := s__law_format) l10 c10 k10
  have d__law_format : D K mg "_law_format" s__law_format ["_law_term_here"] _ _ := ⟨F10, F10.binds (ps := ["_law_term_here"]) fun _ _ _ _ _ _ us hl => match us, hl with | [_], _ => rfl, PySem.W.mg_of X G a10⟩
  have F11 := fun_mk (st := s__law_paths) l11 c11 k11
  have d__law_paths : D K mg "_law_paths" s__law_paths ["_law_term_here", "_law_spot"] _ _ := ⟨F11, F11.binds (ps := ["_law_term_here", "_law_spot"]) fun _ _ _ _ _ _ us hl => match us, hl with | [_, _], _ => rfl, PySem.W.mg_of X G a11⟩
  have F12 := fun_mk (st := s__law_subterm) l12 c12 k12
  have d__law_subterm : D K mg "_law_subterm" s__law_subterm ["_law_term_here", "_law_spot"] _ _ := ⟨F12, F12.binds (ps := ["_law_term_here", "_law_spot"]) fun _ _ _ _ _ _ us hl => match us, hl with | [_, _], _ => rfl, PySem.W.mg_of X G a12⟩
  have F13 := fun_mk (st := s__law_replace) l13 c13 k13
  have d__law_replace : D K mg "_law_replace" s__law_replace ["_law_term_here", "_law_spot", "_law_new"] _ _ := ⟨F13, F13.binds (ps := ["_law_term_here", "_law_spot", "_law_new"]) fun _ _ _ _ _ _ us hl => match us, hl with | [_, _, _], _ => rfl, PySem.W.mg_of X G a13⟩
  have F14 := fun_mk (st := s__law_expanded) l14 c14 k14
  have d__law_expanded : D K mg "_law_expanded" s__law_expanded ["_law_some"] _ _ := ⟨F14, F14.binds (ps := ["_law_some"]) fun _ _ _ _ _ _ us hl => match us, hl with | [_], _ => rfl, PySem.W.mg_of X G a14⟩
  have F15 := fun_mk (st := s__law_contracted) l15 c15 k15
  have d__law_contracted : D K mg "_law_contracted" s__law_contracted ["_law_some"] _ _ := ⟨F15, F15.binds (ps := ["_law_some"]) fun _ _ _ _ _ _ us hl => match us, hl with | [_], _ => rfl, PySem.W.mg_of X G a15⟩
  have F16 := fun_mk (st := s__law_rewrite) l16 c16 k16
  have d__law_rewrite : D K mg "_law_rewrite" s__law_rewrite ["_law_term_here", "_law_spot", "_law_onward"] _ _ := ⟨F16, F16.binds (ps := ["_law_term_here", "_law_spot", "_law_onward"]) fun _ _ _ _ _ _ us hl => match us, hl with | [_, _, _], _ => rfl, PySem.W.mg_of X G a16⟩
  have F17 := fun_mk (st := s__law_steps) l17 c17 k17
  have d__law_steps : D K mg "_law_steps" s__law_steps ["_law_term_here"] _ _ := ⟨F17, F17.binds (ps := ["_law_term_here"]) fun _ _ _ _ _ _ us hl => match us, hl with | [_], _ => rfl, PySem.W.mg_of X G a17⟩
  have F18 := fun_mk (st := s__law_invalid_term) l18 c18 k18
  have d__law_invalid_term : D K mg "_law_invalid_term" s__law_invalid_term ["_law_rng"] _ _ := ⟨F18, F18.binds (ps := ["_law_rng"]) fun _ _ _ _ _ _ us hl => match us, hl with | [_], _ => rfl, PySem.W.mg_of X G a18⟩
  have F19 := fun_mk (st := s__law_expansions) l19 c19 k19
  have d__law_expansions : D K mg "_law_expansions" s__law_expansions ["_law_term_here", "_law_top"] _ _ := ⟨F19, F19.binds (ps := ["_law_term_here", "_law_top"]) fun _ _ _ _ _ _ us hl => match us, hl with | [_, _], _ => rfl, PySem.W.mg_of X G a19⟩
  have F20 := fun_mk (st := s__law_sort_key) l20 c20 k20
  have d__law_sort_key : D K mg "_law_sort_key" s__law_sort_key ["_law_term_here"] _ _ := ⟨F20, F20.binds (ps := ["_law_term_here"]) fun _ _ _ _ _ _ us hl => match us, hl with | [_], _ => rfl, PySem.W.mg_of X G a20⟩
  have F21 := fun_mk (st := s_is_pair) l21 c21 k21
  have d_is_pair : D K mg "is_pair" s_is_pair ["part"] _ _ := ⟨F21, F21.binds (ps := ["part"]) fun _ _ _ _ _ _ us hl => match us, hl with | [_], _ => rfl, PySem.W.mg_of X G a21⟩
  have F22 := fun_mk (st := s_is_term) l22 c22 k22
  have d_is_term : D K mg "is_term" s_is_term ["term"] _ _ := ⟨F22, F22.binds (ps := ["term"]) fun _ _ _ _ _ _ us hl => match us, hl with | [_], _ => rfl, PySem.W.mg_of X G a22⟩
  have F23 := fun_mk (st := s_check_term) l23 c23 k23
  have d_check_term : D K mg "check_term" s_check_term ["term"] _ _ := ⟨F23, F23.binds (ps := ["term"]) fun _ _ _ _ _ _ us hl => match us, hl with | [_], _ => rfl, PySem.W.mg_of X G a23⟩
  have F24 := fun_mk (st := s_expanded) l24 c24 k24
  have d_expanded : D K mg "expanded" s_expanded ["pool", "number"] _ _ := ⟨F24, F24.binds (ps := ["pool", "number"]) fun _ _ _ _ _ _ us hl => match us, hl with | [_, _], _ => rfl, PySem.W.mg_of X G a24⟩
  have F25 := fun_mk (st := s_steps_from) l25 c25 k25
  have d_steps_from : D K mg "steps_from" s_steps_from ["pool", "number"] _ _ := ⟨F25, F25.binds (ps := ["pool", "number"]) fun _ _ _ _ _ _ us hl => match us, hl with | [_, _], _ => rfl, PySem.W.mg_of X G a25⟩
  have F26 := fun_mk (st := s_found_expansions) l26 c26 k26
  have d_found_expansions : D K mg "found_expansions" s_found_expansions ["pool", "term", "max_size"] _ _ := ⟨F26, F26.binds (ps := ["pool", "term", "max_size"]) fun _ _ _ _ _ _ us hl => match us, hl with | [_, _, _], _ => rfl, PySem.W.mg_of X G a26⟩
  have F27 := fun_mk (st := s_sizes_inside) l27 c27 k27
  have d_sizes_inside : D K mg "sizes_inside" s_sizes_inside ["pool", "number"] _ _ := ⟨F27, F27.binds (ps := ["pool", "number"]) fun _ _ _ _ _ _ us hl => match us, hl with | [_, _], _ => rfl, PySem.W.mg_of X G a27⟩
  have F28 := fun_mk (st := s_in_order) l28 c28 k28
  have d_in_order : D K mg "in_order" s_in_order ["pool", "numbers"] _ _ := ⟨F28, F28.binds (ps := ["pool", "numbers"]) fun _ _ _ _ _ _ us hl => match us, hl with | [_, _], _ => rfl, PySem.W.mg_of X G a28⟩
  have d_expansions := dexp_mk l29 c29 k29 (PySem.W.mg_of X G a29) hk29
  have F30 := fun_mk (st := s__law_try) l30 c30 k30
  have d__law_try : D K mg "_law_try" s__law_try ["_law_ask"] _ _ := ⟨F30, F30.binds (ps := ["_law_ask"]) fun _ _ _ _ _ _ us hl => match us, hl with | [_], _ => rfl, PySem.W.mg_of X G a30⟩
  have B : Blt mg := ⟨PySem.W.mg_none_of X G z_len, PySem.W.mg_none_of X G z_list, PySem.W.mg_none_of X G z_tuple, PySem.W.mg_none_of X G z_dict, PySem.W.mg_none_of X G z_bool, PySem.W.mg_none_of X G z_isinstance, PySem.W.mg_none_of X G z_max, PySem.W.mg_none_of X G z_min, PySem.W.mg_none_of X G z_range, PySem.W.mg_none_of X G z_all, PySem.W.mg_none_of X G z_sorted, PySem.W.mg_none_of X G z_enumerate, PySem.W.mg_none_of X G z_sum, PySem.W.mg_none_of X G z_str, PySem.W.mg_none_of X G z_int⟩
  have M : Errs mg (fun i => [x0, x1, x2, x3, x4, x5, x6, x7, x8, x9, x10, x11, x12, x13, x14, x15, x16, x17, x18, x19].getD i 0) := fun i hi => by
    match i, hi with
    | 0, _ => exact PySem.W.mg_of X G ax0
    | 1, _ => exact PySem.W.mg_of X G ax1
    | 2, _ => exact PySem.W.mg_of X G ax2
    | 3, _ => exact PySem.W.mg_of X G ax3
    | 4, _ => exact PySem.W.mg_of X G ax4
    | 5, _ => exact PySem.W.mg_of X G ax5
    | 6, _ => exact PySem.W.mg_of X G ax6
    | 7, _ => exact PySem.W.mg_of X G ax7
    | 8, _ => exact PySem.W.mg_of X G ax8
    | 9, _ => exact PySem.W.mg_of X G ax9
    | 10, _ => exact PySem.W.mg_of X G ax10
    | 11, _ => exact PySem.W.mg_of X G ax11
    | 12, _ => exact PySem.W.mg_of X G ax12
    | 13, _ => exact PySem.W.mg_of X G ax13
    | 14, _ => exact PySem.W.mg_of X G ax14
    | 15, _ => exact PySem.W.mg_of X G ax15
    | 16, _ => exact PySem.W.mg_of X G ax16
    | 17, _ => exact PySem.W.mg_of X G ax17
    | 18, _ => exact PySem.W.mg_of X G ax18
    | 19, _ => exact PySem.W.mg_of X G ax19
    | (k + 20), hi => exact absurd hi (by omega)
  have hI0 : Isw K (fun i => [x0, x1, x2, x3, x4, x5, x6, x7, x8, x9, x10, x11, x12, x13, x14, x15, x16, x17, x18, x19].getD i 0) x0 0 := ⟨by decide, fun i hi => by
    match i, hi with
    | 0, _ => exact if_pos (beq_self_eq_true _)
    | 1, _ => exact kit_own kn0_1 ki1 ky1 ks0_1
    | 2, _ => exact kit_own kn0_2 ki2 ky2 ks0_2
    | 3, _ => exact kit_own kn0_3 ki3 ky3 ks0_3
    | 4, _ => exact kit_own kn0_4 ki4 ky4 ks0_4
    | 5, _ => exact kit_own kn0_5 ki5 ky5 ks0_5
    | 6, _ => exact kit_own kn0_6 ki6 ky6 ks0_6
    | 7, _ => exact kit_own kn0_7 ki7 ky7 ks0_7
    | 8, _ => exact kit_own kn0_8 ki8 ky8 ks0_8
    | 9, _ => exact kit_own kn0_9 ki9 ky9 ks0_9
    | 10, _ => exact kit_own kn0_10 ki10 ky10 ks0_10
    | 11, _ => exact kit_own kn0_11 ki11 ky11 ks0_11
    | 12, _ => exact kit_own kn0_12 ki12 ky12 ks0_12
    | 13, _ => exact kit_own kn0_13 ki13 ky13 ks0_13
    | 14, _ => exact kit_own kn0_14 ki14 ky14 ks0_14
    | 15, _ => exact kit_own kn0_15 ki15 ky15 ks0_15
    | 16, _ => exact kit_own kn0_16 ki16 ky16 ks0_16
    | 17, _ => exact kit_own kn0_17 ki17 ky17 ks0_17
    | 18, _ => exact kit_own kn0_18 ki18 ky18 ks0_18
    | 19, _ => exact kit_own kn0_19 ki19 ky19 ks0_19
    | (k + 20), hi => exact absurd hi (by omega)⟩
  have hI5 : Isw K (fun i => [x0, x1, x2, x3, x4, x5, x6, x7, x8, x9, x10, x11, x12, x13, x14, x15, x16, x17, x18, x19].getD i 0) x5 5 := ⟨by decide, fun i hi => by
    match i, hi with
    | 0, _ => exact kit_own kn5_0 ki0 ky0 ks5_0
    | 1, _ => exact kit_own kn5_1 ki1 ky1 ks5_1
    | 2, _ => exact kit_own kn5_2 ki2 ky2 ks5_2
    | 3, _ => exact kit_own kn5_3 ki3 ky3 ks5_3
    | 4, _ => exact kit_own kn5_4 ki4 ky4 ks5_4
    | 5, _ => exact if_pos (beq_self_eq_true _)
    | 6, _ => exact kit_own kn5_6 ki6 ky6 ks5_6
    | 7, _ => exact kit_own kn5_7 ki7 ky7 ks5_7
    | 8, _ => exact kit_own kn5_8 ki8 ky8 ks5_8
    | 9, _ => exact kit_own kn5_9 ki9 ky9 ks5_9
    | 10, _ => exact kit_own kn5_10 ki10 ky10 ks5_10
    | 11, _ => exact kit_own kn5_11 ki11 ky11 ks5_11
    | 12, _ => exact kit_own kn5_12 ki12 ky12 ks5_12
    | 13, _ => exact kit_own kn5_13 ki13 ky13 ks5_13
    | 14, _ => exact kit_own kn5_14 ki14 ky14 ks5_14
    | 15, _ => exact kit_own kn5_15 ki15 ky15 ks5_15
    | 16, _ => exact kit_own kn5_16 ki16 ky16 ks5_16
    | 17, _ => exact kit_own kn5_17 ki17 ky17 ks5_17
    | 18, _ => exact kit_own kn5_18 ki18 ky18 ks5_18
    | 19, _ => exact kit_own kn5_19 ki19 ky19 ks5_19
    | (k + 20), hi => exact absurd hi (by omega)⟩
  have hI6 : Isw K (fun i => [x0, x1, x2, x3, x4, x5, x6, x7, x8, x9, x10, x11, x12, x13, x14, x15, x16, x17, x18, x19].getD i 0) x6 6 := ⟨by decide, fun i hi => by
    match i, hi with
    | 0, _ => exact kit_own kn6_0 ki0 ky0 ks6_0
    | 1, _ => exact kit_own kn6_1 ki1 ky1 ks6_1
    | 2, _ => exact kit_own kn6_2 ki2 ky2 ks6_2
    | 3, _ => exact kit_own kn6_3 ki3 ky3 ks6_3
    | 4, _ => exact kit_own kn6_4 ki4 ky4 ks6_4
    | 5, _ => exact kit_own kn6_5 ki5 ky5 ks6_5
    | 6, _ => exact if_pos (beq_self_eq_true _)
    | 7, _ => exact kit_own kn6_7 ki7 ky7 ks6_7
    | 8, _ => exact kit_own kn6_8 ki8 ky8 ks6_8
    | 9, _ => exact kit_own kn6_9 ki9 ky9 ks6_9
    | 10, _ => exact kit_own kn6_10 ki10 ky10 ks6_10
    | 11, _ => exact kit_own kn6_11 ki11 ky11 ks6_11
    | 12, _ => exact kit_own kn6_12 ki12 ky12 ks6_12
    | 13, _ => exact kit_own kn6_13 ki13 ky13 ks6_13
    | 14, _ => exact kit_own kn6_14 ki14 ky14 ks6_14
    | 15, _ => exact kit_own kn6_15 ki15 ky15 ks6_15
    | 16, _ => exact kit_own kn6_16 ki16 ky16 ks6_16
    | 17, _ => exact kit_own kn6_17 ki17 ky17 ks6_17
    | 18, _ => exact kit_own kn6_18 ki18 ky18 ks6_18
    | 19, _ => exact kit_own kn6_19 ki19 ky19 ks6_19
    | (k + 20), hi => exact absurd hi (by omega)⟩
  have EC0 : ErrC K mg "InvalidTerm" x0 := ⟨xq0, PySem.W.mg_of X G ax0, xkp0, xs0, ky0⟩
  have EC6 : ErrC K mg "InvalidSize" x6 := ⟨xq6, PySem.W.mg_of X G ax6, xkp6, xs6, ky6⟩
  have hwd : ∀ (D : Addr) (nm : Str), (if D = x0 then some (en 0) else if D = x5 then some (en 5) else if D = x6 then some (en 6) else none) = some nm → ∃ j, Isw K (fun i => [x0, x1, x2, x3, x4, x5, x6, x7, x8, x9, x10, x11, x12, x13, x14, x15, x16, x17, x18, x19].getD i 0) D j ∧ nm = en j := by
    intro D nm z
    by_cases e0 : D = x0
    · rw [if_pos e0] at z
      exact ⟨0, e0 ▸ hI0, (Option.some.inj z).symm⟩
    rw [if_neg e0] at z
    by_cases e5 : D = x5
    · rw [if_pos e5] at z
      exact ⟨5, e5 ▸ hI5, (Option.some.inj z).symm⟩
    rw [if_neg e5] at z
    by_cases e6 : D = x6
    · rw [if_pos e6] at z
      exact ⟨6, e6 ▸ hI6, (Option.some.inj z).symm⟩
    rw [if_neg e6] at z
    cases z
  have ww0 : (if x0 = x0 then some (en 0) else if x0 = x5 then some (en 5) else if x0 = x6 then some (en 6) else none) = some (en 0) := by
    exact if_pos rfl
  have ww5 : (if x5 = x0 then some (en 0) else if x5 = x5 then some (en 5) else if x5 = x6 then some (en 6) else none) = some (en 5) := by
    rw [if_neg (fun z => by rw [z, beq_self_eq_true] at kn5_0; cases kn5_0)]
    exact if_pos rfl
  have ww6 : (if x6 = x0 then some (en 0) else if x6 = x5 then some (en 5) else if x6 = x6 then some (en 6) else none) = some (en 6) := by
    rw [if_neg (fun z => by rw [z, beq_self_eq_true] at kn6_0; cases kn6_0)]
    rw [if_neg (fun z => by rw [z, beq_self_eq_true] at kn6_5; cases kn6_5)]
    exact if_pos rfl
  have xc0 : ExcC K x0 := ⟨xg0, xk0, xs0, xd0, xa0, xn, xt, xm0⟩
  have xe0 : PySem.W.exmOne K (.ref x0) (.ref CT) = some true := PySem.W.exm_ref ye yd yt ys0
  have xc5 : ExcC K x5 := ⟨xg5, xk5, xs5, xd5, xa5, xn, xt, xm5⟩
  have xe5 : PySem.W.exmOne K (.ref x5) (.ref CT) = some true := PySem.W.exm_ref ye yd yt ys5
  have xc6 : ExcC K x6 := ⟨xg6, xk6, xs6, xd6, xa6, xn, xt, xm6⟩
  have xe6 : PySem.W.exmOne K (.ref x6) (.ref CT) = some true := PySem.W.exm_ref ye yd yt ys6
  have hxf : ∀ (D : Addr) (nm : Str), (if D = x0 then some (en 0) else if D = x5 then some (en 5) else if D = x6 then some (en 6) else none) = some nm → XfC K D ∧ PySem.W.findIn K (.ref D) "position" = some none ∧ PySem.W.findIn K (.ref D) "name" = some none ∧ PySem.W.findIn K (.ref D) "size" = some none ∧ PySem.W.findIn K (.ref D) "row" = some none := by
    intro D nm z
    by_cases e0 : D = x0
    · subst e0
      exact ⟨⟨xg0, xk0, xs0, xd0⟩, xf0_position, xf0_name, xf0_size, xf0_row⟩
    rw [if_neg e0] at z
    by_cases e5 : D = x5
    · subst e5
      exact ⟨⟨xg5, xk5, xs5, xd5⟩, xf5_position, xf5_name, xf5_size, xf5_row⟩
    rw [if_neg e5] at z
    by_cases e6 : D = x6
    · subst e6
      exact ⟨⟨xg6, xk6, xs6, xd6⟩, xf6_position, xf6_name, xf6_size, xf6_row⟩
    rw [if_neg e6] at z
    cases z
  have hdom : ∀ (D : Addr) (nm : Str), (if D = x0 then some (en 0) else if D = x5 then some (en 5) else if D = x6 then some (en 6) else none) = some nm → D = x0 ∨ D = x5 ∨ D = x6 := by
    intro D nm z
    by_cases e0 : D = x0
    · exact .inl e0
    rw [if_neg e0] at z
    by_cases e5 : D = x5
    · exact .inr (.inl e5)
    rw [if_neg e5] at z
    by_cases e6 : D = x6
    · exact .inr (.inr (e6))
    rw [if_neg e6] at z
    cases z
  have hne0_5 : x0 ≠ x5 := fun z => by
    rw [z, beq_self_eq_true] at kn0_5
    cases kn0_5
  have hne0_6 : x0 ≠ x6 := fun z => by
    rw [z, beq_self_eq_true] at kn0_6
    cases kn0_6
  have hne5_0 : x5 ≠ x0 := fun z => by
    rw [z, beq_self_eq_true] at kn5_0
    cases kn5_0
  have hne5_6 : x5 ≠ x6 := fun z => by
    rw [z, beq_self_eq_true] at kn5_6
    cases kn5_6
  have hne6_0 : x6 ≠ x0 := fun z => by
    rw [z, beq_self_eq_true] at kn6_0
    cases kn6_0
  have hne6_5 : x6 ≠ x5 := fun z => by
    rw [z, beq_self_eq_true] at kn6_5
    cases kn6_5
  have FL5 : FunS l.prog K mg "TooLarge" "TooLarge.__init__" s_TLInit ["self", "size"] x5 tf5 _ := ⟨⟨_, _, _, _, _, _, _, _, _, _, _, _, _, _, _, _, _, _, _, _, rfl, tl5, tci5, tco5, tcf5, tpf5, tce5⟩, ttop, ⟨⟨_, _, _, _, _, _, _, _, _, _, _, _, _, _, _, tlk5, tre5⟩, tsa5, xs5, ky5, tkp5⟩, tmr5, PySem.W.mg_none_of X G z_super, tany, tks5, tva5, ti5, tt5, Binds.all fun us hl => match us, hl with | [_, _], _ => rfl, PySem.W.mg_of X G ax5⟩
  have MF0 := fun_mk (st := s_PInit) ml0 mc0 mk0
  have mb0 := MF0.binds (ps := ["self"]) fun _ _ _ _ _ _ us hl => match us, hl with | [_], _ => rfl
  have MF1 := fun_mk (st := s_PPair) ml1 mc1 mk1
  have mb1 := MF1.binds (ps := ["self", "left", "right"]) fun _ _ _ _ _ _ us hl => match us, hl with | [_, _, _], _ => rfl
  have MF2 := fun_mk (st := s_PNum) ml2 mc2 mk2
  have mb2 := MF2.binds (ps := ["self", "term"]) fun _ _ _ _ _ _ us hl => match us, hl with | [_, _], _ => rfl
  have T : PoolT K mg Cp := ⟨⟨cpg, chd, cpo, csa⟩, cn0, cn1, cn2, cn3, PySem.W.mg_of X G aC⟩
  have hne_28 : Pt ≠ PA28 := fun z => by
    rw [z] at pne_28
    simp at pne_28
  refine ⟨PySem.W.fnOf "law" "law" (defArgs s_law) (defBody s_law) (defScope s_law) .none kV31 dc31 pm31 an31 (.ref cL) ct31, [(cL, Pt), (cA28, PA28)], spLawTs K [Pt, PA28], ?_, ?_, ?_, fun s v => .of_eq rfl, fun H a ns hl hb hH hS => ⟨a, ns, rfl, hS, ?_, fun _ => rfl⟩, fun base _ _ hTB => ?_⟩
  · intro p hp
    rcases List.mem_cons.mp hp with e | hp
    · rw [e]
      exact tT_L
    rw [List.mem_singleton.mp hp]
    exact tT_28
  · intro p hp
    rcases List.mem_cons.mp hp with e | hp
    · rw [e]
      exact nP
    rw [List.mem_singleton.mp hp]
    exact nP_28
  · intro p hp
    rcases List.mem_cons.mp hp with e | hp
    · rw [e]
      exact PySem.W.codeHd_of_K X (codeHd_mk lC lP11 v18 v7 v9 v10 vne)
    rw [List.mem_singleton.mp hp]
    exact PySem.W.codeHd_of_K X (codeHd_mk lC_28 lP11_28 v18_28 v7_28 v9_28 v10_28 vne_28)
  · intro p hp
    rcases List.mem_cons.mp hp with e | hp
    · rw [e]
      exact hH (cL, Pt) List.mem_cons_self
    rw [List.mem_singleton.mp hp]
    exact hH (cA28, PA28) (List.mem_cons_of_mem _ List.mem_cons_self)
  · exact ok_law (word := (fun D => if D = x0 then some (en 0) else if D = x5 then some (en 5) else if D = x6 then some (en 6) else none)) l31 c31 (hTB (cL, Pt) List.mem_cons_self) (hTB (cA28, PA28) (List.mem_cons_of_mem _ List.mem_cons_self)) hne_28 B ⟨⟨_, PySem.W.mg_of X G q_MAX_SIZE⟩, ⟨_, PySem.W.mg_of X G q_MAX_DEPTH⟩⟩ hwd ww0 ww5 ww6 rfl hxf M xc0 xc5 xc6 xe0 xe5 xe6 EC0 EC6 FL5 xf5_size (PySem.W.mg_of X G aT) l28 c28 ⟨_, PySem.W.mg_of X G q_GENERATOR⟩ (PySem.W.mg_of X G q_MAX_EXPANSION_SIZE) (PySem.W.mg_of X G q_MAX_EXPANSIONS) T ⟨cmk, ma0, mi0, ckc⟩ MF0 mb0 MF1 mb1 ⟨ma1, mi1, mk1⟩ MF2 mb2 ⟨ma2, mi2, mk2⟩ d_expansions d_in_order d__law_draws d__law_draw d__law_pick d__law_same d__law_error_name d__law_error_field d__law_try d__law_comb d__law_term d__law_any_term d__law_size d__law_format d__law_paths d__law_subterm d__law_replace d__law_expanded d__law_contracted d__law_rewrite d__law_steps d__law_invalid_term d__law_expansions d__law_sort_key d_is_pair d_is_term d_check_term d_expanded d_steps_from d_found_expansions d_sizes_inside
theorem walk {l : PySem.W.OpenLaw} {q : Program} {loose : List Str} {XP : (Str → Option Value) → Heap → Prop} {YP : World → Heap → Prop} {d : DefRec} {K : Params → PySem.W.Frag} (hn : l.most = some 63) (hdf : d.params.defaults = [])
    (hY : ∀ (w : World) (h : Heap), YP w h → (K w.params).In h)
    (F : ∀ (w : World) (mg : Str → Option Value) (fa : Addr) (h : Heap), YP w h → (K w.params).In h → h.Ns mainGlobals mg → mg d.name = some (.ref fa) → LamX.LawAtS l w (K w.params) CX0 64 63 "_law_script" mg fa h) :
    PySem.W.WalkO q loose XP YP l.row.toRowW d [] (fun f vs => PySem.call f vs) :=
  LamX.walk_ofTs (n := 63) (k := 64) (x := "_law_script") (CX := fun _ => CX0) hn (by decide) hdf ⟨rfl, by decide, by decide⟩ hY F fun _ _ _ _ _ z => z
end U
open PySem PySem.W PyProof.Rows
set_option maxRecDepth 100000 in
set_option maxHeartbeats 0 in
theorem PySem.Challenge.cw_uponboth_k14_expansion_lists_holds : PySem.Challenge.rw_uponboth_k14_expansion_lists.Holds := by
  w_on; o_law; k_head; (case hw => w_witness2)
  k_fill
  refine U.walk (l := PySem.Challenge.rw_uponboth_k14_expansion_lists) rfl rfl (fun w h Y => PySem.W.km_in_of Y) ?F
  case F =>
    intro w mg fa h Y KX G hmg
    refine' U.all_mk KX G hmg ?a0 ?l0 ?c0 ?k0 ?a1 ?l1 ?c1 ?k1 ?a2 ?l2 ?c2 ?k2 ?a3 ?l3 ?c3 ?k3 ?a4 ?l4 ?c4 ?k4 ?a5 ?l5 ?c5 ?k5 ?a6 ?l6 ?c6 ?k6 ?a7 ?l7 ?c7 ?k7 ?a8 ?l8 ?c8 ?k8 ?a9 ?l9 ?c9 ?k9 ?a10 ?l10 ?c10 ?k10 ?a11 ?l11 ?c11 ?k11 ?a12 ?l12 ?c12 ?k12 ?a13 ?l13 ?c13 ?k13 ?a14 ?l14 ?c14 ?k14 ?a15 ?l15 ?c15 ?k15 ?a16 ?l16 ?c16 ?k16 ?a17 ?l17 ?c17 ?k17 ?a18 ?l18 ?c18 ?k18 ?a19 ?l19 ?c19 ?k19 ?a20 ?l20 ?c20 ?k20 ?a21 ?l21 ?c21 ?k21 ?a22 ?l22 ?c22 ?k22 ?a23 ?l23 ?c23 ?k23 ?a24 ?l24 ?c24 ?k24 ?a25 ?l25 ?c25 ?k25 ?a26 ?l26 ?c26 ?k26 ?a27 ?l27 ?c27 ?k27 ?a28 ?l28 ?c28 ?k28 ?a29 ?l29 ?c29 ?k29 ?hk29 ?a30 ?l30 ?c30 ?k30 ?a31 ?l31 ?c31 ?k31 ?z_len ?z_list ?z_tuple ?z_dict ?z_bool ?z_isinstance ?z_max ?z_min ?z_range ?z_all ?z_sorted ?z_enumerate ?z_sum ?z_str ?z_int ?q_MAX_SIZE ?q_MAX_DEPTH ?q_GENERATOR ?q_MAX_EXPANSION_SIZE ?q_MAX_EXPANSIONS ?lC ?lP11 ?nP ?v18 ?v7 ?v9 ?v10 ?vne ?lC_28 ?lP11_28 ?nP_28 ?v18_28 ?v7_28 ?v9_28 ?v10_28 ?vne_28 ?pne_28 ?aT ?ax0 ?ax1 ?ax2 ?ax3 ?ax4 ?ax5 ?ax6 ?ax7 ?ax8 ?ax9 ?ax10 ?ax11 ?ax12 ?ax13 ?ax14 ?ax15 ?ax16 ?ax17 ?ax18 ?ax19 ?ki0 ?ky0 ?ki1 ?ky1 ?ki2 ?ky2 ?ki3 ?ky3 ?ki4 ?ky4 ?ki5 ?ky5 ?ki6 ?ky6 ?ki7 ?ky7 ?ki8 ?ky8 ?ki9 ?ky9 ?ki10 ?ky10 ?ki11 ?ky11 ?ki12 ?ky12 ?ki13 ?ky13 ?ki14 ?ky14 ?ki15 ?ky15 ?ki16 ?ky16 ?ki17 ?ky17 ?ki18 ?ky18 ?ki19 ?ky19 ?xn ?xt ?ye ?yd ?yt ?kn0_1 ?ks0_1 ?kn0_2 ?ks0_2 ?kn0_3 ?ks0_3 ?kn0_4 ?ks0_4 ?kn0_5 ?ks0_5 ?kn0_6 ?ks0_6 ?kn0_7 ?ks0_7 ?kn0_8 ?ks0_8 ?kn0_9 ?ks0_9 ?kn0_10 ?ks0_10 ?kn0_11 ?ks0_11 ?kn0_12 ?ks0_12 ?kn0_13 ?ks0_13 ?kn0_14 ?ks0_14 ?kn0_15 ?ks0_15 ?kn0_16 ?ks0_16 ?kn0_17 ?ks0_17 ?kn0_18 ?ks0_18 ?kn0_19 ?ks0_19 ?xg0 ?xk0 ?xd0 ?xa0 ?xm0 ?ys0 ?kn5_0 ?ks5_0 ?kn5_1 ?ks5_1 ?kn5_2 ?ks5_2 ?kn5_3 ?ks5_3 ?kn5_4 ?ks5_4 ?kn5_6 ?ks5_6 ?kn5_7 ?ks5_7 ?kn5_8 ?ks5_8 ?kn5_9 ?ks5_9 ?kn5_10 ?ks5_10 ?kn5_11 ?ks5_11 ?kn5_12 ?ks5_12 ?kn5_13 ?ks5_13 ?kn5_14 ?ks5_14 ?kn5_15 ?ks5_15 ?kn5_16 ?ks5_16 ?kn5_17 ?ks5_17 ?kn5_18 ?ks5_18 ?kn5_19 ?ks5_19 ?xg5 ?xk5 ?xd5 ?xa5 ?xm5 ?ys5 ?kn6_0 ?ks6_0 ?kn6_1 ?ks6_1 ?kn6_2 ?ks6_2 ?kn6_3 ?ks6_3 ?kn6_4 ?ks6_4 ?kn6_5 ?ks6_5 ?kn6_7 ?ks6_7 ?kn6_8 ?ks6_8 ?kn6_9 ?ks6_9 ?kn6_10 ?ks6_10 ?kn6_11 ?ks6_11 ?kn6_12 ?ks6_12 ?kn6_13 ?ks6_13 ?kn6_14 ?ks6_14 ?kn6_15 ?ks6_15 ?kn6_16 ?ks6_16 ?kn6_17 ?ks6_17 ?kn6_18 ?ks6_18 ?kn6_19 ?ks6_19 ?xg6 ?xk6 ?xd6 ?xa6 ?xm6 ?ys6 ?xs0 ?xs5 ?xs6 ?xq0 ?xkp0 ?xq6 ?xkp6 ?xf0_position ?xf0_name ?xf0_size ?xf0_row ?xf5_position ?xf5_name ?xf5_size ?xf5_row ?xf6_position ?xf6_name ?xf6_size ?xf6_row ?z_super ?tany ?ttop ?ti5 ?tt5 ?tl5 ?tci5 ?tco5 ?tcf5 ?tpf5 ?tce5 ?tlk5 ?tre5 ?tsa5 ?tkp5 ?tmr5 ?tks5 ?tva5 ?aC ?ma0 ?mi0 ?ml0 ?mc0 ?mk0 ?ma1 ?mi1 ?ml1 ?mc1 ?mk1 ?ma2 ?mi2 ?ml2 ?mc2 ?mk2 ?cpg ?chd ?cpo ?csa ?cmk ?ckc ?cn0 ?cn1 ?cn2 ?cn3 ?tT_L ?tT_28
    (case a0 => k_is)
    (case l0 => k_is)
    (case c0 => k_is)
    (case k0 => k_is)
    (case a1 => k_is)
    (case l1 => k_is)
    (case c1 => k_is)
    (case k1 => k_is)
    (case a2 => k_is)
    (case l2 => k_is)
    (case c2 => k_is)
    (case k2 => k_is)
    (case a3 => k_is)
    (case l3 => k_is)
    (case c3 => k_is)
    (case k3 => k_is)
    (case a4 => k_is)
    (case l4 => k_is)
    (case c4 => k_is)
    (case k4 => k_is)
    (case a5 => k_is)
    (case l5 => k_is)
    (case c5 => k_is)
    (case k5 => k_is)
    (case a6 => k_is)
    (case l6 => k_is)
    (case c6 => k_is)
    (case k6 => k_is)
    (case a7 => k_is)
    (case l7 => k_is)
    (case c7 => k_is)
    (case k7 => k_is)
    (case a8 => k_is)
    (case l8 => k_is)
    (case c8 => k_is)
    (case k8 => k_is)
    (case a9 => k_is)
    (case l9 => k_is)
    (case c9 => k_is)
    (case k9 => k_is)
    (case a10 => k_is)
    (case l10 => k_is)
    (case c10 => k_is)
    (case k10 => k_is)
    (case a11 => k_is)
    (case l11 => k_is)
    (case c11 => k_is)
    (case k11 => k_is)
    (case a12 => k_is)
    (case l12 => k_is)
    (case c12 => k_is)
    (case k12 => k_is)
    (case a13 => k_is)
    (case l13 => k_is)
    (case c13 => k_is)
    (case k13 => k_is)
    (case a14 => k_is)
    (case l14 => k_is)
    (case c14 => k_is)
    (case k14 => k_is)
    (case a15 => k_is)
    (case l15 => k_is)
    (case c15 => k_is)
    (case k15 => k_is)
    (case a16 => k_is)
    (case l16 => k_is)
    (case c16 => k_is)
    (case k16 => k_is)
    (case a17 => k_is)
    (case l17 => k_is)
    (case c17 => k_is)
    (case k17 => k_is)
    (case a18 => k_is)
    (case l18 => k_is)
    (case c18 => k_is)
    (case k18 => k_is)
    (case a19 => k_is)
    (case l19 => k_is)
    (case c19 => k_is)
    (case k19 => k_is)
    (case a20 => k_is)
    (case l20 => k_is)
    (case c20 => k_is)
    (case k20 => k_is)
    (case a21 => k_is)
    (case l21 => k_is)
    (case c21 => k_is)
    (case k21 => k_is)
    (case a22 => k_is)
    (case l22 => k_is)
    (case c22 => k_is)
    (case k22 => k_is)
    (case a23 => k_is)
    (case l23 => k_is)
    (case c23 => k_is)
    (case k23 => k_is)
    (case a24 => k_is)
    (case l24 => k_is)
    (case c24 => k_is)
    (case k24 => k_is)
    (case a25 => k_is)
    (case l25 => k_is)
    (case c25 => k_is)
    (case k25 => k_is)
    (case a26 => k_is)
    (case l26 => k_is)
    (case c26 => k_is)
    (case k26 => k_is)
    (case a27 => k_is)
    (case l27 => k_is)
    (case c27 => k_is)
    (case k27 => k_is)
    (case a28 => k_is)
    (case l28 => k_is)
    (case c28 => k_is)
    (case k28 => k_is)
    (case a29 => k_is)
    (case l29 => k_is)
    (case c29 => k_is)
    (case k29 => k_is)
    (case hk29 => k_is)
    (case a30 => k_is)
    (case l30 => k_is)
    (case c30 => k_is)
    (case k30 => k_is)
    (case a31 => k_is)
    (case l31 => k_is)
    (case c31 => k_is)
    (case k31 => k_is)
    (case z_len => k_is)
    (case z_list => k_is)
    (case z_tuple => k_is)
    (case z_dict => k_is)
    (case z_bool => k_is)
    (case z_isinstance => k_is)
    (case z_max => k_is)
    (case z_min => k_is)
    (case z_range => k_is)
    (case z_all => k_is)
    (case z_sorted => k_is)
    (case z_enumerate => k_is)
    (case z_sum => k_is)
    (case z_str => k_is)
    (case z_int => k_is)
    (case q_MAX_SIZE => k_is)
    (case q_MAX_DEPTH => k_is)
    (case q_GENERATOR => k_is)
    (case q_MAX_EXPANSION_SIZE => k_is)
    (case q_MAX_EXPANSIONS => k_is)
    (case lC => k_is)
    (case lP11 => rfl)
    (case nP => (first | rfl | with_unfolding_all rfl | decide +revert))
    (case v18 => rfl)
    (case v7 => rfl)
    (case v9 => rfl)
    (case v10 => rfl)
    (case vne => rfl)
    (case lC_28 => k_is)
    (case lP11_28 => rfl)
    (case nP_28 => (first | rfl | with_unfolding_all rfl | decide +revert))
    (case v18_28 => rfl)
    (case v7_28 => rfl)
    (case v9_28 => rfl)
    (case v10_28 => rfl)
    (case vne_28 => rfl)
    (case pne_28 => rfl)
    (case aT => k_is)
    (case ax0 => k_is)
    (case ax1 => k_is)
    (case ax2 => k_is)
    (case ax3 => k_is)
    (case ax4 => k_is)
    (case ax5 => k_is)
    (case ax6 => k_is)
    (case ax7 => k_is)
    (case ax8 => k_is)
    (case ax9 => k_is)
    (case ax10 => k_is)
    (case ax11 => k_is)
    (case ax12 => k_is)
    (case ax13 => k_is)
    (case ax14 => k_is)
    (case ax15 => k_is)
    (case ax16 => k_is)
    (case ax17 => k_is)
    (case ax18 => k_is)
    (case ax19 => k_is)
    (case ki0 => k_is)
    (case ky0 => k_is)
    (case ki1 => k_is)
    (case ky1 => k_is)
    (case ki2 => k_is)
    (case ky2 => k_is)
    (case ki3 => k_is)
    (case ky3 => k_is)
    (case ki4 => k_is)
    (case ky4 => k_is)
    (case ki5 => k_is)
    (case ky5 => k_is)
    (case ki6 => k_is)
    (case ky6 => k_is)
    (case ki7 => k_is)
    (case ky7 => k_is)
    (case ki8 => k_is)
    (case ky8 => k_is)
    (case ki9 => k_is)
    (case ky9 => k_is)
    (case ki10 => k_is)
    (case ky10 => k_is)
    (case ki11 => k_is)
    (case ky11 => k_is)
    (case ki12 => k_is)
    (case ky12 => k_is)
    (case ki13 => k_is)
    (case ky13 => k_is)
    (case ki14 => k_is)
    (case ky14 => k_is)
    (case ki15 => k_is)
    (case ky15 => k_is)
    (case ki16 => k_is)
    (case ky16 => k_is)
    (case ki17 => k_is)
    (case ky17 => k_is)
    (case ki18 => k_is)
    (case ky18 => k_is)
    (case ki19 => k_is)
    (case ky19 => k_is)
    (case xn => k_is)
    (case xt => k_is)
    (case ye => k_is)
    (case yd => k_is)
    (case yt => k_is)
    (case kn0_1 => rfl)
    (case ks0_1 => k_is)
    (case kn0_2 => rfl)
    (case ks0_2 => k_is)
    (case kn0_3 => rfl)
    (case ks0_3 => k_is)
    (case kn0_4 => rfl)
    (case ks0_4 => k_is)
    (case kn0_5 => rfl)
    (case ks0_5 => k_is)
    (case kn0_6 => rfl)
    (case ks0_6 => k_is)
    (case kn0_7 => rfl)
    (case ks0_7 => k_is)
    (case kn0_8 => rfl)
    (case ks0_8 => k_is)
    (case kn0_9 => rfl)
    (case ks0_9 => k_is)
    (case kn0_10 => rfl)
    (case ks0_10 => k_is)
    (case kn0_11 => rfl)
    (case ks0_11 => k_is)
    (case kn0_12 => rfl)
    (case ks0_12 => k_is)
    (case kn0_13 => rfl)
    (case ks0_13 => k_is)
    (case kn0_14 => rfl)
    (case ks0_14 => k_is)
    (case kn0_15 => rfl)
    (case ks0_15 => k_is)
    (case kn0_16 => rfl)
    (case ks0_16 => k_is)
    (case kn0_17 => rfl)
    (case ks0_17 => k_is)
    (case kn0_18 => rfl)
    (case ks0_18 => k_is)
    (case kn0_19 => rfl)
    (case ks0_19 => k_is)
    (case xg0 => k_is)
    (case xk0 => k_is)
    (case xd0 => k_is)
    (case xa0 => k_is)
    (case xm0 => k_is)
    (case ys0 => k_is)
    (case kn5_0 => rfl)
    (case ks5_0 => k_is)
    (case kn5_1 => rfl)
    (case ks5_1 => k_is)
    (case kn5_2 => rfl)
    (case ks5_2 => k_is)
    (case kn5_3 => rfl)
    (case ks5_3 => k_is)
    (case kn5_4 => rfl)
    (case ks5_4 => k_is)
    (case kn5_6 => rfl)
    (case ks5_6 => k_is)
    (case kn5_7 => rfl)
    (case ks5_7 => k_is)
    (case kn5_8 => rfl)
    (case ks5_8 => k_is)
    (case kn5_9 => rfl)
    (case ks5_9 => k_is)
    (case kn5_10 => rfl)
    (case ks5_10 => k_is)
    (case kn5_11 => rfl)
    (case ks5_11 => k_is)
    (case kn5_12 => rfl)
    (case ks5_12 => k_is)
    (case kn5_13 => rfl)
    (case ks5_13 => k_is)
    (case kn5_14 => rfl)
    (case ks5_14 => k_is)
    (case kn5_15 => rfl)
    (case ks5_15 => k_is)
    (case kn5_16 => rfl)
    (case ks5_16 => k_is)
    (case kn5_17 => rfl)
    (case ks5_17 => k_is)
    (case kn5_18 => rfl)
    (case ks5_18 => k_is)
    (case kn5_19 => rfl)
    (case ks5_19 => k_is)
    (case xg5 => k_is)
    (case xk5 => k_is)
    (case xd5 => k_is)
    (case xa5 => k_is)
    (case xm5 => k_is)
    (case ys5 => k_is)
    (case kn6_0 => rfl)
    (case ks6_0 => k_is)
    (case kn6_1 => rfl)
    (case ks6_1 => k_is)
    (case kn6_2 => rfl)
    (case ks6_2 => k_is)
    (case kn6_3 => rfl)
    (case ks6_3 => k_is)
    (case kn6_4 => rfl)
    (case ks6_4 => k_is)
    (case kn6_5 => rfl)
    (case ks6_5 => k_is)
    (case kn6_7 => rfl)
    (case ks6_7 => k_is)
    (case kn6_8 => rfl)
    (case ks6_8 => k_is)
    (case kn6_9 => rfl)
    (case ks6_9 => k_is)
    (case kn6_10 => rfl)
    (case ks6_10 => k_is)
    (case kn6_11 => rfl)
    (case ks6_11 => k_is)
    (case kn6_12 => rfl)
    (case ks6_12 => k_is)
    (case kn6_13 => rfl)
    (case ks6_13 => k_is)
    (case kn6_14 => rfl)
    (case ks6_14 => k_is)
    (case kn6_15 => rfl)
    (case ks6_15 => k_is)
    (case kn6_16 => rfl)
    (case ks6_16 => k_is)
    (case kn6_17 => rfl)
    (case ks6_17 => k_is)
    (case kn6_18 => rfl)
    (case ks6_18 => k_is)
    (case kn6_19 => rfl)
    (case ks6_19 => k_is)
    (case xg6 => k_is)
    (case xk6 => k_is)
    (case xd6 => k_is)
    (case xa6 => k_is)
    (case xm6 => k_is)
    (case ys6 => k_is)
    (case xs0 => k_is)
    (case xs5 => k_is)
    (case xs6 => k_is)
    (case xq0 => k_exc)
    (case xkp0 => k_is)
    (case xq6 => k_exc)
    (case xkp6 => k_is)
    (case xf0_position => k_is)
    (case xf0_name => k_is)
    (case xf0_size => k_is)
    (case xf0_row => k_is)
    (case xf5_position => k_is)
    (case xf5_name => k_is)
    (case xf5_size => k_is)
    (case xf5_row => k_is)
    (case xf6_position => k_is)
    (case xf6_name => k_is)
    (case xf6_size => k_is)
    (case xf6_row => k_is)
    (case z_super => k_is)
    (case tany => k_is)
    (case ttop => (first | rfl | decide +kernel))
    (case ti5 => k_is)
    (case tt5 => k_is)
    (case tl5 => k_is)
    (case tci5 => k_is)
    (case tco5 => k_is)
    (case tcf5 => rfl)
    (case tpf5 => (first | rfl | decide +kernel))
    (case tce5 => k_is)
    (case tlk5 => k_is)
    (case tre5 => rfl)
    (case tsa5 => k_is)
    (case tkp5 => k_is)
    (case tmr5 => k_is)
    (case tks5 => ks_is)
    (case tva5 => k_is)
    (case aC => k_is)
    (case ma0 => k_is)
    (case mi0 => k_is)
    (case ml0 => k_is)
    (case mc0 => k_is)
    (case mk0 => k_is)
    (case ma1 => k_is)
    (case mi1 => k_is)
    (case ml1 => k_is)
    (case mc1 => k_is)
    (case mk1 => k_is)
    (case ma2 => k_is)
    (case mi2 => k_is)
    (case ml2 => k_is)
    (case mc2 => k_is)
    (case mk2 => k_is)
    (case cpg => k_is)
    (case chd => k_is)
    (case cpo => k_is)
    (case csa => k_is)
    (case cmk => k_is)
    (case ckc => k_is)
    (case cn0 => k_is)
    (case cn1 => k_is)
    (case cn2 => k_is)
    (case cn3 => k_is)
    (case tT_L => exact PySem.W.km_tabs_of Y _ (by decide))
    (case tT_28 => exact PySem.W.km_tabs_of Y _ (by decide))
