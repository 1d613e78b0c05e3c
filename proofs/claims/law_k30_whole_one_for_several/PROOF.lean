import PyProof.Rows.All
import Wide.All
import OpenK.AllK
import Wide.FinOn
import HandS.ForMost
import HandS.Walk
import KE.GoesMore
import KE.GoesEnum
import HandS.SetFor
import HandS.Strs
import HandS.ExcOwn
import HandS.CallLocal
import KE.DataCmp
import HandS.OwnEq
import PyProof.InstNe
import PyProof.Rows.SortShellAny
import HandS.SetTxt0
import HandS.IsInst
import HandS.Wide
import HandS.Conv
import HandS.Evl
import HandS.Star
import HandS.Defaults
import OpenK.KEqL
import HandS.DictComp
import HandS.More
import HandS.TupLe
import HandS.Zip
import HandS.Style
import PySem.Challenge.RW_linklines_k30_whole_one_for_several
set_option Elab.async false
set_option linter.all false
set_option maxRecDepth 100000
set_option maxHeartbeats 4000000
/-! enumerate over a tuple. -/
namespace PySem
namespace E40
set_option maxHeartbeats 4000000 in
theorem enumNewT (q : Addr) (vals : Array Value) :
    Meets (Builtin.«enumerate.__new__» ⟨[.type "enumerate", .ref q], []⟩) (fun _ R z => z.heap.IsTuple q vals ∧
      R (.ok (.ret (.ref (z.heap.push { cls := .type "tuple_iterator", data := .fields #[.ref q, .int 0 0] }).objs.size)))
        { z with heap := (z.heap.push { cls := .type "tuple_iterator", data := .fields #[.ref q, .int 0 0] }).push { cls := .type "enumerate", data := .fields #[.none, .bool false, .ref z.heap.objs.size, rawInt 0, .none, .none] } }) :=
  .of_wp fun prog w A R z hz => by
    obtain ⟨hp, g, d, tk, os⟩ := z; obtain ⟨htup, hend⟩ := hz
    have subE := sub_enumerate
    have step : ∀ {A1 : Around} {E1 : Value → Shared → Prop} {Q1 : Value → Shared → Prop}, Q1 (.ref hp.objs.size) ⟨hp.push { cls := .type "tuple_iterator", data := .fields #[.ref q, .int 0 0] }, g, d, tk, os⟩ → wpAny (model prog w) A1 (pyIter (.ref q)) Q1 E1 ⟨hp, g, d, tk, os⟩ :=
      fun k => (begins_tuple q vals).iter prog w _ _ ⟨hp, g, d, tk, os⟩ _ htup k
    wp_walk using step
    refine wpAny_stack_any fun st => wpAny_pure ?_
    split
    · rename_i cc _ _ _ _ _
      cases (cc == Value.type "enumerate")
      · wp_walk using step
        exact ⟨_, rfl, hend⟩
      · wp_walk using step
        exact ⟨_, rfl, hend⟩
    · wp_walk using step
      exact ⟨_, rfl, hend⟩
section
variable {prog : Program} {w : World} {A : Around} {E : Value → Shared → Prop} {z : Shared}
theorem callEnumT {q : Addr} {vals : Array Value} {Q : Value → Shared → Prop} (hq : z.heap.IsTuple q vals)
    (k : ∀ g, IsEnum g (z.heap.objs.size + 1) z.heap.objs.size 0 .none → g.IsTupleIter z.heap.objs.size q 0 →
      (∀ b o, z.heap.get? b = some o → g.get? b = some o) → Q (.ref (z.heap.objs.size + 1)) { z with heap := g }) :
    wpAny (model prog w) A (call (.type "enumerate") [.ref q]) Q E z := by
  refine callType_new F.called_enumerate (by decide) (F.typeCall_enumerate_1 _) (F.newCall_enumerate_1 _) (fun ob => F.args_object_init_2 ob _) F.entry_enumerate_new (enumNewT q vals) ⟨hq, ?_⟩
  have sz : (z.heap.push { cls := .type "tuple_iterator", data := .fields #[.ref q, .int 0 0] }).objs.size = z.heap.objs.size + 1 := Heap.size_push ..
  show _ ∧ _
  rw [sz]
  have en : IsEnum ((z.heap.push { cls := .type "tuple_iterator", data := .fields #[.ref q, .int 0 0] }).push
      { cls := .type "enumerate", data := .fields #[.none, .bool false, .ref z.heap.objs.size, rawInt 0, .none, .none] }) (z.heap.objs.size + 1) z.heap.objs.size 0 .none := by
    have y := Heap.get?_push_size (z.heap.push { cls := .type "tuple_iterator", data := .fields #[.ref q, .int 0 0] })
      (o := { cls := .type "enumerate", data := .fields #[.none, .bool false, .ref z.heap.objs.size, rawInt 0, .none, .none] }) rfl
    rw [sz] at y
    exact y
  refine ⟨⟨_, en, rfl⟩, k _ en ⟨_, Heap.get?_push_of_some _ (Heap.get?_push_size _ rfl), rfl, rfl⟩ fun b o x => Heap.get?_push_of_some _ (Heap.get?_push_of_some _ x)⟩
end
end E40
end PySem
namespace L2
open PySem PySem.Spec PyProof.Rows
/-- enumerate of the tuple at a -/
def IteT (K : PySem.W.Frag) (a : Addr) : It :=
  ⟨fun i H => ∃ (ys : List V) (y : V), SqT K H a ys ∧ ys[i]? = some y,
    fun i H v H' => ∃ T y, v = .ref T ∧ H T = none ∧ H' = upd H T (.tup [.int (i : Nat), y]) ∧ ∀ ys, SqT K H a ys → ys[i]? = some y,
    fun i H => ∃ ys : List V, SqT K H a ys ∧ ys.length = i⟩
theorem turnEnumT {P : Program} {w : World} {K : PySem.W.Frag} {elts : List Expr} {kk : Nat} {tpos : Pos} (a e it : Addr) (ai : a ≠ it) (ae : e ≠ a) :
    Turn P w K (.Tuple elts kk tpos) (IteT K a) [e, it] e (fun i h => (∃ old, IsEnum h e it ((i : Nat) : Int) old) ∧ h.IsTupleIter it a i ∧ e ≠ it) where
  mem := List.mem_cons_self
  obj := fun i h st b hb => by
    obtain ⟨⟨old, en⟩, ⟨o, ho, hc, hd⟩, _⟩ := st
    rcases List.mem_cons.mp hb with q | q
    · subst q
      exact ⟨_, en, fun v y => nomatch y⟩
    · obtain rfl := List.mem_singleton.mp q
      exact ⟨o, ho, fun v y => by rw [hd] at y; cases y⟩
  keep := fun i h g st k => by
    obtain ⟨⟨old, en⟩, ti, ne⟩ := st
    exact ⟨⟨old, k e List.mem_cons_self _ en⟩, ti.at fun o y => k it (List.mem_cons_of_mem _ List.mem_cons_self) o y, ne⟩
  item := by
    intro X eP ew eK hc i pins s σ H E I hf st hg
    subst eP ew eK
    obtain ⟨⟨old, en⟩, ti, ne⟩ := st
    obtain ⟨ys, y, hq, hy⟩ := hg
    obtain ⟨vals, rv, p, hz⟩ := I.tuple hq
    have hcalm : X.A.in1.handled = none := by
      have q := I.ok.hd hc
      simpa using q
    have D := Draws.tuple (prog := X.prog) (w := X.w) hcalm it a ai vals.toArray
    have hi : i < vals.toArray.size := by
      have l1 := rv.length
      have l2 := (List.getElem?_eq_some_iff.mp hy).1
      simp
      omega
    have eL : e < s.heap.objs.size := Heap.lt_size en
    have iL : it < s.heap.objs.size := by
      obtain ⟨_, q, _⟩ := ti
      exact Heap.lt_size q
    have nef : e ∉ [it, a] := by
      simp only [List.mem_cons, List.not_mem_nil, or_false, not_or]
      exact ⟨ne, ae⟩
    refine wpAny_pyNext_enum_itemD D en ⟨ti, p⟩ hi ne nef fun x g tk hx out stn hT hsz hk => ?_
    have ru : RelV y x := by
      obtain ⟨u, hu, ru⟩ := rv.get hy
      have q : some u = some x := by
        rw [← hu, ← hx]
        simp
      cases q
      exact ru
    refine ⟨_, rfl, wpAny_letOwnedTupleGo_enum (s := { s with heap := g, toks := tk + 1 }) out fun g2 en2 sb => ?_⟩
    have hT2 : g2.get? s.heap.objs.size = some { cls := .type "tuple", data := .seq #[.int i tk, x] } := (sb.2 _ (Nat.ne_of_gt eL)).trans hT
    have new : ObjOk X.prog X.w (upd H s.heap.objs.size (.tup [.int (i : Nat), y])) g2 s.heap.objs.size (.tup [.int (i : Nat), y]) :=
      ⟨by show 2 ≤ sizeLine; decide, [.int i tk, x], .cons ⟨_, rfl⟩ (.cons ru .nil), ⟨_, hT2, rfl, _, rfl⟩⟩
    have I1 : Inv X pins σ (upd H s.heap.objs.size (.tup [.int (i : Nat), y])) { s with heap := g2, toks := tk + 1 } :=
      I.turnedNew (ch := [e, it]) (fun b ob hb q => (sb.2 b (fun z => hb (z ▸ List.mem_cons_self))).trans (hk b ob (fun z => hb (z ▸ List.mem_cons_self)) (fun z => hb (z ▸ List.mem_cons_of_mem _ List.mem_cons_self)) q)) hf (Nat.le_refl _) new
    refine ⟨.ref s.heap.objs.size, _, I1, rfl, ⟨_, y, rfl, I.hok.fresh (Nat.le_refl _), rfl, fun zs hzs => by rw [I.tuple_inj hzs hq]; exact hy⟩, ⟨⟨x, ?_⟩, stn.1.at fun o q => (sb.2 it (Ne.symm ne)).trans q, ne⟩, fun b hb => ?_⟩
    · have e1 : ((i + 1 : Nat) : Int) = (i : Int) + 1 := by omega
      rw [e1]
      exact en2
    · have hb' : b < s.heap.objs.size := by
        rcases List.mem_cons.mp hb with q | q
        · rw [q]; exact eL
        · rw [List.mem_singleton.mp q]; exact iL
      rw [upd_ne (Nat.ne_of_lt hb')]
      exact (hf b hb).1
  done := by
    intro X eP ew eK hc i pins s σ H E I hf st hg
    subst eP ew eK
    obtain ⟨⟨old, en⟩, ti, ne⟩ := st
    obtain ⟨ys, hq, hy⟩ := hg
    obtain ⟨vals, rv, p, hz⟩ := I.tuple hq
    have hcalm : X.A.in1.handled = none := by
      have q := I.ok.hd hc
      simpa using q
    have D := Draws.tuple (prog := X.prog) (w := X.w) hcalm it a ai vals.toArray
    obtain ⟨f0, f1, f2, f3, f4, f5⟩ := hf it (List.mem_cons_of_mem _ List.mem_cons_self)
    have l1 := rv.length
    have ei : i = vals.toArray.size := by
      simp
      omega
    subst ei
    exact wpAny_pyNext_enum_endD D en ⟨ti, p⟩ fun g eb => ⟨rfl, I.turned (t' := s.toks) (fun b o hb q => eb b o hb q) f0 f1 f3 f4 f5⟩
  self := fun A i s Q E st h => by
    obtain ⟨⟨_, en⟩, _⟩ := st
    exact wpAny_pyIter_enum en h
/-- enumerate(e), e a list or a tuple -/
def iEnumA (K : PySem.W.Frag) (ta : TA) : TI := fun σ H R => ta σ H fun vs H1 => ∃ a ys, vs = [.ref a] ∧ (H1 a = some (.lst ys) ∨ H1 a = some (.tup ys)) ∧ ∀ J, ((H1 a = some (.lst ys) ∧ J = Ite K a) ∨ (H1 a = some (.tup ys) ∧ J = IteT K a)) → R J H1
theorem pi_enumA {X : Cx} {e : Expr} {ta : TA} {p pos tpos : Pos} {elts : List Expr} {kk : Nat} (hg : Gl X "enumerate") (hm : X.mg "enumerate" = none) (ha : PA X [e] ta) (hs : starEach [e] X.env = [(false, eval e X.env)] := by rfl) :
    PI X (.Tuple elts kk tpos) (.Call (.Name "enumerate" p) [e] [] pos) (iEnumA X.K ta) := by
  refine ⟨fun pins s σ H R I h => ?_⟩
  refine Call_ (ld_blt I hg hm PyProof.Rows.boot_enumerate (PyProof.Rows.callWith_type1 (thn (ha.run pos pins s σ H _ I h) fun us s1 ⟨vs, H1, I1, r1, q1⟩ => ?_) hs rfl))
  obtain ⟨a, ys, ex, hq, qq⟩ := q1
  subst ex
  cases r1 with
  | cons r rr =>
    cases rr
    cases r
    have fr : ∀ b ∈ [s1.heap.objs.size + 1, s1.heap.objs.size], FpOk X pins H1 b := fun b hb => by
      have le : s1.heap.objs.size ≤ b := by
        rcases List.mem_cons.mp hb with z | z
        · omega
        · have := List.mem_singleton.mp z
          omega
      exact I1.fpOk le (I1.hok.fresh le)
    rcases hq with hq | hq
    · obtain ⟨vals, rv, p', hz⟩ := I1.list (.of hq)
      refine call_enumerate_list p'.isList fun g en li hsz hk => wpAny_pyIter_enum en ?_
      have I2 : Inv X pins σ H1 { s1 with heap := g } := I1.kept (t' := s1.toks) hk
      exact ⟨_, [s1.heap.objs.size + 1, s1.heap.objs.size], _, _, H1, rfl, I2, turn_enum a (s1.heap.objs.size + 1) s1.heap.objs.size, ⟨⟨.none, en⟩, li, Nat.succ_ne_self _⟩, fr, qq _ (.inl ⟨hq, rfl⟩)⟩
    · obtain ⟨vals, rv, p', hz⟩ := I1.tuple (.of hq)
      have aL : a < s1.heap.objs.size := p'.lt
      refine PySem.E40.callEnumT (show s1.heap.IsTuple a vals.toArray from p') fun g en ti hk => wpAny_pyIter_enum en ?_
      have I2 : Inv X pins σ H1 { s1 with heap := g } := I1.kept (t' := s1.toks) hk
      exact ⟨_, [s1.heap.objs.size + 1, s1.heap.objs.size], _, _, H1, rfl, I2, turnEnumT a (s1.heap.objs.size + 1) s1.heap.objs.size (Nat.ne_of_lt aL) (Nat.ne_of_gt (Nat.lt_succ_of_lt aL)), ⟨⟨.none, en⟩, ti, Nat.succ_ne_self _⟩, fr, qq _ (.inr ⟨hq, rfl⟩)⟩
theorem walk_enumT {K : PySem.W.Frag} {a : Addr} {ys : List V} : Walk (IteT K a) ys.length (fun H => SqT K H a ys) (YPair (fun i => some (.int (i : Nat))) (fun i => ys[i]?)) := by
  refine ⟨fun i _ hi q => ⟨ys, ys[i], q, by simp [hi]⟩, fun _ q => ⟨ys, q, rfl⟩, fun i H v H' _ q y => ?_⟩
  obtain ⟨T, x, h1, h2, h3, h4⟩ := y
  exact ⟨T, .int (i : Nat), x, h1, h2, h3, rfl, h4 ys q⟩
end L2
set_option Elab.async false
set_option linter.all false
set_option maxRecDepth 100000
set_option maxHeartbeats 4000000
namespace L2
open PySem PySem.Spec PyProof.Rows
/-! ### lists of isI by > -/
def lexGt : List Int → List Int → Bool
  | [], _ => false
  | _ :: _, [] => true
  | x :: xs, y :: ys => if x = y then lexGt xs ys else decide (y < x)
theorem firstGt : ∀ ns ms : List Int, SeqAt.firstLt (fun j => decide (ns.getD j 0 = ms.getD j 0)) (fun j => decide (ms.getD j 0 < ns.getD j 0)) (decide (ns.length > ms.length)) (List.range (min ns.length ms.length)) = lexGt ns ms
  | [], ms => by
    have e : min ([] : List Int).length ms.length = 0 := by simp
    rw [e]
    show decide (([] : List Int).length > ms.length) = false
    simp
  | x :: xs, [] => by
    show decide ((x :: xs).length > ([] : List Int).length) = true
    simp
  | x :: xs, y :: ys => by
    have e : min (x :: xs).length (y :: ys).length = min xs.length ys.length + 1 := by
      simp only [List.length_cons]
      omega
    rw [e, List.range_succ_eq_map]
    by_cases h : x = y
    · rw [SeqAt.firstLt_yes (by simpa using h), PySem.W.firstLt_map]
      have ih := firstGt xs ys
      have e2 : (decide ((x :: xs).length > (y :: ys).length)) = decide (xs.length > ys.length) := by
        simp only [List.length_cons, gt_iff_lt, Nat.add_lt_add_iff_right]
      rw [e2]
      show SeqAt.firstLt (fun j => decide (xs.getD j 0 = ys.getD j 0)) (fun j => decide (ys.getD j 0 < xs.getD j 0)) (decide (xs.length > ys.length)) (List.range (min xs.length ys.length)) = (if x = y then lexGt xs ys else decide (y < x))
      rw [ih, if_pos h]
    · rw [SeqAt.firstLt_no (by simpa using h)]
      show decide (y < x) = (if x = y then lexGt xs ys else decide (y < x))
      rw [if_neg h]
def rGtL (K : PySem.W.Frag) : R2 := fun x y H Q => ∃ (a b : Addr) (ns ms : List Int), x = .ref a ∧ y = .ref b ∧ SqL K H a (ns.map V.int) ∧ SqL K H b (ms.map V.int) ∧ Q (.bl (lexGt ns ms)) H
theorem op_gtL {X : Cx} (hu : X.A.units < cLine) : OpR X (compareOp .Gt) (rGtL X.K) := by
  intro pins s σ H x y v u Q I rx ry h
  obtain ⟨a, b, ns, ms, rfl, rfl, ha, hb, q⟩ := h
  cases rx
  cases ry
  obtain ⟨us1, r1, p1, _⟩ := I.list ha
  obtain ⟨us2, r2, p2, _⟩ := I.list hb
  have i1 : IntsAre us1 ns := Vals.ints r1
  have i2 : IntsAre us2 ms := Vals.ints r2
  have s1 : us1.toArray.size = ns.length := by rw [List.size_toArray]; exact i1.length
  have s2 : us2.toArray.size = ms.length := by rw [List.size_toArray]; exact i2.length
  have g1 : ∀ j (hj : j < us1.toArray.size), ∃ t, us1.toArray[j] = .int (ns.getD j 0) t := fun j hj => PyProof.Rows.IntsAre.int_at i1 _ _ (by simp at hj; simp [hj])
  have g2 : ∀ j (hj : j < us2.toArray.size), ∃ t, us2.toArray[j] = .int (ms.getD j 0) t := fun j hj => PyProof.Rows.IntsAre.int_at i2 _ _ (by simp at hj; simp [hj])
  have RR := SeqAt.RcOp.lists_gt (A := X.A) (s := s) (e := fun j => decide (ns.getD j 0 = ms.getD j 0)) (r := fun j => decide (ms.getD j 0 < ns.getD j 0)) p1.isList p2.isList hu (fun j j1 j2 => by
    obtain ⟨t1, e1⟩ := g1 j j1
    obtain ⟨t2, e2⟩ := g2 j j2
    rw [e1, e2]
    have bd : (ns.getD j 0 == ms.getD j 0) = decide (ns.getD j 0 = ms.getD j 0) := by
      rw [Bool.eq_iff_iff]
      simp
    rw [← bd]
    exact SeqAt.EqAt.int_int _ _ _ _) (fun j j1 j2 _ => by
    obtain ⟨t1, e1⟩ := g1 j j1
    obtain ⟨t2, e2⟩ := g2 j j2
    rw [e1, e2]
    exact fun _ _ _ _ hh => PyProof.Rows.gt_int hh)
  rw [s1, s2, firstGt] at RR
  have go : wpAny (model X.prog X.w) X.A (compareOp .Gt (.ref a) (.ref b)) (EP X pins σ Q) X.xe s := RR X.prog X.w X.xe (EP X pins σ Q) ⟨.bl _, H, I, rfl, q⟩
  exact go
/-! ### a local that holds one of several defs, called where something around takes what it raises -/
structure HeldX (P : Program) (w : World) (K : PySem.W.Frag) (mg : Str → Option Value) (base : Heap) (CX : CXT) (k : Nat) (f : Addr) (sp : Sp) : Prop where
  ex : ∃ (fd : FuncData) (ps : List Str), FnOk P w K mg base CX k f fd ps sp ∧ PySem.W.keepIn K (.ref f) = true ∧ Binds K fd ps []
def tCallAX (i : Nat) (S : Addr → Option Sp) (E : St → XK) (t : TA) : TE := fun σ H Q => ∃ f sp, σ[i]? = some (some (.ref f)) ∧ S f = some sp ∧ t σ H fun vs H1 => sp vs H1 Q (E σ)
theorem pe_callAX {X : Cx} {CX : CXT} {k i : Nat} {E : St → XK} {x : Str} {p pos : Pos} {e : Expr} {es : List Expr} {t : TA} {S : Addr → Option Sp} (A : ∀ f sp, S f = some sp → HeldX X.prog X.w X.K X.mg X.base CX k f sp) (hr : Room k X.A) (hN : X.N[i]? = some x) (hv : Vis X.env.scope x)
    (hx : ∀ σ, PassesAt CX X σ (E σ)) (ha : PA X (e :: es) t)
    (hdb : (x == ("__debug__" : Str)) = false := by decide) (hcd : (x == ("__classdict__" : Str)) = false := by decide)
    (he : starEach (e :: es) X.env = (false, eval e X.env) :: starEach es X.env := by rfl) (hpl : (backTo pos (starEach es X.env)).any (·.1) = false := by rfl) : PE X (.Call (.Name x p) (e :: es) [] pos) (tCallAX i S E t) := by
  refine ⟨fun pins s σ H Q I h => ?_⟩
  obtain ⟨f, sp, hs, hS, ht⟩ := h
  obtain ⟨fd, ps, F, hk, hb⟩ := (A f sp hS).ex
  refine wpAny_Call_Name_kw (thn ((pe_var (pos := p) hN hv hdb hcd).run pins s σ H (fun v H1 => v = .ref f ∧ H1 = H) I ⟨.ref f, hs, rfl, rfl⟩) fun u s1 ⟨v, H1, I1, r1, ev, eH⟩ => ?_)
  subst ev eH
  cases r1
  refine PySem.W.callWith_K (h₀ := X.base) I.ok.mod.kin hk (thn (ha.run pos pins s1 σ _ _ I1 ht) fun us s2 ⟨vs, H2, I2, r, q⟩ => ⟨I2.kIn, run_fnS F hr hb (hx σ) I2 r q⟩) he hpl
end L2
namespace PySem
namespace E40
open PyProof.Rows L2
section
variable {P : Program} {w : World} {A : Around} {E : Value → Shared → Prop} {s : Shared}
abbrev newSet (w : World) : Obj := { cls := .type "set", dict := none, data := .set #[] 0 (.fresh 0 0 (!w.params.followText "set-order")) }
set_option maxRecDepth 100000 in
set_option maxHeartbeats 4000000 in
theorem setOfList {q : Addr} {vals : Array Value} (zs : List Int) {Q : Value → Shared → Prop} (calm : A.handled = none) (isL : s.heap.IsList q vals) (isI : IntsAre vals.toList zs) (few : zs.length + 1 < scanBound)
    (k : ∀ (g : Heap) (tk m : Nat), SetR w g s.heap.objs.size (fun j => decide (j ∈ zs)) m → m ≤ zs.length → (∀ b o, s.heap.get? b = some o → g.get? b = some o) → Q (.ref s.heap.objs.size) { s with heap := g, toks := tk }) :
    wpAny (model P w) A (call (.type "set") [.ref q]) Q E s := by
  have sz : vals.size = zs.length := by
    have y := IntsAre.length isI
    rw [Array.length_toList] at y
    exact y
  obtain ⟨c, tl, hmro⟩ := F.called_set.mro
  have hmade := F.called_set.made
  have hsub := F.called_set.sub
  refine wpAny_call (codeAny_of_tree ?_)
  show wpAny _ _ (callAny (.type "set") _) _ _ _
  refine wpAny_pure ⟨Code.quiet_builtin _ (by decide +kernel), codeAny_builtin F.entry_type_call ?_⟩
  rw [Around.under_plain (weight_type_call_type "set" [.ref q] []) rfl]
  have n1 := F.called_set.notType
  have n2 := F.called_set.canCreate
  have n3 := F.typeCall_set_1 (.ref q)
  repeat (any_goals (first | assumption | wp_step))
  refine codeAny_mono (code_set_led1 (.ref q) (E := E) (Q₁ := fun ob z => ob = .ref s.heap.objs.size ∧ z = { s with heap := s.heap.push (newSet w) }) ⟨rfl, rfl⟩) fun r z hr => ?_
  cases r with
  | error e => exact hr
  | ok fl =>
    cases fl with
    | ret ob =>
      obtain ⟨rfl, rfl⟩ := hr
      have atS : (s.heap.push (newSet w)).get? s.heap.objs.size = some (newSet w) := Heap.get?_push_size _ rfl
      have tyS : Shared.TypeIs { s with heap := s.heap.push (newSet w) } (.ref s.heap.objs.size) "set" := ⟨_, atS, rfl⟩
      have i1 := F.called_set.init.lookup
      have i2 := F.called_set.init.bind (.ref s.heap.objs.size)
      repeat (any_goals (first | assumption | wp_step))
      refine codeAny_mono (codeAny_call_builtin (R := wants (fun r z2 => r = .none ∧ ∃ g tk m, z2 = { s with heap := g, toks := tk } ∧ SetR w g s.heap.objs.size (fun j => decide (j ∈ zs)) m ∧ m ≤ zs.length ∧
          (∀ b o, s.heap.get? b = some o → g.get? b = some o)) E) F.called_set.init.plain F.entry_set_init (check_set_init_1 tyS ?_)) fun r2 z2 hr2 => ?_
      · obtain ⟨⟨oc, od, odt, osl⟩, hol, hcl, nl, hdl⟩ := isL
        simp only at hcl hdl
        subst hcl; subst hdl
        have hol1 : (s.heap.push (newSet w)).get? q = some { cls := .type "list", dict := od, data := .seq vals nl, slots := osl } := Heap.get?_push_of_some _ hol
        have f1 := F.sub_list_set
        have f2 := F.sub_list_frozenset
        have f3 : (Value.type "list" == Value.type "dict") = false := by decide
        have isL1 : (s.heap.push (newSet w)).IsList q vals := ⟨_, hol1, rfl, nl, rfl⟩
        unfold Builtin.«set.__init__» noKeywords Builtin.Frozenset.updateFrom
        generalize hPI : pyIter = PI
        wp_walk
        subst hPI
        refine wpAny_pyIter_list (s := { s with heap := s.heap.push (newSet w) }) isL1 ?_
        refine wpAny_bind (wpAny_runValue ?_)
        have qS : q < s.heap.objs.size := Heap.lt_size hol
        have calm3 : A.in1.in1.in1.handled = none := by simp [calm]
        have z1 : (s.heap.push (newSet w)).objs.size = s.heap.objs.size + 1 := Heap.size_push ..
        have neI : q ≠ (s.heap.push (newSet w)).objs.size := by
          rw [z1]; exact Nat.ne_of_lt (Nat.lt_succ_of_lt qS)
        have notin : s.heap.objs.size ∉ [(s.heap.push (newSet w)).objs.size, q] := by
          rw [z1]; simp only [List.mem_cons, List.not_mem_nil, or_false, not_or]
          exact ⟨Nat.ne_of_lt (Nat.lt_succ_self _), Nat.ne_of_gt qS⟩
        have vv : ∀ (i : Nat) (v : Value), vals[i]? = some v → ∃ k t, zs[i]? = some k ∧ v = .int k t := fun i v hv => by
          have hi : i < zs.length := by rw [← sz]; exact (Array.getElem?_eq_some_iff.mp hv).1
          obtain ⟨t, e⟩ := PyProof.Rows.IntsAre.int_at isI i v (by rw [Array.getElem?_toList]; exact hv)
          refine ⟨zs[i], t, List.getElem?_eq_getElem hi, ?_⟩
          rw [e, List.getD_eq_getElem?_getD, List.getElem?_eq_getElem hi] <;> rfl
        refine set_update_ints ((Walks.list calm3 _ q neI vals).toS) s.heap.objs.size notin zs sz few vv (vals.size - 0) 0 _ (by omega) (Nat.zero_le _)
          ⟨⟨_, Heap.get?_push_size _ rfl, rfl, rfl⟩, (isL1.push _)⟩ ?start ?rest
        case start =>
          refine ⟨0, Nat.le_refl 0, setR_new_at ?_⟩
          exact Heap.get?_push_of_some _ atS
        case rest =>
          intro s9 m9 mv few9 R9
          obtain ⟨g9, gn9, d9, t9, o9⟩ := s9
          have e1 : gn9 = s.gens := mv.gens
          have e2 : d9 = s.drawn := mv.drawn
          have e3 : o9 = s.os := mv.os
          subst e1; subst e2; subst e3
          show wpAny _ _ _ _ _ _
          refine wpAny_pure ?_
          show wpAny _ _ (ret Value.none) _ _ _
          refine wpAny_pure ⟨rfl, g9, t9, m9, rfl, R9, sz ▸ few9, fun b o e => ?_⟩
          have b0 : b < s.heap.objs.size := Heap.lt_size e
          have b2 : b ≠ (s.heap.push (newSet w)).objs.size := by
            rw [z1]; exact Nat.ne_of_lt (Nat.lt_succ_of_lt b0)
          exact mv.heap b o (by simp only [List.mem_cons, List.not_mem_nil, or_false, not_or]; exact ⟨Nat.ne_of_lt b0, b2⟩) (Heap.get?_push_of_some _ (Heap.get?_push_of_some _ e))
      · cases r2 with
        | error e => exact hr2
        | ok fl2 =>
          cases fl2 with
          | ret r =>
            obtain ⟨rfl, g, tk, m, rfl, R9, few9, keep⟩ := hr2
            repeat (any_goals (first | assumption | wp_step))
            exact k _ _ _ R9 few9 keep
          | _ => exact hr2.elim
    | _ => exact hr.elim
end
end E40
end PySem
namespace L2
open PySem PySem.Spec PyProof.Rows
/-- set(xs), xs a list of unlike isI -/
def rSetOfL (K : PySem.W.Frag) (w : World) : List V → Hp → VK → Prop := fun vs H Q => ∃ (a : Addr) (zs : List Int), vs = [V.ref a] ∧ SqL K H a (zs.map V.int) ∧ zs.length ≤ 1000 ∧ ∀ p m, m ≤ zs.length → H p = none → Q (.ref p) (upd H p (SetO w p (fun j => decide (j ∈ zs)) m))
theorem cr_setL {X : Cx} (hc : X.calm = true) : CallR X (.type "set") (rSetOfL X.K X.w) := by
  intro pins s σ H vs us Q I r h
  obtain ⟨a, zs, rfl, hq, hz, q⟩ := h
  rw [Vals.ref1 r]
  obtain ⟨vals, rv, pl, _⟩ := I.list hq
  refine PySem.E40.setOfList zs (I.ok.hd hc) pl.isList (by simpa using Vals.ints rv) (by unfold scanBound; omega) fun g tk m R few keep => ?_
  have hn : H s.heap.objs.size = none := I.hok.fresh (Nat.le_refl _)
  exact ⟨.ref s.heap.objs.size, _, I.laid (t' := tk) keep (Nat.le_refl _) (setO_new R), rfl, q _ m few hn⟩
end L2
set_option Elab.async false
set_option linter.all false
set_option maxRecDepth 100000
set_option maxHeartbeats 4000000
namespace GQ
open PySem PySem.SeqAt
open AutoSeq1 (wpAny_loadPart')
open MeetsSeq MeetsSeq2 MeetsSeq3 SeqRoads2
section
variable {prog : Program} {w : World} {A : Around} {R : Result → Shared → Prop}
theorem ne_loopG (l b : Addr) (N : Nat) (I : Nat → Shared → Prop) (hl : ListI prog w A (fun e s' => R (.error e) s') l b N I)
    (fin : ∀ s, I N s → R (.ok (.ret (.bool false))) s) (k : Nat) :
    ∀ i : Nat, N - i = k → i ≤ N → ∀ s, I i s →
      wpAny (model prog w) A.in1 (Builtin.«list.__eq__.loop» ⟨[.ref l, .ref b, rawInt i, rawInt 3], []⟩) (FinOf prog w A R) (fun e s' => R (.error e) s') s := by
  induction k with
  | zero =>
    intro i hk hi s h
    obtain ⟨items, items2, n, n2, hl1, hb1, hs1, hs2, _⟩ := hl _ _ h
    have hi' : i = N := by omega
    have hR : R (.ok (.ret (.bool false))) s := fin s (hi' ▸ h)
    obtain ⟨hp, g, d, tk, os⟩ := s
    wp_walk using wpAny_loadPart' hl1, wpAny_loadPart' hb1
    have hi1 : items[((i : Nat) : Int).toNat]? = none := by simp; omega
    have hi2 : items2[((i : Nat) : Int).toNat]? = none := by simp; omega
    rw [hi1, hi2]
    wp_walk using wpAny_loadPart' hl1, wpAny_loadPart' hb1
    show R (.ok (.ret (.bool (items.size != items2.size)))) _
    rw [hs1, hs2]
    simpa using hR
  | succ k ih =>
    intro i hk hi s h
    obtain ⟨items, items2, n, n2, hl1, hb1, hs1, hs2, turn⟩ := hl _ _ h
    have hlt : i < items.size := by omega
    have hlt2 : i < items2.size := by omega
    have ht := turn hlt hlt2
    obtain ⟨hp, g, d, tk, os⟩ := s
    wp_walk using wpAny_loadPart' hl1, wpAny_loadPart' hb1
    have hi1 : items[((i : Nat) : Int).toNat]? = some items[i] := by simp [hlt]
    have hi2 : items2[((i : Nat) : Int).toNat]? = some items2[i] := by simp [hlt2]
    have hc : ((i : Int) + 1) = ((i + 1 : Nat) : Int) := by omega
    rw [hi1, hi2]
    refine wpAny_bind (wpAny_mono ht (fun r s2 h2 => ?_) fun _ _ x => x)
    obtain ⟨hr, h2⟩ := h2
    subst hr
    have hrec := ih (i + 1) (by omega) (by omega) s2 h2
    obtain ⟨hp2, g2, d2, tk2, os2⟩ := s2
    wp_walk
    rw [hc]
    exact ⟨plainId_quiet plain_eq_loop _, codeAny_builtin entry_eq_loop (by
      rw [Around.under_plainId plain_eq_loop _]
      exact hrec)⟩
theorem list_neG (l b : Addr) (N : Nat) (I : Nat → Shared → Prop) (hl : ListI prog w A (fun e s' => R (.error e) s') l b N I)
    (fin : ∀ s, I N s → R (.ok (.ret (.bool false))) s) {s : Shared} (h : I 0 s) :
    wpAny (model prog w) A.in1 (Builtin.«list.__ne__» ⟨[.ref l, .ref b], []⟩) (FinOf prog w A R) (fun e s' => R (.error e) s') s := by
  obtain ⟨items, items2, n, n2, hl1, hb1, hs1, hs2, _⟩ := hl _ _ h
  have hrec := ne_loopG (A := A) (R := R) l b N I hl fin _ 0 rfl (Nat.zero_le _) s h
  obtain ⟨hp, g, d, tk, os⟩ := s
  have f3 := AutoSeq1.sub_list_list
  have hne : ¬ (items.size != items2.size) = true := by simp [hs1, hs2]
  wp_walk using wpAny_loadPart' hl1, wpAny_loadPart' hb1
  exact ⟨plainId_quiet plain_eq_loop _, codeAny_builtin entry_eq_loop (by
    rw [Around.under_plainId plain_eq_loop _]
    exact hrec)⟩
end
section
variable {prog : Program} {w : World} {A : Around} {E : Value → Shared → Prop} {s : Shared}
theorem rcn_listG {l b : Addr} {N : Nat} {Q : Value → Shared → Prop} (hu : A.units < cLine) (I : Nat → Shared → Prop) (hl : ListI prog w A E l b N I)
    (fin : ∀ s, I N s → Q (.bool false) s) (h : I 0 s) : wpAny (model prog w) A (richCompare .NotEq (.ref l) (.ref b)) Q E s := by
  obtain ⟨items, items2, n, n2, hl1, hb1, _, _, _⟩ := hl _ _ h
  refine wpAny_richCompare_same_room (op := .NotEq) ⟨_, hl1, rfl⟩ ⟨_, hb1, rfl⟩ F.slot_list_ne (call_here F.slot_list_ne ⟨_, hl1, rfl⟩ F.entry_list_ne (F.args_list_ne_2 _ _) ?_) hu
  exact list_neG (R := wants (fun v s' => v ≠ .notImplemented ∧ Q v s') E) l b N I hl (fun s' q => ⟨(fun x => nomatch x), fin s' q⟩) h
end
end GQ
namespace L2
open PySem PySem.Spec PyProof.Rows PySem.W
/-- what != by a class's own == asks of the text -/
structure NeCls (K : Frag) (C f : Addr) : Prop where
  eq : findIn K (.ref C) "__eq__" = some (some (.ref f))
  ne : findIn K (.ref C) "__ne__" = some (some (.builtin "object.__ne__"))
  fn : isFn K (.ref f) = true
  top : mroIn K C (.type "object") = some true
theorem ne_K {prog : Program} {w : World} {A : Around} {E : Value → Shared → Prop} {s : Shared} {K : Frag} {x y C f : Addr} {ox oy : Obj} {od od' : Option Obj} {Q : Value → Shared → Prop}
    (hu : A.units + 1 < cLine) (X : K.In s.heap) (I : InstAt s.heap x ox C od) (I' : InstAt s.heap y oy C od') (c : NeCls K C f)
    (h : wpAny (model prog w) A.in1 (call (.ref f) [.ref x, .ref y]) (fun v s' => ∃ b, v = .bool b ∧ Q (.bool (!b)) s') E s) : wpAny (model prog w) A (richCompare .NotEq (.ref x) (.ref y)) Q E s := by
  have S := PySem.F.cmp_object.ne
  have body : ∀ {P : Fin → Shared → Prop}, (∀ b s', Q (.bool (!b)) s' → P (.done (.ret (.bool (!b)))) s') → wpAny (model prog w) A.in1 (Builtin.«object.__ne__» ⟨[.ref x, .ref y], []⟩) P E s := by
    intro P hP
    have hu1 : A.in1.units < cLine := hu
    unfold Builtin.«object.__ne__»
    repeat (first
      | with_reducible refine wpAny_cRoomFor hu1 ?_
      | (refine wpAny_bind (m := callSpecialIfBound? (.ref x) (Str.ofString "__eq__") [.ref y])
          (ifBound_K X I c.eq c.fn (wpAny_mono h (fun r s' hr => by
            obtain ⟨b, rfl, hq⟩ := hr
            have hp := hP b s' hq
            repeat (first | exact hp | exact wpAny_pure hp | exact wpAny_truthy_bool hp | (refine wpAny_bind (m := truthy (.bool _)) (wpAny_truthy_bool ?_)) | wp_step)) fun _ _ e => e)))
      | wp_step)
  have one : wpAny (model prog w) A (tryCompare (.ref x) "__ne__" (.ref y)) (fun r s' => ∃ v, r = some v ∧ Q v s') E s := by
    unfold tryCompare
    have cs : wpAny (model prog w) A (callSpecialIfBound? (.ref x) "__ne__" [.ref y]) (fun r s' => ∃ b, r = some (.bool b) ∧ Q (.bool b) s') E s := by
      simp only [callSpecialIfBound?, bindSpecialIfBound?]
      refine wpAny_holding (wpAny_bind (wpAny_bind (wpAny_bind (I.type.here ((looks_findIn X c.ne).here ?_)))))
      simp only [S.bind]
      refine wpAny_bind (wpAny_askSetting (wpAny_ite ?_))
      have ca : wpAny (model prog w) A (call (.builtin "object.__ne__") [.ref x, .ref y]) (fun v s' => ∃ b, v = .bool b ∧ Q (.bool b) s') E s :=
        wpAny_call (codeAny_call_builtin S.plain F.cmpEntry_ne (check_slot F.cmpKind_ne F.cmpSplit_ne (I.type.andThen (looks_subIn (t := .ref C) X c.top)) (F.cmpArgs_ne _ _) (body fun b s' q => ⟨!b, rfl, q⟩)))
      have fin : wpAny (model prog w) A (call (.builtin "object.__ne__") ([.ref x] ++ [.ref y]) >>= fun v => pure (some v)) (fun r s' => ∃ b, r = some (.bool b) ∧ Q (.bool b) s') E s :=
        wpAny_bind (wpAny_mono ca (fun v s' h' => wpAny_pure (let ⟨b, e, q⟩ := h'; ⟨b, by rw [e], q⟩)) fun _ _ h' => h')
      split
      · first | exact wpAny_bind (wpAny_pure (by exact fin)) | exact wpAny_bind (wpAny_bind (wpAny_pure (wpAny_pure (by exact fin)))) | exact wpAny_bind (wpAny_pure (wpAny_pure (by exact fin)))
      · first | exact wpAny_tryCatch (wpAny_bind (wpAny_pure (wpAny_pure (by exact fin)))) | exact wpAny_tryCatch (wpAny_pure (by exact fin)) | exact wpAny_bind (wpAny_tryCatch (wpAny_bind (wpAny_pure (wpAny_pure (by exact fin)))))
    refine wpAny_bind (wpAny_mono cs (fun r s' hr => ?_) fun _ _ e => e)
    obtain ⟨b, rfl, q⟩ := hr
    exact wpAny_pure ⟨_, rfl, q⟩
  unfold richCompare
  simp only [oneThing_ref]
  refine wpAny_holding (wpAny_bind (wpAny_cRoomFor (Nat.lt_of_succ_lt hu) ?_))
  refine wpAny_bind (I.type.here (wpAny_bind (I'.type.here ?_)))
  rw [show (Value.ref C != Value.ref C) = false from by simp]
  simp only [Bool.false_eq_true, if_false]
  refine wpAny_bind (wpAny_pure ?_)
  simp only [Bool.false_eq_true, if_false]
  refine wpAny_bind (wpAny_mono one (fun r s' z => ?_) fun _ _ e => e)
  obtain ⟨v, rfl, hq⟩ := z
  exact wpAny_pure hq
end L2
set_option Elab.async false
set_option linter.all false
set_option maxRecDepth 100000
set_option maxHeartbeats 4000000
namespace PySem
namespace E30
open PyProof.Rows L2
section
variable {prog : Program} {w : World} {A : Around} {E : Value → Shared → Prop} {s : Shared}
/-- sorted(x), where x gathers to texts -/
theorem sortedBy {x : Value} {Q : Value → Shared → Prop}
    (col : wpAny (model prog w) A.in1 (collect x) (fun vs s1 => ∃ ss, StrsAre vs ss ∧ vs.length ≤ sizeLine ∧ ∀ (out : Array Value) (ss' : List Str), StrsAre out.toList ss' → ss'.Perm ss → sortedS ss' = true →
      Q (.ref s1.heap.objs.size) { s1 with heap := sortedHeap (s1.heap.push (seqObj "list" vs.toArray 0)) s1.heap.objs.size vs out }) E s) :
    wpAny (model prog w) A (call (.builtin "sorted") [x]) Q E s := by
  refine Calls.call_function_entry kind_sorted plain_sorted entry_sorted (args_sorted1 _) ?_
  unfold Builtin.«sorted»
  refine wpAny_bind (m := checkCount "sorted" 1 1 _) (wpAny_pure ?_)
  refine wpAny_bind (wpAny_mono col (fun vs s1 h => ?_) fun _ _ e => e)
  obtain ⟨ss, hS, hL, k⟩ := h
  refine wpAny_bind (wpAny_newList ?_ hL)
  have hoL : (s1.heap.push (seqObj "list" vs.toArray 0)).get? s1.heap.objs.size = some (seqObj "list" vs.toArray 0) := Heap.get?_push_size _ rfl
  refine wpAny_bind (wpAny_holding (wpAny_call_entry slot_list_sort ⟨_, hoL, rfl⟩ entry_list_sort (list_sort_treeKAny strKind_oneLt hoL hS.keysOf (fun v1 v2 rest e => keyKind_strs (by rw [← e]; exact hS)) hL fun st' hp hs => ⟨_, rfl, ?_⟩) (args_list_sort _)))
  obtain ⟨ss', a1, a2, a3⟩ := sorted_out_str hS hp hs
  exact wpAny_pure ⟨_, rfl, k _ ss' a1 a2 a3⟩
/-- a tuple's items, gathered -/
theorem collectT {l : Addr} {vs : List Value} {Q : List Value → Shared → Prop} (hl : s.heap.IsTuple l vs.toArray) (hsz : vs.length ≤ sizeLine)
    (h : Q vs { s with heap := (s.heap.push (seqObj "list" #[] 0)).update s.heap.objs.size (Obj.mapSeq (· ++ vs.toArray)) }) :
    wpAny (model prog w) A (collect (.ref l)) Q E s := by
  obtain ⟨o, ho, hc, n, hd⟩ := id hl
  have tt : (Value.type "tuple" == Value.type "tuple") = true := by rfl
  have old : (s.heap.push (seqObj "list" #[] 0)).get? l = some o := Heap.get?_push_of_some _ ho
  unfold collect
  refine wpAny_bind (wpAny_runValue (codeAny_builtin entry_proto_collect' ?_))
  show wpAny _ _ (do again (.builtin "list.__iadd__" ⟨[← newList [], .ref l], []⟩)) _ _ s
  refine wpAny_bind (wpAny_newList (wpAny_pure ⟨Code.quiet_builtin _ (by decide +kernel), codeAny_builtin entry_list_iadd' ?_⟩))
  show wpAny _ _ (Builtin.List.listExtendWith (.ref s.heap.objs.size) (.ref l) (.ref s.heap.objs.size)) _ _ { s with heap := s.heap.push (seqObj "list" #[] 0) }
  unfold Builtin.List.listExtendWith
  refine wpAny_bind (wpAny_typeOf (T := "tuple") ⟨o, old, hc⟩ ?_)
  rw [if_pos (by rw [tt]; simp)]
  refine wpAny_bind (listItems_at old hd ?_)
  refine wpAny_bind (listItems_at (xs := #[]) (n := 0) (Heap.get?_push_size _ rfl) rfl ?_)
  rw [if_neg (by simp)]
  refine wpAny_bind (listUpdate_at (xs := #[]) (n := 0) (Heap.get?_push_size _ rfl) rfl ?_ (Nat.zero_le _) (by show (#[] ++ vs.toArray).size ≤ sizeLine + 1; simp only [Array.size_append, List.size_toArray, List.length_nil]; omega))
  refine wpAny_pure ?_
  show wpAny (model prog w) A (do
      let o ← load s.heap.objs.size
      match o.data with
      | .seq xs _ => pure xs.toList
      | _ => unsupported "internal:collect") Q E { s with heap := (s.heap.push (seqObj "list" #[] 0)).update s.heap.objs.size (Obj.mapSeq (· ++ vs.toArray)) }
  refine wpAny_bind (wpAny_load (get?_update_seq (Heap.get?_push_size _ rfl) _) ?_)
  show wpAny _ _ (pure ((#[] : Array Value) ++ vs.toArray).toList) Q E _
  rw [show ((#[] : Array Value) ++ vs.toArray).toList = vs by simp]
  exact wpAny_pure h
end
end E30
end PySem
namespace L2
open PySem PySem.Spec PyProof.Rows
/-- sorted of a tuple of texts -/
def rSortedST (K : PySem.W.Frag) : List V → Hp → VK → Prop := fun vs H Q => ∃ (a : Addr) (xs : List Str), vs = [V.ref a] ∧ SqT K H a (xs.map V.str) ∧ xs.length ≤ 1000 ∧
  ∀ (ys : List Str) (p : Addr), ys.Perm xs → sortedS ys = true → H p = none → Q (.ref p) (upd H p (.lst (ys.map V.str)))
theorem cr_sortedST {X : Cx} : CallR X (.builtin "sorted") (rSortedST X.K) := by
  intro pins s σ H vs us Q I r h
  obtain ⟨a, xs, rfl, hs, h1, q⟩ := h
  obtain ⟨its, rv, hl, _⟩ := I.tuple hs
  rw [Vals.ref1 r]
  have l0 := rv.length
  rw [List.length_map] at l0
  have lz : its.length ≤ sizeLine := by rw [← l0]; exact Nat.le_of_lt (small1000 h1)
  refine PySem.E30.sortedBy (PySem.E30.collectT hl lz ⟨xs, rv.strs, lz, fun out ss' a1 a2 a3 => ?_⟩)
  obtain ⟨ep, he'⟩ := PyProof.Rows.sortedAll_at s.heap its out
  have hlen : (ss'.map V.str).length ≤ sizeLine := by rw [List.length_map, a2.length_eq]; exact Nat.le_of_lt (small1000 h1)
  have hsz : ((s.heap.push (seqObj "list" #[] 0)).update s.heap.objs.size (Obj.mapSeq (· ++ its.toArray))).objs.size = s.heap.objs.size + 1 := by
    rw [Heap.size_update, size_push']
  show EP X pins σ Q (.ref ((s.heap.push (seqObj "list" #[] 0)).update s.heap.objs.size (Obj.mapSeq (· ++ its.toArray))).objs.size) _
  rw [hsz]
  exact ⟨.ref _, upd H (s.heap.objs.size + 1) (.lst (ss'.map V.str)), I.laid (t' := s.toks) (fun _ _ => PyProof.Rows.sortedAll_old) (Nat.le_succ _) ⟨hlen, out.toList, ep, vals_of_strs a1, he'⟩, rfl, q ss' _ a2 a3 (I.hok.fresh (Nat.le_succ _))⟩
/-- sorted of a list or a tuple of texts -/
theorem cr_sortedSA {X : Cx} : CallR X (.builtin "sorted") (fun vs H Q => rSortedS X.K vs H Q ∨ rSortedST X.K vs H Q) := by
  intro pins s σ H vs us Q I r h
  rcases h with h | h
  · exact cr_sortedS pins s σ H vs us Q I r h
  · exact cr_sortedST pins s σ H vs us Q I r h
end L2
set_option Elab.async false
set_option linter.all false
set_option maxRecDepth 100000
set_option maxHeartbeats 4000000
namespace L2
open PySem PySem.Spec PyProof.Rows
/-- d.update(e), two dicts -/
def rDUpd : V → List V → Hp → VK → Prop := fun x vs H Q => ∃ (a b : Addr) (kvs more : List (Key × V)), x = .ref a ∧ vs = [.ref b] ∧ a ≠ b ∧ H a = some (.dK kvs) ∧ H b = some (.dK more) ∧ kvs.length + more.length ≤ sizeLine ∧ Q .non (upd H a (.dK (mergeK kvs more)))
theorem mt_dupd {X : Cx} : MtR X "dict.update" rDUpd := by
  intro pins s σ H x vs v us Q I rx rv h
  obtain ⟨a, b, kvs, more, rfl, rfl, ne, ha, hb, hz, q⟩ := h
  cases rx
  obtain ⟨u, rfl, ru⟩ := rv.one
  cases ru
  obtain ⟨z1, d1, v1, r1, t1⟩ := dk_of I.hok ha
  obtain ⟨z2, d2, v2, r2, t2⟩ := dk_of I.hok hb
  refine call_meetsIn PySem.F.slot_dict_update t1.typeIs PySem.F.entry_dict_update (PySem.F.args_dict_update_2 _ _) (meets_dict_update (mixKind X.prog X.w) a b ne d2)
    ⟨v1, v2, t1, t2, by rw [← r1.length, ← r2.length]; exact hz, fun h' t1' _ hs => ?_⟩
  have he : ∃ o, h'.get? a = some o := let ⟨o, _, _, e, _⟩ := t1'; ⟨o, e⟩
  have hl : (mergeK kvs more).length ≤ sizeLine := Nat.le_trans (length_mergeK more kvs) hz
  exact ⟨.non, _, d_write (t' := s.toks) I (by rw [ha]; exact True.intro) hs he (dk_new hl d1 (r2.merge r1) t1'), rfl, q⟩
/-- a dict comprehension over it: Pv by the turn and the heap (the new dict at D within) -/
theorem dc_it {J : It} {n : Nat} {G : Hp → Prop} {Y : Nat → Hp → V → Hp → Prop} (w : Walk J n G Y) {g : TG} {tt : TT} {tk tv : TE} {vs : List Nat} {σ : L2.St} {H1 : Hp} {D : Addr} {Qd : Hp → Prop} (Pv : Nat → Hp → Prop) (h0 : Pv 0 (upd H1 D (.dK []))) (hG : ∀ i H, i ≤ n → Pv i H → G H)
    (hs : ∀ i x H H', i < n → Pv i H → Y i H x H' → g x (wipe σ vs) H' fun σ2 H2 => wipe σ2 vs = wipe σ vs ∧ tt σ2 H2 fun b H3 =>
      if b = true then tk σ2 H3 fun y H4 => tv σ2 H4 fun z H5 => ∃ kvs k, y = kV k ∧ H5 D = some (.dK kvs) ∧ kvs.length < sizeLine ∧ Pv (i + 1) (upd H5 D (.dK (putK kvs k z))) else Pv (i + 1) H3) (hd : ∀ H, Pv n H → Qd H) :
    ∃ W : Nat → Nat → Hp → Prop, (∃ m, W 0 m (upd H1 D (.dK []))) ∧ ∀ i m H, W i m H →
      (J.stop i H ∧ Qd H) ∨ (J.go i H ∧ ∃ Nx : Hp → Prop, (∀ H', Nx H' → ∃ m', m' < m ∧ W (i + 1) m' H') ∧ ∀ x H', J.yld i H x H' → g x (wipe σ vs) H' fun σ2 H2 => wipe σ2 vs = wipe σ vs ∧ tt σ2 H2 fun b H3 =>
        if b = true then tk σ2 H3 fun y H4 => tv σ2 H4 fun z H5 => ∃ kvs k, y = kV k ∧ H5 D = some (.dK kvs) ∧ kvs.length < sizeLine ∧ Nx (upd H5 D (.dK (putK kvs k z))) else Nx H3) := by
  refine ⟨fun i m H => m = n - i ∧ i ≤ n ∧ Pv i H, ⟨n, by simp, Nat.zero_le _, h0⟩, ?_⟩
  rintro i m H ⟨rfl, hi, p⟩
  by_cases hlt : i < n
  · exact .inr ⟨w.goes i H hlt (hG i H hi p), Pv (i + 1), fun H' p' => ⟨n - (i + 1), by omega, rfl, hlt, p'⟩, fun x H' y => hs i x H H' hlt p (w.yields i H x H' hlt (hG i H hi p) y)⟩
  · have e : i = n := by omega
    subst e
    exact .inl ⟨w.stops H (hG _ H hi p), hd H p⟩
end L2
set_option Elab.async false
set_option linter.all false
set_option maxRecDepth 100000
set_option maxHeartbeats 4000000
namespace L2
open PySem PySem.Spec PyProof.Rows PySem.W
section
variable {X : Cx} {n : Nat} {D : Eqv}
/-- != gives False for what D says, and only makes objects -/
def rNeF (D : Eqv) : R2 := fun x y H Q => D x y H ∧ ∀ H', Ext H H' → Q (.bl false) H'
/-- two lists of things that are equal -/
theorem op_neLs (hD : Mon D) (h : EqG X n D) (hr : Room (n + 1) X.A) : OpR X (compareOp .NotEq) (rNeF (DList D)) := by
  intro pins s σ H x y v u Q I rx ry hq
  obtain ⟨⟨a, b, xs, ys, rfl, rfl, ha, hb, p⟩, q⟩ := hq
  cases rx
  cases ry
  have sb : Sub X (n + 1) X.A := ⟨hr, rfl⟩
  show wpAny (model X.prog X.w) X.A (richCompare .NotEq (.ref a) (.ref b)) (EP X pins σ Q) X.xe s
  refine GQ.rcn_listG (N := xs.length) sb.room.units0 (fun _ s' => LoopI X pins σ H s') (fun i s' l => ?_) (fun s' l => ?_) ⟨H, I, Ext.rfl'⟩
  · obtain ⟨H1, I1, e1⟩ := id l
    obtain ⟨_, its, k, r, e⟩ := I1.hok a _ (e1 _ _ ha)
    obtain ⟨_, its2, k2, r2, e2⟩ := I1.hok b _ (e1 _ _ hb)
    exact ⟨its.toArray, its2.toArray, k, k2, e, e2, by rw [List.size_toArray, ← r.length], by rw [List.size_toArray, ← r2.length, ← p.1], fun h1 h2 => turnG hD h sb p r r2 i h1 h2 s' l⟩
  · obtain ⟨H1, I1, e1⟩ := l
    exact ⟨.bl false, H1, I1, rfl, q H1 e1⟩
/-- two instances of a class with its own ==, or two None -/
theorem op_neIns {CX : CXT} {C f : Addr} {fd : FuncData} {ps : List Str} {R : Addr → Addr → Hp → Prop} {E : XK} (F : FnOk X.prog X.w X.K X.mg X.base CX n f fd ps (spEq R)) (c : NeCls X.K C f) (hb : Binds X.K fd ps []) (hx : Passes CX X E) (hr : Room (n + 1) X.A) :
    OpR X (compareOp .NotEq) (fun x y H Q => rNe x y H Q ∨ rNeF (DIns C R) x y H Q) := by
  intro pins s σ H x y v u Q I rx ry hq
  rcases hq with hq | ⟨⟨a, b, dx, dy, fs, gs, rfl, rfl, ha, hb', hR⟩, q⟩
  · exact op_ne pins s σ H x y v u Q I rx ry hq
  cases rx
  cases ry
  have sb : Sub X n X.A.in1 := ⟨hr.in1, rfl⟩
  obtain ⟨mA, J, _⟩ := ins_get I.hok ha
  obtain ⟨mB, J', _⟩ := ins_get I.hok hb'
  obtain ⟨od, J, _⟩ := J.look
  obtain ⟨od', J', _⟩ := J'.look
  have hu : X.A.units + 1 < cLine := by
    have := hr.units
    omega
  show wpAny (model X.prog X.w) X.A (richCompare .NotEq (.ref a) (.ref b)) (EP X pins σ Q) X.xe s
  refine ne_K hu I.kIn J J' c ?_
  have hsp : spEq R [.ref a, .ref b] H (fun v H' => v = .bl true ∧ Ext H H') E := ⟨a, b, rfl, hR, fun H' e => ⟨rfl, e⟩⟩
  have e0 : Env0 X.prog X.w X.K X.mg X.base X.A.in1 X.stack s H := by
    have e := I.env0
    exact ⟨e.frames, e.mod, e.bs, e.bsz, e.funs, e.frf, e.hok, e.bare⟩
  have hl := F.len _ _ _ _ hsp
  have r2 : Vals [V.ref a, V.ref b] [Value.ref a, Value.ref b] := .cons rfl (.cons rfl .nil)
  refine wpAny_call (codeAny_mono (F.run X.A.in1 X.stack s H ⟨[.ref a, .ref b], []⟩ [.ref a, .ref b] [.ref a, .ref b] _ E sb.room e0 (by
    have := hb s [.ref a, .ref b] I.kIn (by simpa using hl)
    simpa using this) r2 hsp) fun r s' hq => ?_)
  cases r with
  | error e => exact hx pins σ H s e s' I hq
  | ok fl =>
    cases fl with
    | ret w =>
      obtain ⟨z, H', I', rz, ez, ex⟩ := I.after hq
      subst ez
      cases rz
      exact ⟨true, rfl, .bl false, H', I', rfl, q H' ex⟩
    | next => exact False.elim hq
    | brk => exact False.elim hq
    | cont => exact False.elim hq
end
end L2
set_option Elab.async false
set_option linter.all false
set_option maxRecDepth 100000
set_option maxHeartbeats 4000000
namespace PySem
namespace E30
open PyProof.Rows L2 PySem.Froz
/-- the text of an entry -/
def txtOf (e : Int × Value) : Str := match e.2 with | .str k _ => k | _ => Str.empty
/-- a set's payload holds the unlike texts l -/
structure TxK (w : World) (D : SD) (l : List Str) : Prop where
  good : ∀ e ∈ D.1.toList, ∃ k u, e = (hashStr w k, Value.str k u)
  keys : (D.1.toList.map txtOf).Perm l
  nd : l.Nodup
  fit : D.2.2.fits D.1.size = true
  ris : Ris D.2.2.place.toList
  led : w.params.followText "set-order" = true ∨ D.2.2.led = true
theorem TxK.size {w : World} {D : SD} {l : List Str} (F : TxK w D l) : D.1.size = l.length := by
  rw [← F.keys.length_eq, List.length_map, Array.length_toList]
theorem TxK.ok {P : Program} {w : World} {D : SD} {l : List Str} (F : TxK w D l) : TxOk P w D l where
  el := fun e he => by
    obtain ⟨k, u, rfl⟩ := F.good e he
    exact ⟨⟨k, is_str k u, rfl⟩, rfl⟩
  mem := fun k => by
    rw [← F.keys.mem_iff, List.mem_map]
    constructor
    · rintro ⟨e, he, rfl⟩
      obtain ⟨k, u, rfl⟩ := F.good e he
      exact ⟨_, he, is_str k u⟩
    · rintro ⟨e, he, q⟩
      obtain ⟨k', u, rfl⟩ := F.good e he
      exact ⟨_, he, (strKind P w).inj (.str k' u) k' k (is_str k' u) q⟩
  sz := F.size
  fit := F.fit
theorem TxK.layAll {w : World} {es es2 : Array (Int × Value)} {ep ep2 : Nat} {t t2 : SetTable} {l : List Str} (F : TxK w (es, ep, t) l) (p : List.Perm es2.toList es.toList) (f : t2.fits es2.size = true) (r : Ris t2.place.toList) (d : t2.led = t.led) : TxK w (es2, ep2, t2) l where
  good := fun e he => F.good e (p.mem_iff.mp he)
  keys := (p.map txtOf).trans F.keys
  nd := F.nd
  fit := f
  ris := r
  led := F.led.imp id fun z => by rw [show t2.led = t.led from d]; exact z
theorem TxK.more {w : World} {es es2 : Array (Int × Value)} {ep ep2 : Nat} {t t2 : SetTable} {l : List Str} {k : Str} {u : Tok} (F : TxK w (es, ep, t) l) (nk : k ∉ l) (p : List.Perm es2.toList (es.push (hashStr w k, .str k u)).toList) (f : t2.fits es2.size = true) (r : Ris t2.place.toList) (d : t2.led = t.led) : TxK w (es2, ep2, t2) (k :: l) := by
  rw [Array.toList_push] at p
  have pc : es2.toList.Perm ((hashStr w k, Value.str k u) :: es.toList) := p.trans (List.perm_append_singleton _ _)
  refine ⟨fun e he => ?_, (pc.map txtOf).trans (F.keys.cons k), List.nodup_cons.mpr ⟨nk, F.nd⟩, f, r, F.led.imp id fun z => by rw [show t2.led = t.led from d]; exact z⟩
  rcases List.mem_cons.mp (pc.mem_iff.mp he) with z | z
  · exact ⟨k, u, z⟩
  · exact F.good e z
theorem TxK.add {w : World} {D : SD} {l : List Str} {k : Str} (u : Tok) (F : TxK w D l) (nk : k ∉ l) : TxK w (addTx (hashStr w k) (.str k u) D) (k :: l) := by
  obtain ⟨es, ep, t⟩ := D
  have p1 := layNew_perm t es (hashStr w k) (.str k u)
  have f1 := layNew_fits t es (hashStr w k) (.str k u)
  have r1 := layNew_ris t es (hashStr w k) (.str k u) F.ris
  have d1 := layNew_led t es (hashStr w k) (.str k u)
  show TxK w (tailTx ep (layNew t es (hashStr w k) (.str k u)).1 (if (layNew t es (hashStr w k) (.str k u)).2.1.plain = true then { (layNew t es (hashStr w k) (.str k u)).2.1 with plain := false } else (layNew t es (hashStr w k) (.str k u)).2.1) (layNew t es (hashStr w k) (.str k u)).2.2.1) (k :: l)
  generalize layNew t es (hashStr w k) (.str k u) = Z at p1 f1 r1 d1 ⊢
  obtain ⟨es1, t1, wd, gv⟩ := Z
  dsimp only at p1 f1 r1 d1 ⊢
  have G : TxK w (es1, ep + 1, (if t1.plain = true then { t1 with plain := false } else t1)) (k :: l) := by
    by_cases c : t1.plain = true
    · rw [if_pos c]
      exact F.more nk p1 (SetTable.fits_plain_off f1) r1 d1
    · rw [if_neg c]
      exact F.more nk p1 f1 r1 d1
  generalize (if t1.plain = true then { t1 with plain := false } else t1) = t2 at G ⊢
  unfold tailTx
  split
  · exact G.layAll (relayAll_perm t2 es1 _) (relayAll_fits t2 es1 _) (relayAll_ris t2 es1 _) (relayAll_led t2 es1 _)
  · exact G
section
variable {P : Program} {w : World} {A : Around} {E : Value → Shared → Prop} {s : Shared}
/-- a text that stands there already -/
theorem add_old {a : Addr} {T : String} {D : SD} {l : List Str} {k : Str} {u : Tok} {Q : Bool → Shared → Prop} (at0 : s.heap.get? a = some (sObj T D)) (F : TxOk P w D l) (there : k ∈ l) (few : l.length < scanBound)
    (q : Q false s) : wpAny (model P w) A (setAddHashed a (.str k u) (hashStr w k)) Q E s := by
  obtain ⟨es, ep, t⟩ := D
  have dat : (sObj T (es, ep, t)).data = .set es ep t := rfl
  have ft : t.fits es.size = true := F.fit
  have els : ElemsOf (strKind P w) es.toList := F.el
  have many : es.size = l.length := F.sz
  have low : es.size < scanBound := by omega
  have isk : (strKind P w).is k (.str k u) = true := is_str k u
  unfold setAddHashed setAddHashedIn
  refine wpAny_holding (wpAny_bind (wpAny_setState_of at0 dat ft ?_))
  dsimp only
  rw [byScan_of rfl low els]
  simp only [↓reduceIte]
  unfold setAddByScan
  refine wpAny_bind ?_
  refine wpAny_bind (wpAny_rule ?_)
  refine wpAny_bind (wpAny_setScan_of (knd := strKind P w) (k := k) isk at0 dat ft els ?_)
  cases fi : List.findIdx? (fun e => (strKind P w).is k e.2) es.toList with
  | some j =>
    dsimp only
    exact wpAny_pure (wpAny_pure q)
  | none =>
    obtain ⟨e, he, z⟩ := (F.mem k).mp there
    have no := List.findIdx?_eq_none_iff.mp fi e he
    rw [z] at no
    cases no
/-- set.update over texts -/
theorem upTexts {I : Addr} {fp wr : List Addr} {G : Array GenState → Array GenState → Prop} {n : Nat} {Pv : Nat → Value → Prop} {St : Nat → Shared → Prop} {R : Result → Shared → Prop}
    (W : WalksS P w A.in1 I fp wr G n Pv St) (S : Addr) (off : S ∉ fp) (xs : List Str) (len : n = xs.length) (few : xs.length + 1 < scanBound) (got : ∀ i v, Pv i v → ∃ k t, xs[i]? = some k ∧ v = .str k t) :
    ∀ (k i : Nat) (s : Shared), n - i = k → i ≤ n → St i s → (∃ D l, s.heap.get? S = some (sObj "set" D) ∧ TxK w D l ∧ l.length ≤ i ∧ ∀ x, x ∈ l ↔ x ∈ xs.take i) →
      (∀ s' D l, Moved (S :: wr) G s s' → s'.heap.get? S = some (sObj "set" D) → TxK w D l → l.length ≤ n → (∀ x, x ∈ l ↔ x ∈ xs) → R (.ok (.ret .none)) s') →
      codeAny (model P w) A (.builtin "set.update.loop" ⟨[.ref S, .ref I], []⟩) R s := by
  have notW : S ∉ wr := fun h => off (W.sub _ h)
  have inS : ∀ b ∈ wr, b ∈ S :: wr := fun b hb => List.mem_cons_of_mem _ hb
  intro k
  induction k with
  | zero =>
    intro i s ek il st ⟨D, l, eS, X, ll, mem⟩ done
    have ein : i = n := by omega
    subst ein
    refine codeAny_builtin F.entry_set_update_loop ?_
    rw [Around.under_plainId F.plain_set_update_loop _]
    show wpAny _ A.in1 (pyNext (.ref I) >>= _) _ _ s
    refine wpAny_bind (W.done s _ _ st fun s2 mv => ?_)
    show wpAny _ A.in1 (ret Value.none) _ _ s2
    rw [List.take_of_length_le (Nat.le_of_eq len.symm)] at mem
    exact wpAny_pure (done s2 D l (mv.mono inS) (mv.heap S _ notW eS) X ll mem)
  | succ k ih =>
    intro i s ek il st ⟨D, l, eS, X, ll, mem⟩ done
    have lt : i < n := by omega
    refine codeAny_builtin F.entry_set_update_loop ?_
    rw [Around.under_plainId F.plain_set_update_loop _]
    show wpAny _ A.in1 (pyNext (.ref I) >>= _) _ _ s
    refine wpAny_bind (W.item i s _ _ lt st fun v s2 pv st2 mv => ?_)
    obtain ⟨z, t, hz, rfl⟩ := got i v pv
    have eS2 := mv.heap S _ notW eS
    have tk : xs.take (i + 1) = xs.take i ++ [z] := by rw [List.take_add_one, hz]; rfl
    show wpAny _ A.in1 (holding [Value.str z t] (setAdd S (.str z t)) >>= _) _ _ s2
    refine wpAny_bind (wpAny_holding ?_)
    unfold setAdd
    refine wpAny_holding ?_
    refine wpAny_bind ((strKind P w).pyHash (k := z) (strKind_is _ _ _ _) ?_)
    show wpAny _ _ (setAddHashed S (.str z t) (hashStr w z)) _ _ _
    by_cases c : z ∈ l
    · refine add_old (s := { s2 with toks := s2.toks + 1 }) (T := "set") eS2 X.ok c (by omega) ?_
      refine wpAny_pure ⟨plainId_quiet F.plain_set_update_loop _, ih (i + 1) _ (by omega) lt (W.frame _ s2 _ _ st2 (Nat.le_succ _) fun b hb o e => e) ⟨D, l, eS2, X, by omega, fun x => ?_⟩ fun s3 D3 l3 mv3 e3 F3 ll3 mem3 => ?_⟩
      · rw [tk, List.mem_append, List.mem_singleton, mem x]
        constructor
        · exact .inl
        · rintro (h | rfl)
          · exact h
          · exact (mem x).mp c
      · exact done s3 D3 l3 (Moved.trans W.gtrans ((mv.mono inS).then_heap (Nat.le_succ _) fun b o hb e => e) mv3) e3 F3 ll3 mem3
    · refine add_x (s := { s2 with toks := s2.toks + 1 }) (T := "set") eS2 X.ok c (by omega) ?_
      have new : (s2.heap.update S (fun _ => sObj "set" (addTx (hashStr w z) (.str z t) D))).get? S = some (sObj "set" (addTx (hashStr w z) (.str z t) D)) := get_upd _ eS2 rfl
      have old : ∀ b o, b ≠ S → s2.heap.get? b = some o → (s2.heap.update S (fun _ => sObj "set" (addTx (hashStr w z) (.str z t) D))).get? b = some o := fun b o hb e => (Heap.get?_update_other _ _ (Ne.symm hb)).trans e
      refine wpAny_pure ⟨plainId_quiet F.plain_set_update_loop _, ih (i + 1) _ (by omega) lt (W.frame _ s2 _ _ st2 (Nat.le_succ _) fun b hb o e => old b o (fun h => off (h ▸ hb)) e) ⟨_, z :: l, new, X.add t c, by rw [List.length_cons]; omega, fun x => ?_⟩ fun s3 D3 l3 mv3 e3 F3 ll3 mem3 => ?_⟩
      · rw [tk, List.mem_append, List.mem_singleton, List.mem_cons, mem x]
        exact Or.comm
      · exact done s3 D3 l3 (Moved.trans W.gtrans ((mv.mono inS).then_heap (Nat.le_succ _) fun b o hb e => old b o (fun h => hb (h ▸ List.mem_cons_self)) e) mv3) e3 F3 ll3 mem3
end
end E30
end PySem
set_option Elab.async false
set_option linter.all false
set_option maxRecDepth 100000
set_option maxHeartbeats 4000000
namespace PySem
namespace E30
open PyProof.Rows L2 PySem.Froz
section
variable {P : Program} {w : World} {A : Around} {E : Value → Shared → Prop} {s : Shared}
theorem txtNew {w : World} : TxK w (#[], 0, .fresh 0 0 (!w.params.followText "set-order")) [] := ⟨fun e he => by simp at he, by simp, List.nodup_nil, by rfl, List.Pairwise.nil, by
    show _ ∨ (!w.params.followText "set-order") = true
    cases w.params.followText "set-order"
    · exact .inr rfl
    · exact .inl rfl⟩
set_option maxRecDepth 100000 in
set_option maxHeartbeats 4000000 in
theorem setOfTexts {q : Addr} {vals : Array Value} (xs : List Str) {Q : Value → Shared → Prop} (calm : A.handled = none) (isL : s.heap.IsList q vals) (isS : StrsAre vals.toList xs) (few : xs.length + 1 < scanBound)
    (k : ∀ (g : Heap) (tk : Nat) (D : SD) (l : List Str), g.get? s.heap.objs.size = some (sObj "set" D) → TxK w D l → l.length ≤ xs.length → (∀ x, x ∈ l ↔ x ∈ xs) → (∀ b o, s.heap.get? b = some o → g.get? b = some o) → Q (.ref s.heap.objs.size) { s with heap := g, toks := tk }) :
    wpAny (model P w) A (call (.type "set") [.ref q]) Q E s := by
  have sz : vals.size = xs.length := by
    have y := StrsAre.len_eq isS
    rw [Array.length_toList] at y
    exact y
  obtain ⟨c, tl, hmro⟩ := F.called_set.mro
  have hmade := F.called_set.made
  have hsub := F.called_set.sub
  refine wpAny_call (codeAny_of_tree ?_)
  show wpAny _ _ (callAny (.type "set") _) _ _ _
  refine wpAny_pure ⟨Code.quiet_builtin _ (by decide +kernel), codeAny_builtin F.entry_type_call ?_⟩
  rw [Around.under_plain (weight_type_call_type "set" [.ref q] []) rfl]
  have n1 := F.called_set.notType
  have n2 := F.called_set.canCreate
  have n3 := F.typeCall_set_1 (.ref q)
  repeat (any_goals (first | assumption | wp_step))
  refine codeAny_mono (code_set_led1 (.ref q) (E := E) (Q₁ := fun ob z => ob = .ref s.heap.objs.size ∧ z = { s with heap := s.heap.push (PySem.E40.newSet w) }) ⟨rfl, rfl⟩) fun r z hr => ?_
  cases r with
  | error e => exact hr
  | ok fl =>
    cases fl with
    | ret ob =>
      obtain ⟨rfl, rfl⟩ := hr
      have atS : (s.heap.push (PySem.E40.newSet w)).get? s.heap.objs.size = some (PySem.E40.newSet w) := Heap.get?_push_size _ rfl
      have tyS : Shared.TypeIs { s with heap := s.heap.push (PySem.E40.newSet w) } (.ref s.heap.objs.size) "set" := ⟨_, atS, rfl⟩
      have i1 := F.called_set.init.lookup
      have i2 := F.called_set.init.bind (.ref s.heap.objs.size)
      repeat (any_goals (first | assumption | wp_step))
      refine codeAny_mono (codeAny_call_builtin (R := wants (fun r z2 => r = .none ∧ ∃ g tk D l, z2 = { s with heap := g, toks := tk } ∧ g.get? s.heap.objs.size = some (sObj "set" D) ∧ TxK w D l ∧ l.length ≤ xs.length ∧ (∀ x, x ∈ l ↔ x ∈ xs) ∧
          (∀ b o, s.heap.get? b = some o → g.get? b = some o)) E) F.called_set.init.plain F.entry_set_init (check_set_init_1 tyS ?_)) fun r2 z2 hr2 => ?_
      · obtain ⟨⟨oc, od, odt, osl⟩, hol, hcl, nl, hdl⟩ := isL
        simp only at hcl hdl
        subst hcl; subst hdl
        have hol1 : (s.heap.push (PySem.E40.newSet w)).get? q = some { cls := .type "list", dict := od, data := .seq vals nl, slots := osl } := Heap.get?_push_of_some _ hol
        have f1 := F.sub_list_set
        have f2 := F.sub_list_frozenset
        have f3 : (Value.type "list" == Value.type "dict") = false := by decide
        have isL1 : (s.heap.push (PySem.E40.newSet w)).IsList q vals := ⟨_, hol1, rfl, nl, rfl⟩
        unfold Builtin.«set.__init__» noKeywords Builtin.Frozenset.updateFrom
        generalize hPI : pyIter = PI
        wp_walk
        subst hPI
        refine wpAny_pyIter_list (s := { s with heap := s.heap.push (PySem.E40.newSet w) }) isL1 ?_
        refine wpAny_bind (wpAny_runValue ?_)
        have qS : q < s.heap.objs.size := Heap.lt_size hol
        have calm3 : A.in1.in1.in1.handled = none := by simp [calm]
        have z1 : (s.heap.push (PySem.E40.newSet w)).objs.size = s.heap.objs.size + 1 := Heap.size_push ..
        have neI : q ≠ (s.heap.push (PySem.E40.newSet w)).objs.size := by
          rw [z1]; exact Nat.ne_of_lt (Nat.lt_succ_of_lt qS)
        have notin : s.heap.objs.size ∉ [(s.heap.push (PySem.E40.newSet w)).objs.size, q] := by
          rw [z1]; simp only [List.mem_cons, List.not_mem_nil, or_false, not_or]
          exact ⟨Nat.ne_of_lt (Nat.lt_succ_self _), Nat.ne_of_gt qS⟩
        have vv : ∀ (i : Nat) (v : Value), vals[i]? = some v → ∃ k t, xs[i]? = some k ∧ v = .str k t := fun i v hv => by
          have hi : i < xs.length := by rw [← sz]; exact (Array.getElem?_eq_some_iff.mp hv).1
          obtain ⟨t, e⟩ := SS.strs_at isS i v (by rw [Array.getElem?_toList]; exact hv)
          refine ⟨xs[i], t, List.getElem?_eq_getElem hi, ?_⟩
          rw [e, List.getD_eq_getElem?_getD, List.getElem?_eq_getElem hi] <;> rfl
        refine upTexts ((Walks.list calm3 _ q neI vals).toS) s.heap.objs.size notin xs sz few vv (vals.size - 0) 0 _ (by omega) (Nat.zero_le _)
          ⟨⟨_, Heap.get?_push_size _ rfl, rfl, rfl⟩, (isL1.push _)⟩ ?start ?rest
        case start =>
          exact ⟨(#[], 0, .fresh 0 0 (!w.params.followText "set-order")), [], Heap.get?_push_of_some _ atS, txtNew, Nat.le_refl 0, fun x => by simp⟩
        case rest =>
          intro s9 D9 l9 mv e9 F9 few9 mem9
          obtain ⟨g9, gn9, d9, t9, o9⟩ := s9
          have e1 : gn9 = s.gens := mv.gens
          have e2 : d9 = s.drawn := mv.drawn
          have e3 : o9 = s.os := mv.os
          subst e1; subst e2; subst e3
          show wpAny _ _ _ _ _ _
          refine wpAny_pure ?_
          show wpAny _ _ (ret Value.none) _ _ _
          refine wpAny_pure ⟨rfl, g9, t9, D9, l9, rfl, e9, F9, sz ▸ few9, mem9, fun b o e => ?_⟩
          have b0 : b < s.heap.objs.size := Heap.lt_size e
          have b2 : b ≠ (s.heap.push (PySem.E40.newSet w)).objs.size := by
            rw [z1]; exact Nat.ne_of_lt (Nat.lt_succ_of_lt b0)
          exact mv.heap b o (by simp only [List.mem_cons, List.not_mem_nil, or_false, not_or]; exact ⟨Nat.ne_of_lt b0, b2⟩) (Heap.get?_push_of_some _ (Heap.get?_push_of_some _ e))
      · cases r2 with
        | error e => exact hr2
        | ok fl2 =>
          cases fl2 with
          | ret r =>
            obtain ⟨rfl, g, tk, D, l, rfl, e9, F9, few9, mem9, keep⟩ := hr2
            repeat (any_goals (first | assumption | wp_step))
            exact k _ _ _ _ e9 F9 few9 mem9 keep
          | _ => exact hr2.elim
    | _ => exact hr.elim
end
end E30
end PySem
namespace L2
open PySem PySem.Spec PyProof.Rows PySem.Froz PySem.E30
/-- the set of the unlike texts l at a -/
def TxtAt (w : World) (h : Heap) (a : Addr) (l : List Str) : Prop := ∃ D, h.get? a = some (sObj "set" D) ∧ TxK w D l
def SetTx (w : World) (a : Addr) (l : List Str) : HO := .ext fun h => TxtAt w h a l
theorem setTx_new {w : World} {P : Program} {H : Hp} {h : Heap} {a : Addr} {l : List Str} (R : TxtAt w h a l) : ObjOk P w H h a (SetTx w a l) :=
  ⟨R, R.elim fun D r => ⟨_, r.1⟩, fun h1 h2 p k => p.elim fun D r => ⟨D, k _ r.1, r.2⟩⟩
/-- set(xs), xs a list of texts -/
def rSetTx (K : PySem.W.Frag) (w : World) : List V → Hp → VK → Prop := fun vs H Q => ∃ (a : Addr) (xs : List Str), vs = [V.ref a] ∧ SqL K H a (xs.map V.str) ∧ xs.length ≤ 1000 ∧
  ∀ p l, l.Nodup → (∀ x, x ∈ l ↔ x ∈ xs) → l.length ≤ xs.length → H p = none → Q (.ref p) (upd H p (SetTx w p l))
theorem cr_setTx {X : Cx} (hc : X.calm = true) : CallR X (.type "set") (rSetTx X.K X.w) := by
  intro pins s σ H vs us Q I r h
  obtain ⟨a, xs, rfl, hq, hz, q⟩ := h
  rw [Vals.ref1 r]
  obtain ⟨vals, rv, pl, _⟩ := I.list hq
  refine setOfTexts xs (I.ok.hd hc) pl.isList (by simpa using rv.strs) (by unfold scanBound; omega) fun g tk D l e9 F9 few mem keep => ?_
  have hn : H s.heap.objs.size = none := I.hok.fresh (Nat.le_refl _)
  exact ⟨.ref s.heap.objs.size, _, I.laid (t' := tk) keep (Nat.le_refl _) (setTx_new ⟨D, e9, F9⟩), rfl, q _ l F9.nd mem few hn⟩
/-- sorted of a set of texts -/
def rSortedTx (w : World) : List V → Hp → VK → Prop := fun vs H Q => ∃ (a : Addr) (l : List Str), vs = [V.ref a] ∧ H a = some (SetTx w a l) ∧ l.length ≤ 1000 ∧
  ∀ (ys : List Str) (p : Addr), ys.Perm l → sortedS ys = true → H p = none → Q (.ref p) (upd H p (.lst (ys.map V.str)))
theorem txtVals : ∀ {vs : List Value}, (∀ v ∈ vs, ∃ k u, v = Value.str k u) → StrsAre vs (vs.map fun v => match v with | .str k _ => k | _ => Str.empty)
  | [], _ => .nil
  | v :: r, h => by
    obtain ⟨k, u, rfl⟩ := h v List.mem_cons_self
    exact .cons k u (txtVals fun x hx => h x (List.mem_cons_of_mem _ hx))
theorem cr_sortedTx {X : Cx} (hc : X.calm = true) : CallR X (.builtin "sorted") (rSortedTx X.w) := by
  intro pins s σ H vs us Q I r h
  obtain ⟨a, l, rfl, ha, hz, q⟩ := h
  rw [Vals.ref1 r]
  obtain ⟨D, eD, FD⟩ : TxtAt X.w s.heap a l := (I.hok a _ ha).1
  have low : D.1.size < scanBound := by rw [FD.size]; unfold scanBound; omega
  refine sortedBy (collect_set (A := X.A.in1) (I.ok.hd hc) ⟨_, eD, rfl, rfl⟩ FD.fit low FD.ris FD.led fun s1 vs k1 hz1 g1 o1 pm => ?_)
  have all : ∀ v ∈ vs, ∃ k u, v = Value.str k u := fun v hv => by
    obtain ⟨e, he, rfl⟩ := List.mem_map.mp (pm.mem_iff.mp hv)
    obtain ⟨k, u, rfl⟩ := FD.good e he
    exact ⟨k, u, rfl⟩
  have pk : (vs.map fun v => match v with | .str k _ => k | _ => Str.empty).Perm l := by
    have z := pm.map fun v : Value => match v with | .str k _ => k | _ => Str.empty
    rw [List.map_map] at z
    exact z.trans FD.keys
  have vl : vs.length = l.length := by rw [← pk.length_eq, List.length_map]
  have lz : vs.length ≤ sizeLine := by rw [vl]; exact Nat.le_of_lt (small1000 hz)
  refine ⟨_, txtVals all, lz, fun out ss a1 a2 a3 => ?_⟩
  have oL : (s1.heap.push (seqObj "list" vs.toArray 0)).get? s1.heap.objs.size = some (seqObj "list" vs.toArray 0) := Heap.get?_push_size _ rfl
  obtain ⟨c, hc2⟩ := sortedHeap_at (vs := vs) (out := out) oL
  have pl : ss.Perm l := a2.trans pk
  have hlen : (ss.map V.str).length ≤ sizeLine := by rw [List.length_map, pl.length_eq]; exact Nat.le_of_lt (small1000 hz)
  have keep : ∀ b u, s.heap.get? b = some u → (sortedHeap (s1.heap.push (seqObj "list" vs.toArray 0)) s1.heap.objs.size vs out).get? b = some u := fun b u e => by
    have z := k1 b u e
    have lt := Heap.lt_size z
    rw [sortedHeap_old (Nat.ne_of_lt lt) (by rw [size_push']; exact Nat.lt_succ_of_lt lt)]
    exact Heap.get?_push_of_some _ z
  have hn : H s1.heap.objs.size = none := I.hok.fresh hz1
  have J : Inv X pins σ (upd H s1.heap.objs.size (.lst (ss.map V.str))) { s with heap := sortedHeap (s1.heap.push (seqObj "list" vs.toArray 0)) s1.heap.objs.size vs out, gens := s1.gens, drawn := s1.drawn, toks := s1.toks } :=
    I.call (ch := []) (Un.laid keep hz1 hn) (I.hok.laid keep hz1 ⟨hlen, out.toList, c, vals_of_strs a1, hc2⟩) (by rw [g1]; exact I.bare) (fun _ z => nomatch z)
  have e : ({ s1 with heap := sortedHeap (s1.heap.push (seqObj "list" vs.toArray 0)) s1.heap.objs.size vs out } : Shared) = { s with heap := sortedHeap (s1.heap.push (seqObj "list" vs.toArray 0)) s1.heap.objs.size vs out, gens := s1.gens, drawn := s1.drawn, toks := s1.toks } := by
    cases s1
    cases s
    cases o1
    rfl
  rw [e]
  exact ⟨.ref _, _, J, rfl, q ss _ pl a3 hn⟩
end L2
set_option Elab.async false
set_option linter.all false
set_option maxRecDepth 100000
set_option maxHeartbeats 2000000
namespace K30
open PySem PySem.Spec PyProof.Rows L2
/-! ### the text by places -/
def top (i : Nat) : Stmt := PySem.Challenge.pw_linklines_k30_whole_one_for_several.main.body.getD i (.Pass ⟨0, 0, 0, 0⟩)
abbrev sLst : Stmt := top 2
abbrev sWri : Stmt := top 3
abbrev sWrd : Stmt := top 4
abbrev sBad : Stmt := top 5
abbrev sChW : Stmt := top 15
abbrev sChA : Stmt := top 16
abbrev sChL : Stmt := top 17
abbrev sChM : Stmt := top 18
abbrev sIni : Stmt := inClass (top 19) 0
abbrev sEq : Stmt := inClass (top 19) 1
abbrev sTel : Stmt := inClass (top 19) 2
abbrev sWan : Stmt := inClass (top 19) 3
abbrev sAsk : Stmt := inClass (top 19) 4
abbrev sNee : Stmt := inClass (top 19) 5
abbrev sOwn : Stmt := inClass (top 19) 6
abbrev sSta : Stmt := inClass (top 19) 7
/-! ### heaps -/
theorem sNew {H H' : Hp} {q : Addr} {o : HO} (s : Same H H') (h : H' q = none) : Same H (upd H' q o) := fun b x e => by
  rw [upd_ne (ne_of_none (s b x e) h)]
  exact s b x e
theorem sOwn' {H H' : Hp} {q : Addr} {o : HO} (s : Same H H') (h : H q = none) : Same H (upd H' q o) := fun b x e => by
  rw [upd_ne (ne_of_none e h)]
  exact s b x e
/-- a list or a tuple of xs -/
def Sq (H : Hp) (a : Addr) (xs : List V) : Prop := H a = some (.lst xs) ∨ H a = some (.tup xs)
theorem Sq.same {H H' : Hp} {a : Addr} {xs : List V} (h : Sq H a xs) (s : Same H H') : Sq H' a xs := h.elim (fun e => .inl (s _ _ e)) fun e => .inr (s _ _ e)
/-- how a thing is called: the name of its type -/
inductive Kd (H : Hp) : V → String → Prop where
  | non : Kd H .non "NoneType"
  | bl (b : Bool) : Kd H (.bl b) "bool"
  | int (i : Int) : Kd H (.int i) "int"
  | str (x : Str) : Kd H (.str x) "str"
  | lst {a : Addr} {xs : List V} (e : H a = some (.lst xs)) : Kd H (.ref a) "list"
  | tup {a : Addr} {xs : List V} (e : H a = some (.tup xs)) : Kd H (.ref a) "tuple"
theorem Kd.ty {K : PySem.W.Frag} {H : Hp} {v : V} {s : String} (k : Kd H v s) : TyX K H v (.type s) := by
  cases k with
  | non => exact .base .non
  | bl b => exact .base (.bl b)
  | int i => exact .base (.int i)
  | str x => exact .base (.str x)
  | lst e => exact .base (.lst e)
  | tup e => exact .base (.tup e)
theorem Kd.same {H H' : Hp} {v : V} {s : String} (k : Kd H v s) (m : Same H H') : Kd H' v s := by
  cases k with
  | non => exact .non
  | bl b => exact .bl b
  | int i => exact .int i
  | str x => exact .str x
  | lst e => exact .lst (m _ _ e)
  | tup e => exact .tup (m _ _ e)
theorem Kd.is {H : Hp} {v : V} {s : String} (k : Kd H v s) : kitB s "list" = some (s == "list") ∧ kitB s "tuple" = some (s == "tuple") ∧ kitB s "dict" = some (s == "dict") ∧ kitB s "str" = some (s == "str") ∧ kitB s "bool" = some (s == "bool") ∧ kitB s "int" = some (s == "int" || s == "bool") := by
  cases k <;> decide +kernel
theorem Kd.any {K : PySem.W.Frag} {H : Hp} {v : V} {s : String} (k : Kd H v s) : PySem.W.kitAny K (.type s) [.type "list", .type "tuple"] = some (s == "list" || s == "tuple") := by
  unfold PySem.W.kitAny PySem.W.kitAny PySem.W.kitAny
  rw [kit_ty k.is.1, kit_ty k.is.2.1]
  cases (s == "list") <;> cases (s == "tuple") <;> rfl
theorem Sq.kd {H : Hp} {a : Addr} {xs : List V} (h : Sq H a xs) : ∃ s, Kd H (.ref a) s ∧ (s == "list" || s == "tuple") = true := by
  rcases h with h | h
  · exact ⟨_, .lst h, rfl⟩
  · exact ⟨_, .tup h, rfl⟩
theorem Sq.seq {K : PySem.W.Frag} {H : Hp} {a : Addr} {xs : List V} (h : Sq H a xs) : SqL K H a xs ∨ SqT K H a xs := h.elim (fun e => .inl (.of e)) fun e => .inr (.of e)
/-! ### words -/
def letters : Str := "abcdefghijklmnopqrstuvwxyz"
def words : List Str := ["m", "n", "open", "end", "a", "lib", "q"]
theorem word_len : ∀ x ∈ words, 1 ≤ x.length ∧ x.length ≤ 8 := by decide +kernel
theorem word_in : ∀ x ∈ words, x.cps.toList.all (fun c => decide (c ∈ letters.cps.toList)) = true := by decide +kernel
theorem word_cps : ∀ x ∈ words, x.cps.size ≤ 8 := by decide +kernel
/-! ### what the top leaves -/
structure Txt (K : PySem.W.Frag) (mg : Str → Option Value) (C : Addr) : Prop where
  isi : mg "isinstance" = none
  int : mg "int" = none
  bool : mg "bool" = none
  list : mg "list" = none
  tup : mg "tuple" = none
  dct : mg "dict" = none
  str : mg "str" = none
  len : mg "len" = none
  enu : mg "enumerate" = none
  srt : mg "sorted" = none
  rng : mg "range" = none
  abs : mg "abs" = none
  sum : mg "sum" = none
  all : mg "all" = none
  any : mg "any" = none
  zip : mg "zip" = none
  set : mg "set" = none
  let' : ∃ t, mg "LETTERS" = some (.str letters t)
  cl : Cls K C
  gC : mg "Library" = some (.ref C)
theorem boot_isi : bootBuiltins "isinstance" = some (.builtin "isinstance") := by decide +kernel
theorem boot_int' : bootBuiltins "int" = some (.type "int") := by decide +kernel
theorem boot_bool' : bootBuiltins "bool" = some (.type "bool") := by decide +kernel
theorem boot_list' : bootBuiltins "list" = some (.type "list") := by decide +kernel
theorem boot_tuple' : bootBuiltins "tuple" = some (.type "tuple") := by decide +kernel
theorem boot_dict' : bootBuiltins "dict" = some (.type "dict") := by decide +kernel
theorem boot_str' : bootBuiltins "str" = some (.type "str") := by decide +kernel
theorem boot_all' : bootBuiltins "all" = some (.builtin "all") := by decide +kernel
theorem boot_any' : bootBuiltins "any" = some (.builtin "any") := by decide +kernel
theorem boot_srt : bootBuiltins "sorted" = some (.builtin "sorted") := by decide +kernel
theorem boot_abs' : bootBuiltins "abs" = some (.builtin "abs") := by decide +kernel
theorem boot_sum' : bootBuiltins "sum" = some (.builtin "sum") := by decide +kernel
/-- a def to be called -/
structure Cal (P : Program) (w : World) (K : PySem.W.Frag) (mg : Str → Option Value) (base : Heap) (k : Nat) (x : Str) (ps : List Str) (sp : Sp) : Prop where
  ex : ∃ (f : Addr) (fd : FuncData), FnOk P w K mg base CX0 k f fd ps sp ∧ mg x = some (.ref f) ∧ PySem.W.keepIn K (.ref f) = true ∧ Binds K fd ps []
theorem map_at {α : Type} {f : α → V} {l : List α} {i : Nat} {x : V} (h : (l.map f)[i]? = some x) : ∃ k, l[i]? = some k ∧ x = f k := by
  rw [List.getElem?_map] at h
  cases e : l[i]? with
  | none =>
    rw [e] at h
    cases h
  | some k =>
    rw [e] at h
    exact ⟨k, rfl, (Option.some.inj h).symm⟩
/-! ### promises -/
def spLst : Sp := fun vs H Q _ => ∃ a xs, vs = [.ref a] ∧ Sq H a xs ∧ ∀ H', Same H H' → Q (.bl true) H'
def spWri : Sp := fun vs H Q _ => ∃ x ∈ words, vs = [.str letters, .int 8, .str x] ∧ ∀ H', Same H H' → Q (.bl true) H'
def spWrd : Sp := fun vs H Q _ => ∃ x ∈ words, vs = [.str x] ∧ ∀ H', Same H H' → Q (.bl true) H'
section
variable {P : Program} {w : World} {K : PySem.W.Frag} {mg : Str → Option Value} {base : Heap} {C : Addr}
theorem scLst : FnScope ["thing"] ["thing"] (defScope sLst) := ⟨rfl, rfl, rfl, by decide +kernel, rfl, by decide +kernel, by decide +kernel⟩
theorem ok_lst {f : Addr} {fd : FuncData} (F : Fun K "is_list" "is_list" sLst f fd) (T : Txt K mg C) : FnOk P w K mg base CX0 1 f fd ["thing"] spLst := by
  refine F.ok scLst (fun vs H Q E h => ?_) (fun cdv A outer s H vs Q E hr h => ?_)
  · obtain ⟨a, xs, rfl, _⟩ := h
    rfl
  · obtain ⟨a, xs, rfl, hs, q⟩ := h
    refine ⟨_, pss_one (ps_ret (pe_callB call_isiT (by rfl) T.isi boot_isi (pa_cons (pv 0) (pa_cons (pe_tup (pa_cons (pe_bltn (v := .ty "list") (by rfl) T.list boot_list' rfl) (pa_cons (pe_bltn (v := .ty "tuple") (by rfl) T.tup boot_tuple' rfl) pa_nil))) pa_nil)))), ?_⟩
    refine ⟨_, rfl, (by show 2 ≤ sizeLine; decide), fun p hp => ?_⟩
    have m : Same H (upd H p (.tup [.ty "list", .ty "tuple"])) := sNew (Same.refl H) hp
    obtain ⟨s, k, e⟩ := hs.kd
    refine ⟨_, p, _, _, _, _, rfl, upd_same, .cons (.ty _) (.cons (.ty _) .nil), (k.same m).ty, (k.same m).any, ?_⟩
    rw [e]
    exact q _ m
def nWri : List Str := ["signs", "most", "thing", "sign"]
theorem scWri : FnScope nWri ["signs", "most", "thing"] (defScope sWri) := ⟨rfl, rfl, rfl, by decide +kernel, rfl, by decide +kernel, by decide +kernel⟩
theorem ok_wri {f : Addr} {fd : FuncData} (F : Fun K "is_written_in" "is_written_in" sWri f fd) (T : Txt K mg C) : FnOk P w K mg base CX0 1 f fd ["signs", "most", "thing"] spWri := by
  refine F.ok scWri (fun vs H Q E h => ?_) (fun cdv A outer s H vs Q E hr h => ?_)
  · obtain ⟨x, _, rfl, _⟩ := h
    rfl
  · obtain ⟨x, hx, rfl, q⟩ := h
    refine ⟨_, pss_one (ps_ret (pe_and (pe_callB call_isi (by rfl) T.isi boot_isi (pa_cons (pv 2) (pa_cons (pe_bltn (v := .ty "str") (by rfl) T.str boot_str' rfl) pa_nil)))
      (pe_and (pe_chain op_le op_le pe_int (pe_callB call_len_str (by rfl) T.len PySem.boot_len (pa_cons (pv 2) pa_nil)) (pv 1))
      (pe_one (pe_callB (cr_all rfl) (by rfl) T.all boot_all' (pa_cons (pe_lc (own := [("sign", 3)]) (g := gName 3) (tt := tYes) rfl scWri.nd (pi_str (pv 2)) (blkOk_by (N := nWri) (sc := defScope sWri) (by decide +kernel))
        (fun _ _ _ _ _ => pg_name (i := 3) scWri.nd rfl (.inl rfl)) (fun _ _ _ _ _ => pts_nil) (fun _ _ _ _ _ => pe_cmpR op_in_sign (pv 3) (pv 0) (by rfl))) pa_nil)))))), ?_⟩
    obtain ⟨l1, l2⟩ := word_len x hx
    have kx : Kd H (.str x) "str" := .str x
    refine ⟨_, rfl, _, _, _, _, _, rfl, .ty _, kx.ty, kit_ty kx.is.2.2.2.1, _, rfl, iteT ?_⟩
    refine ⟨_, rfl, _, rfl, (by show x.length ≤ sizeLine; exact Nat.le_trans l2 (by decide)), _, _, rfl, rfl, _, rfl, ?_⟩
    have e1 : decide ((1 : Int) ≤ ((x.length : Nat) : Int)) = true := decide_eq_true (by omega)
    have e2 : decide (((x.length : Nat) : Int) ≤ 8) = true := decide_eq_true (by omega)
    rw [e1]
    refine iteT ⟨_, rfl, _, _, rfl, rfl, _, rfl, ?_⟩
    rw [e2]
    refine iteT ⟨_, rfl, x, rfl, fun D nD => ?_⟩
    refine lc_it (walk_str.mono (G' := fun H' => Same H H') (fun H' _ => True.intro) (fun _ _ _ _ _ _ y => y)) (fun i H' => Same H H' ∧ H' D = some (.lst ((List.replicate i true).map V.bl))) ⟨sNew (Same.refl H) nD, upd_same⟩ (fun i H' _ z => z.1) ?_ ?_
    · rintro i v H1 H2 hi ⟨m1, eD⟩ ⟨rfl, c, hc, rfl⟩
      refine ⟨rfl, _, rfl, _, rfl, c, letters, rfl, rfl, ?_⟩
      have hm : decide (c ∈ letters.cps.toList) = true := List.all_eq_true.mp (word_in x hx) c (List.mem_of_getElem? (by rw [Array.getElem?_toList]; exact hc))
      rw [hm]
      refine ⟨_, eD, ?_, sOwn' m1 nD, ?_⟩
      · have := word_cps x hx
        simp
        exact Nat.lt_of_lt_of_le (show i < 9 by omega) (by decide)
      · rw [upd_same, List.replicate_succ', List.map_append]
        rfl
    · rintro H1 ⟨m1, eD⟩
      refine ⟨D, _, rfl, .of eD, ?_⟩
      have e3 : (List.replicate x.cps.size true).all id = true := by
        rw [List.all_eq_true]
        intro b hb
        rw [(List.mem_replicate.mp hb).2]
        rfl
      rw [e3]
      exact q _ m1
theorem scWrd : FnScope ["thing"] ["thing"] (defScope sWrd) := ⟨rfl, rfl, rfl, by decide +kernel, rfl, by decide +kernel, by decide +kernel⟩
theorem ok_wrd {f : Addr} {fd : FuncData} (F : Fun K "is_word" "is_word" sWrd f fd) (T : Txt K mg C) (cw : Cal P w K mg base 1 "is_written_in" ["signs", "most", "thing"] spWri) : FnOk P w K mg base CX0 2 f fd ["thing"] spWrd := by
  obtain ⟨g, gd, G, gg, gk, gb⟩ := cw.ex
  obtain ⟨t, hL⟩ := T.let'
  refine F.ok scWrd (fun vs H Q E h => ?_) (fun cdv A outer s H vs Q E hr h => ?_)
  · obtain ⟨x, _, rfl, _⟩ := h
    rfl
  · obtain ⟨x, hx, rfl, q⟩ := h
    refine ⟨_, pss_one (ps_ret (pe_call G hr rfl gg gk gb .nil pass0 (pa_cons (pe_glob (v := .str letters) rfl hL ⟨_, rfl⟩) (pa_cons pe_int (pa_cons (pv 0) pa_nil))))), ?_⟩
    exact ⟨_, rfl, x, hx, rfl, q⟩
end
end K30
set_option Elab.async false
set_option linter.all false
set_option maxRecDepth 100000
set_option maxHeartbeats 2000000
namespace K30
open PySem PySem.Spec PyProof.Rows L2
theorem walkEn {K : PySem.W.Frag} {H0 H1 : Hp} {a : Addr} {xs ys : List V} {J : It} (h : Sq H0 a xs) (m : Same H0 H1)
    (j : (H1 a = some (.lst ys) ∧ J = Ite K a) ∨ (H1 a = some (.tup ys) ∧ J = IteT K a)) : Walk J xs.length (fun H => Same H0 H) (YPair (fun i => some (.int (i : Nat))) (fun i => xs[i]?)) := by
  rcases j with ⟨q, rfl⟩ | ⟨q, rfl⟩
  · rcases h with h | h
    · exact walk_enum.mono (fun H q => .of (q _ _ h)) fun _ _ _ _ _ _ y => y
    · have e := m _ _ h
      rw [q] at e
      cases e
  · rcases h with h | h
    · have e := m _ _ h
      rw [q] at e
      cases e
    · exact walk_enumT.mono (fun H q => .of (q _ _ h)) fun _ _ _ _ _ _ y => y
theorem flat_strs (ys : List Str) : (ys.map V.str).all flatV = true := by
  rw [List.all_eq_true]
  intro v hv
  obtain ⟨y, _, rfl⟩ := List.mem_map.mp hv
  rfl
theorem in_strs (x : Str) (ys : List Str) : inV (.str x) (ys.map V.str) = decide (x ∈ ys) := by
  unfold inV
  rw [List.any_map, Bool.eq_iff_iff, List.any_eq_true, decide_eq_true_eq]
  constructor
  · rintro ⟨y, hy, e⟩
    have e' : (y == x) = true := e
    rw [eq_of_beq e'] at hy
    exact hy
  · intro h
    exact ⟨x, h, by show (x == x) = true; simp⟩
/-- good names: words, each once -/
structure Ws (xs : List Str) : Prop where
  ok : ∀ x ∈ xs, x ∈ words
  nd : xs.Nodup
theorem Ws.len {xs : List Str} (h : Ws xs) : xs.length ≤ 7 := by
  have := List.Nodup.length_le_of_subset h.nd (fun x hx => h.ok x hx)
  exact this
def spBad : Sp := fun vs H Q _ => ∃ (a b : Addr) (ws ys : List Str), vs = [.ref a, .ref b] ∧ Sq H a (ws.map V.str) ∧ Sq H b (ys.map V.str) ∧ Ws ws ∧ (∀ x ∈ ws, x ∉ ys) ∧ ∀ H', Same H H' → Q .non H'
/-- the dict of what has been seen -/
def seenK (ws : List Str) : List (Key × V) := ws.map fun x => (Sum.inr x, V.bl true)
theorem seen_val (ws : List Str) (x : Str) (h : x ∉ ws) : valV (seenK ws) (Sum.inr x : Key) = none := by
  induction ws with
  | nil => rfl
  | cons y r ih =>
    have h1 : ¬ y = x := fun e => h (by rw [e]; exact List.mem_cons_self)
    show valV ((Sum.inr y, V.bl true) :: seenK r) (Sum.inr x : Key) = none
    rw [valV_neg (by intro e; injection e with e; exact h1 e)]
    exact ih fun z => h (List.mem_cons_of_mem _ z)
theorem seen_put (ws : List Str) (x : Str) (h : x ∉ ws) : putK (seenK ws) (Sum.inr x : Key) (.bl true) = seenK (ws ++ [x]) := by
  unfold putK
  rw [valV_any, seen_val ws x h]
  show seenK ws ++ [(Sum.inr x, V.bl true)] = seenK (ws ++ [x])
  unfold seenK
  rw [List.map_append]
  rfl
section
variable {P : Program} {w : World} {K : PySem.W.Frag} {mg : Str → Option Value} {base : Heap} {C : Addr}
def nBad : List Str := ["things", "barred", "seen", "index", "thing"]
theorem scBad : FnScope nBad ["things", "barred"] (defScope sBad) := ⟨rfl, rfl, rfl, by decide +kernel, rfl, by decide +kernel, by decide +kernel⟩
theorem ok_bad {f : Addr} {fd : FuncData} (F : Fun K "first_bad_word" "first_bad_word" sBad f fd) (T : Txt K mg C) (cl : Cal P w K mg base 1 "is_list" ["thing"] spLst) (cw : Cal P w K mg base 2 "is_word" ["thing"] spWrd) :
    FnOk P w K mg base CX0 3 f fd ["things", "barred"] spBad := by
  obtain ⟨fl, fdl, GL, gl, kl, bl⟩ := cl.ex
  obtain ⟨fw, fdw, GW, gw, kw, bw⟩ := cw.ex
  refine F.ok scBad (fun vs H Q E h => ?_) (fun cdv A outer s H vs Q E hr h => ?_)
  · obtain ⟨a, b, ws, ys, rfl, _⟩ := h
    rfl
  · obtain ⟨a, b, ws, ys, rfl, ha, hb, W, no, q⟩ := h
    have hr1 : Room 1 _ := hr.mono (by decide)
    have hu := hu_of hr
    refine ⟨_, pss_cons (ps_if (pt_not (pt_val (pe_call GL hr1 rfl gl kl bl .nil pass0 (pa_cons (pv 0) pa_nil)))) pss_never pss_nil)
      (pss_cons (ps_set (i := 2) scBad.nd rfl (.inl rfl) pe_dnewK)
      (pss_cons (ps_for PassesOwn.never rfl (pi_enumA (by rfl) T.enu (pa_cons (pv 0) pa_nil)) (pg_tup rfl (pgs_cons (pg_name (i := 3) scBad.nd rfl (.inl rfl)) (pgs_cons (pg_name (i := 4) scBad.nd rfl (.inl rfl)) pgs_nil)))
        (pss_cons (ps_if (PW.pt (pw_or (pt_not (pt_val (pe_call GW hr rfl gw kw bw .nil pass0 (pa_cons (pv 4) pa_nil)))) (pw_or (pt_cmpR op_in_seq (pv 4) (pv 1) (by rfl)) (pw_or1 (pt_cmp (pc_din hu (pv 4) (pv 2))))))) pss_never pss_nil)
          (pss_one (ps_dput hu (pv 2) (pv 4) pe_bl rfl))))
      (pss_one (ps_ret pe_non)))), ?_⟩
    refine ⟨_, rfl, a, _, rfl, ha, fun H1 m1 => ⟨_, rfl, iteF ?_⟩⟩
    intro d nd
    have m2 := sNew (o := .dK []) m1 nd
    refine ⟨_, rfl, a, ws.map V.str, rfl, ha.same m2, fun J jj => ?_⟩
    refine for_it (walkEn ha m2 jj) (fun i σ H' => Same H H' ∧ H' d = some (.dK (seenK (ws.take i))) ∧ ∃ u v, σ = [some (.ref a), some (.ref b), some (.ref d), u, v]) ⟨m2, upd_same, none, none, rfl⟩ (fun i σ H' _ z => z.1) ?_ (fun σ H' z => q H' z.1)
    rintro i x σ H2 H3 hi ⟨m3, eD, u, v, rfl⟩ ⟨T1, x1, x2, rfl, nT, rfl, f1, f2⟩
    cases f1
    obtain ⟨z, hz, rfl⟩ := map_at f2
    have zin := List.mem_of_getElem? hz
    have m4 := sNew (o := .tup [.int (i : Nat), .str z]) m3 nT
    have il : i < ws.length := (List.getElem?_eq_some_iff.mp hz).1
    have zno : z ∉ ws.take i := fun h => by
      obtain ⟨j, hj, e⟩ := List.getElem_of_mem h
      rw [List.length_take] at hj
      rw [List.getElem_take] at e
      have e2 : ws[i] = z := (List.getElem?_eq_some_iff.mp hz).2
      exact (List.pairwise_iff_getElem.mp W.nd) j i (by omega) il (by omega) (e.trans e2.symm)
    refine ⟨T1, _, rfl, .of upd_same, rfl, _, _, rfl, _, _, rfl, rfl, ?_⟩
    refine ⟨_, rfl, z, W.ok z zin, rfl, fun H4 m5 => ⟨_, rfl, iteF ?_⟩⟩
    have mm := m4.trans m5
    have eD4 : H4 d = some (.dK (seenK (ws.take i))) := m5 _ _ (by rw [upd_ne (ne_of_none eD nT)]; exact eD)
    refine ⟨_, rfl, _, rfl, b, _, rfl, (hb.same mm).seq, rfl, flat_strs ys, _, rfl, ?_⟩
    have e1 : inV (.str z) (ys.map V.str) = false := by
      rw [in_strs]
      exact decide_eq_false (no z zin)
    rw [show (if false = true then !inV (.str z) (ys.map V.str) else inV (.str z) (ys.map V.str)) = false from e1]
    refine iteF ⟨_, rfl, _, rfl, d, _, rfl, DGet.k (k := Sum.inr z) eD4, _, rfl, ?_⟩
    rw [seen_val _ _ zno]
    refine iteF ⟨_, rfl, _, rfl, d, _, rfl, DPut.k (k := Sum.inr z) eD4 ?_, ?_⟩
    · have := W.len
      show (seenK (ws.take i)).length < sizeLine
      unfold seenK
      rw [List.length_map, List.length_take]
      exact Nat.lt_of_lt_of_le (show min i _ < 8 by omega) (by decide)
    · refine ⟨sOwn' mm (Same.free m1 nd), ?_, _, _, rfl⟩
      rw [upd_same, seen_put _ _ zno]
      rw [List.take_add_one, hz]
      rfl
/-! the four checks -/
def spChW : Sp := fun vs H Q _ => ∃ (a b : Addr) (ws : List Str), vs = [.ref a, .ref b] ∧ Sq H a (ws.map V.str) ∧ Sq H b [] ∧ Ws ws ∧ ∀ H', Same H H' → Q .non H'
def spChA : Sp := fun vs H Q _ => ∃ (a b c : Addr) (ws ys : List Str), vs = [.ref a, .ref b, .ref c] ∧ Sq H a (ws.map V.str) ∧ Sq H b [] ∧ Sq H c (ys.map V.str) ∧ Ws ws ∧ (∀ x ∈ ws, x ∉ ys) ∧ ys.length ≤ 7 ∧ ∀ H', Same H H' → Q .non H'
def spChM : Sp := fun vs H Q _ => ∃ b : Bool, vs = [.bl b] ∧ Q .non H
theorem scChW : FnScope ["wants", "told", "bad"] ["wants", "told"] (defScope sChW) := ⟨rfl, rfl, rfl, by decide +kernel, rfl, by decide +kernel, by decide +kernel⟩
theorem ok_chw {f : Addr} {fd : FuncData} (F : Fun K "check_wants" "check_wants" sChW f fd) (T : Txt K mg C) (cb : Cal P w K mg base 3 "first_bad_word" ["things", "barred"] spBad) : FnOk P w K mg base CX0 4 f fd ["wants", "told"] spChW := by
  obtain ⟨fl, fdl, GL, gl, kl, bl⟩ := cb.ex
  refine F.ok scChW (fun vs H Q E h => ?_) (fun cdv A outer s H vs Q E hr h => ?_)
  · obtain ⟨a, b, ws, rfl, _⟩ := h
    rfl
  · obtain ⟨a, b, ws, rfl, ha, hb, W, q⟩ := h
    refine ⟨_, pss_cons (ps_set (i := 2) scChW.nd rfl (.inl rfl) (pe_call GL hr rfl gl kl bl .nil pass0 (pa_cons (pv 0) (pa_cons (pv 1) pa_nil))))
      (pss_one (ps_if (pt_cmpR op_notN (pv 2) pe_non (nomark _)) pss_never pss_nil)), ?_⟩
    refine ⟨_, rfl, _, rfl, a, b, ws, [], rfl, ha, hb, W, (fun x _ h => nomatch h), fun H1 m1 => ?_⟩
    exact ⟨_, rfl, rfl, _, rfl, iteF (q H1 m1)⟩
theorem scChA : FnScope ["asks", "told", "wants", "bad"] ["asks", "told", "wants"] (defScope sChA) := ⟨rfl, rfl, rfl, by decide +kernel, rfl, by decide +kernel, by decide +kernel⟩
theorem ok_cha {f : Addr} {fd : FuncData} (F : Fun K "check_asks" "check_asks" sChA f fd) (T : Txt K mg C) (cb : Cal P w K mg base 3 "first_bad_word" ["things", "barred"] spBad) : FnOk P w K mg base CX0 4 f fd ["asks", "told", "wants"] spChA := by
  obtain ⟨fl, fdl, GL, gl, kl, bl⟩ := cb.ex
  refine F.ok scChA (fun vs H Q E h => ?_) (fun cdv A outer s H vs Q E hr h => ?_)
  · obtain ⟨a, b, c, ws, ys, rfl, _⟩ := h
    rfl
  · obtain ⟨a, b, c, ws, ys, rfl, ha, hb, hc, W, no, l7, q⟩ := h
    refine ⟨_, pss_cons (ps_set (i := 3) scChA.nd rfl (.inl rfl) (pe_call GL hr rfl gl kl bl .nil pass0 (pa_cons (pv 0) (pa_cons (pe_lst (StX.pa_star (pv 1) (StX.pa_star (pv 2) pa_nil))) pa_nil))))
      (pss_one (ps_if (pt_cmpR op_notN (pv 3) pe_non (nomark _)) pss_never pss_nil)), ?_⟩
    refine ⟨_, rfl, _, rfl, b, [], rfl, hb.seq.symm, _, rfl, c, ys.map V.str, rfl, hc.seq.symm, ?_, fun p np => ?_⟩
    · simp
      exact Nat.le_trans l7 (by decide)
    · have m1 := sNew (o := .lst (([] : List V) ++ (ys.map V.str ++ []))) (Same.refl H) np
      refine ⟨a, p, ws, ys, rfl, ha.same m1, .inl (by rw [upd_same]; simp), W, no, fun H1 m2 => ?_⟩
      exact ⟨_, rfl, rfl, _, rfl, iteF (q H1 (m1.trans m2))⟩
theorem scChM : FnScope ["thing"] ["thing"] (defScope sChM) := ⟨rfl, rfl, rfl, by decide +kernel, rfl, by decide +kernel, by decide +kernel⟩
theorem ok_chm {f : Addr} {fd : FuncData} (F : Fun K "check_mark" "check_mark" sChM f fd) (T : Txt K mg C) : FnOk P w K mg base CX0 1 f fd ["thing"] spChM := by
  refine F.ok scChM (fun vs H Q E h => ?_) (fun cdv A outer s H vs Q E hr h => ?_)
  · obtain ⟨b, rfl, _⟩ := h
    rfl
  · obtain ⟨b, rfl, q⟩ := h
    have k : Kd H (.bl b) "bool" := .bl b
    refine ⟨_, pss_one (ps_if (pt_not (pt_val (pe_callB call_isi (by rfl) T.isi boot_isi (pa_cons (pv 0) (pa_cons (pe_bltn (v := .ty "bool") (by rfl) T.bool boot_bool' rfl) pa_nil))))) pss_never pss_nil), ?_⟩
    exact ⟨_, rfl, _, _, _, _, _, rfl, .ty _, k.ty, kit_ty k.is.2.2.2.2.1, _, rfl, iteF q⟩
def spChL : Sp := fun vs H Q _ => ∃ (a b c d : Addr) (ts ws ks ns : List Str), vs = [.ref a, .ref b, .ref c, .ref d] ∧ Sq H a (ts.map V.str) ∧ Sq H b (ws.map V.str) ∧ Sq H c (ks.map V.str) ∧ Sq H d (ns.map V.str) ∧ Ws ts ∧ Ws ws ∧ Ws ks ∧ Ws ns ∧ (∀ x ∈ ks, x ∉ ws) ∧ ∀ H', Same H H' → Q .non H'
theorem scChL : FnScope ["tells", "wants", "asks", "needs", "bad"] ["tells", "wants", "asks", "needs"] (defScope sChL) := ⟨rfl, rfl, rfl, by decide +kernel, rfl, by decide +kernel, by decide +kernel⟩
theorem ok_chl {f : Addr} {fd : FuncData} (F : Fun K "check_library" "check_library" sChL f fd) (T : Txt K mg C) (cb : Cal P w K mg base 3 "first_bad_word" ["things", "barred"] spBad)
    (c1 : Cal P w K mg base 4 "check_wants" ["wants", "told"] spChW) (c2 : Cal P w K mg base 4 "check_asks" ["asks", "told", "wants"] spChA) : FnOk P w K mg base CX0 5 f fd ["tells", "wants", "asks", "needs"] spChL := by
  obtain ⟨fl, fdl, GL, gl, kl, bl⟩ := cb.ex
  obtain ⟨f1, fd1, G1, g1, k1, b1⟩ := c1.ex
  obtain ⟨f2, fd2, G2, g2, k2, b2⟩ := c2.ex
  refine F.ok scChL (fun vs H Q E h => ?_) (fun cdv A outer s H vs Q E hr h => ?_)
  · obtain ⟨a, b, c, d, ts, ws, ks, ns, rfl, _⟩ := h
    rfl
  · obtain ⟨a, b, c, d, ts, ws, ks, ns, rfl, ha, hb, hc, hd, W1, W2, W3, W4, no, q⟩ := h
    have hr1 : Room 3 _ := hr.mono (by decide)
    have z0 : (0 : Nat) ≤ sizeLine := Nat.zero_le _
    refine ⟨_, pss_cons (ps_set (i := 4) scChL.nd rfl (.inl rfl) (pe_call GL hr1 rfl gl kl bl .nil pass0 (pa_cons (pv 0) (pa_cons (pe_tup pa_nil) pa_nil))))
      (pss_cons (ps_if (pt_cmpR op_notN (pv 4) pe_non (nomark _)) pss_never pss_nil)
      (pss_cons (ps_expr (pe_call G1 hr rfl g1 k1 b1 .nil pass0 (pa_cons (pv 1) (pa_cons (pe_tup pa_nil) pa_nil))))
      (pss_cons (ps_expr (pe_call G2 hr rfl g2 k2 b2 .nil pass0 (pa_cons (pv 2) (pa_cons (pe_tup pa_nil) (pa_cons (pv 1) pa_nil)))))
      (pss_cons (ps_set (i := 4) scChL.nd rfl (.inl rfl) (pe_call GL hr1 rfl gl kl bl .nil pass0 (pa_cons (pv 3) (pa_cons (pe_tup pa_nil) pa_nil))))
      (pss_one (ps_if (pt_cmpR op_notN (pv 4) pe_non (nomark _)) pss_never pss_nil)))))), ?_⟩
    refine ⟨_, rfl, z0, fun p np => ?_⟩
    have m1 := sNew (o := .tup []) (Same.refl H) np
    refine ⟨a, p, ts, [], rfl, ha.same m1, .inr upd_same, W1, (fun x _ h => nomatch h), fun H1 m2 => ?_⟩
    have mm := m1.trans m2
    refine ⟨_, rfl, rfl, _, rfl, iteF ?_⟩
    refine ⟨_, rfl, z0, fun p2 np2 => ?_⟩
    have m3 := sNew (o := .tup []) mm np2
    refine ⟨b, p2, ws, rfl, hb.same m3, .inr upd_same, W2, fun H2 m4 => ?_⟩
    have mm2 := m3.trans m4
    refine ⟨_, rfl, z0, fun p3 np3 => ?_⟩
    have m5 := sNew (o := .tup []) mm2 np3
    refine ⟨_, rfl, c, p3, b, ks, ws, rfl, hc.same m5, .inr upd_same, hb.same m5, W3, no, W2.len, fun H3 m6 => ?_⟩
    have mm3 := m5.trans m6
    refine ⟨_, rfl, z0, fun p4 np4 => ?_⟩
    have m7 := sNew (o := .tup []) mm3 np4
    refine ⟨d, p4, ns, [], rfl, hd.same m7, .inr upd_same, W4, (fun x _ h => nomatch h), fun H4 m8 => ?_⟩
    exact ⟨_, rfl, rfl, _, rfl, iteF (q H4 (m7.trans m8))⟩
end
end K30
set_option Elab.async false
set_option linter.all false
set_option maxRecDepth 100000
set_option maxHeartbeats 2000000
namespace K30
open PySem PySem.Spec PyProof.Rows L2
/-! ### sorted words -/
def order : List Str := ["a", "end", "lib", "m", "n", "open", "q"]
def rank (x : Str) : Nat := order.findIdx fun y => y == x
def canon (xs : List Str) : List Str := order.filter fun y => decide (y ∈ xs)
theorem rank_le : ∀ x ∈ words, ∀ y ∈ words, (!ltCps y.cps.toList x.cps.toList) = decide (rank x ≤ rank y) := by decide +kernel
theorem rank_inj : ∀ x ∈ words, ∀ y ∈ words, rank x = rank y → x = y := by decide +kernel
theorem order_all : ∀ x ∈ words, x ∈ order := by decide +kernel
theorem order_up : order.Pairwise (fun x y => rank x < rank y) := by decide +kernel
theorem order_words : ∀ x ∈ order, x ∈ words := by decide +kernel
theorem canon_mem {xs : List Str} (h : ∀ x ∈ xs, x ∈ words) (x : Str) : x ∈ canon xs ↔ x ∈ xs := by
  unfold canon
  rw [List.mem_filter, decide_eq_true_eq]
  exact ⟨fun h => h.2, fun z => ⟨order_all x (h x z), z⟩⟩
theorem canon_up (xs : List Str) : (canon xs).Pairwise (fun x y => rank x < rank y) := order_up.sublist List.filter_sublist
theorem rising_rank : ∀ (l : List Str) (p : Str), p ∈ words → (∀ x ∈ l, x ∈ words) → risingS p l = true → (p :: l).Pairwise (fun x y => rank x ≤ rank y)
  | [], p, _, _, _ => List.pairwise_singleton _ _
  | x :: r, p, hp, h, e => by
    have e' : (!ltCps x.cps.toList p.cps.toList && risingS x r) = true := e
    obtain ⟨e1, e2⟩ := Bool.and_eq_true_iff.mp e'
    have hx := h x List.mem_cons_self
    have ih := rising_rank r x hx (fun y hy => h y (List.mem_cons_of_mem _ hy)) e2
    rw [rank_le p hp x hx, decide_eq_true_eq] at e1
    refine List.pairwise_cons.mpr ⟨fun y hy => ?_, ih⟩
    rcases List.mem_cons.mp hy with rfl | hy
    · exact e1
    · exact Nat.le_trans e1 ((List.pairwise_cons.mp ih).1 y hy)
theorem sorted_rank {l : List Str} (h : ∀ x ∈ l, x ∈ words) (e : sortedS l = true) : l.Pairwise (fun x y => rank x ≤ rank y) := by
  cases l with
  | nil => exact List.Pairwise.nil
  | cons x r => exact rising_rank r x (h x List.mem_cons_self) (fun y hy => h y (List.mem_cons_of_mem _ hy)) e
theorem up_uniq : ∀ (l m : List Str), l.Pairwise (fun x y => rank x < rank y) → m.Pairwise (fun x y => rank x < rank y) → (∀ x, x ∈ l ↔ x ∈ m) → l = m
  | [], [], _, _, _ => rfl
  | [], y :: m, _, _, h => absurd ((h y).mpr List.mem_cons_self) (by simp)
  | x :: l, [], _, _, h => absurd ((h x).mp List.mem_cons_self) (by simp)
  | x :: l, y :: m, hl, hm, h => by
    obtain ⟨l1, l2⟩ := List.pairwise_cons.mp hl
    obtain ⟨m1, m2⟩ := List.pairwise_cons.mp hm
    have e : x = y := by
      rcases List.mem_cons.mp ((h x).mp List.mem_cons_self) with e | hx
      · exact e
      · rcases List.mem_cons.mp ((h y).mpr List.mem_cons_self) with e | hy
        · exact e.symm
        · have a := m1 x hx
          have b := l1 y hy
          omega
    subst e
    rw [up_uniq l m l2 m2 fun z => ?_]
    have hz := h z
    simp only [List.mem_cons] at hz
    constructor
    · intro q
      rcases hz.mp (.inr q) with e | e
      · have := l1 z q
        rw [e] at this
        omega
      · exact e
    · intro q
      rcases hz.mpr (.inr q) with e | e
      · have := m1 z q
        rw [e] at this
        omega
      · exact e
theorem canon_of {xs ys : List Str} (W : Ws xs) (p : ys.Perm xs) (e : sortedS ys = true) : ys = canon xs := by
  have hy : ∀ y ∈ ys, y ∈ words := fun y h => W.ok y (p.mem_iff.mp h)
  refine up_uniq _ _ ?_ (canon_up xs) fun x => by rw [p.mem_iff, canon_mem W.ok]
  have h1 := sorted_rank hy e
  have nd : ys.Nodup := p.nodup_iff.mpr W.nd
  refine (List.pairwise_and_iff.mpr ⟨h1, nd⟩).imp_of_mem fun {x y} hx hy' z => ?_
  have : rank x ≠ rank y := fun q => z.2 (rank_inj x (hy x hx) y (hy y hy') q)
  have := z.1
  omega
theorem canon_len (xs : List Str) : (canon xs).length ≤ 7 := List.length_filter_le _ _
theorem canon_ws {xs : List Str} (h : ∀ x ∈ xs, x ∈ words) : Ws (canon xs) := ⟨fun x hx => h x ((canon_mem h x).mp hx), (canon_up xs).imp fun {a b} z e => by rw [e] at z; omega⟩
theorem canon_congr {xs ys : List Str} (h : ∀ x, x ∈ xs ↔ x ∈ ys) : canon xs = canon ys := by
  unfold canon
  congr 1
  funext y
  rw [decide_eq_decide]
  exact h y
/-! ### parts and libraries -/
structure Pt where
  tells : List Str
  wants : List Str
  asks : List Str
  needs : List Str
  own : Bool
  stays : Bool
structure PtOk (p : Pt) : Prop where
  tells : Ws p.tells
  wants : Ws p.wants
  asks : Ws p.asks
  needs : Ws p.needs
  apart : ∀ x ∈ p.asks, x ∉ p.wants
def fieldsOf (a b c d : Addr) (p : Pt) : List (Str × V) := [("_tells", .ref a), ("_wants", .ref b), ("_asks", .ref c), ("_needs", .ref d), ("_own_first", .bl p.own), ("_stays", .bl p.stays)]
/-- a library at x that was made of p -/
def LibAt (C : Addr) (H : Hp) (x : Addr) (p : Pt) : Prop := ∃ dx a b c d, H x = some (.ins C dx (fieldsOf a b c d p)) ∧ H a = some (.lst ((canon p.tells).map V.str)) ∧ H b = some (.lst ((canon p.wants).map V.str)) ∧
  H c = some (.lst ((canon p.asks).map V.str)) ∧ H d = some (.lst (p.needs.map V.str))
theorem LibAt.same {C : Addr} {H H' : Hp} {x : Addr} {p : Pt} (h : LibAt C H x p) (m : Same H H') : LibAt C H' x p := by
  obtain ⟨dx, a, b, c, d, h0, h1, h2, h3, h4⟩ := h
  exact ⟨dx, a, b, c, d, m _ _ h0, m _ _ h1, m _ _ h2, m _ _ h3, m _ _ h4⟩
/-- so, and its lists are none of those that stood in H0 -/
def LibNew (C : Addr) (H0 H : Hp) (x : Addr) (p : Pt) : Prop := ∃ dx a b c d, (H0 a = none ∧ H0 b = none ∧ H0 c = none ∧ H0 d = none) ∧ H x = some (.ins C dx (fieldsOf a b c d p)) ∧ H a = some (.lst ((canon p.tells).map V.str)) ∧ H b = some (.lst ((canon p.wants).map V.str)) ∧
  H c = some (.lst ((canon p.asks).map V.str)) ∧ H d = some (.lst (p.needs.map V.str))
theorem LibNew.at {C : Addr} {H0 H : Hp} {x : Addr} {p : Pt} (h : LibNew C H0 H x p) : LibAt C H x p := by
  obtain ⟨dx, a, b, c, d, _, r⟩ := h
  exact ⟨dx, a, b, c, d, r⟩
theorem word_ok : ∀ x ∈ words, PyData.strOk x = true := by decide +kernel
theorem lay_strs : ∀ ns : List Str, (∀ x ∈ ns, x ∈ words) → PyData.canLayAll0 (ns.map PyData.str) = true
  | [], _ => by simp [PyData.canLayAll0]
  | n :: r, h => by simp [PyData.canLayAll0, PyData.canLay0, word_ok n (h n List.mem_cons_self), lay_strs r fun x hx => h x (List.mem_cons_of_mem _ hx)]
theorem deep_strs : ∀ ns : List Str, PyData.depthAll (ns.map PyData.str) ≤ 1
  | [] => by simp [PyData.depthAll]
  | n :: r => by
    have := deep_strs r
    simp only [List.map_cons, PyData.depthAll, PyData.depth]
    omega
theorem shaped_strs (xs : List Str) (hw : ∀ x ∈ xs, x ∈ words) : SeqAt.shaped (.list (xs.map PyData.str)) = true := by
  have h1 := deep_strs xs
  have h2 : PyData.depth (.list (xs.map PyData.str)) ≤ 64 := by simp only [PyData.depth]; omega
  have h3 : PyData.canLay0 (.list (xs.map PyData.str)) = true := by simp only [PyData.canLay0]; exact lay_strs xs hw
  exact Bool.and_eq_true_iff.mpr ⟨h3, decide_eq_true h2⟩
theorem dpStrs {K : PySem.W.Frag} {H : Hp} : ∀ ns : List Str, DpAll K H (ns.map V.str) (ns.map PyData.str)
  | [] => .nil
  | n :: r => .cons (.str n) (dpStrs r)
theorem neStrs {K : PySem.W.Frag} {H : Hp} {a b : Addr} {ns : List Str} {Q : VK} (hw : ∀ x ∈ ns, x ∈ words) (ha : H a = some (.lst (ns.map V.str))) (hb : H b = some (.lst (ns.map V.str))) (q : Q (.bl false) H) : rNeD K (.ref a) (.ref b) H Q := by
  have s := shaped_strs ns hw
  refine ⟨_, _, .lst (.of ha) (dpStrs ns), .lst (.of hb) (dpStrs ns), s, s, ?_⟩
  rw [SeqAt.eqv_refl _ (SeqAt.canLay_of_shaped s)]
  exact q
/-! ### what stays besides one address -/
def Kp (S : Addr) (H H' : Hp) : Prop := ∀ b o, b ≠ S → H b = some o → H' b = some o
theorem Kp.refl (S : Addr) (H : Hp) : Kp S H H := fun _ _ _ h => h
theorem Kp.trans {S : Addr} {H H1 H2 : Hp} (a : Kp S H H1) (b : Kp S H1 H2) : Kp S H H2 := fun c o n h => b c o n (a c o n h)
theorem _root_.L2.Same.kp {S : Addr} {H H' : Hp} (m : Same H H') : Kp S H H' := fun b o _ h => m b o h
theorem Kp.new {S : Addr} {H H' : Hp} {q : Addr} {o : HO} (m : Kp S H H') (h : H' q = none) : Kp S H (upd H' q o) := fun b x n e => by
  have z := m b x n e
  rw [upd_ne (ne_of_none z h)]
  exact z
theorem Kp.own {S : Addr} {H H' : Hp} {q : Addr} {o : HO} (m : Kp S H H') (h : H q = none) : Kp S H (upd H' q o) := fun b x n e => by
  rw [upd_ne (ne_of_none e h)]
  exact m b x n e
theorem Kp.spr {S : Addr} {H H' : Hp} {o : HO} (m : Kp S H H') : Kp S H (upd H' S o) := fun b x n e => by
  rw [upd_ne n]
  exact m b x n e
theorem Kp.free {S : Addr} {H H' : Hp} (m : Kp S H H') {q : Addr} (h : H' q = none) (n : q ≠ S) : H q = none := by
  cases e : H q with
  | none => rfl
  | some o =>
    rw [m q o n e] at h
    cases h
theorem Sq.kp {S : Addr} {H H' : Hp} {a : Addr} {xs : List V} (h : Sq H a xs) (m : Kp S H H') (n : a ≠ S) : Sq H' a xs := h.elim (fun e => .inl (m _ _ n e)) fun e => .inr (m _ _ n e)
/-! ### the class -/
structure ClsOk (K : PySem.W.Frag) (C : Addr) : Prop where
  cl : Cls K C
  n1 : NoAttr K C "_tells"
  n2 : NoAttr K C "_wants"
  n3 : NoAttr K C "_asks"
  n4 : NoAttr K C "_needs"
  n5 : NoAttr K C "_own_first"
  n6 : NoAttr K C "_stays"
  cls : PySem.W.findIn K (.ref C) "__class__" = some (some (.builtin "object.__class__"))
  get : PySem.W.specialIn K (.builtin "object.__class__") "__get__" = some (some (.builtin "getset_descriptor.__get__"))
  tks : PySem.W.takesIn K (.builtin "object.__class__") = some true
  top : PySem.W.mroIn K C (.type "object") = some true
  one : PySem.W.kitOne K (.ref C) (.ref C) = some true
theorem ClsOk.ty {K : PySem.W.Frag} {C x dx : Addr} {H : Hp} {fs : List (Str × V)} (c : ClsOk K C) (h : H x = some (.ins C dx fs)) : TyX K H (.ref x) (.ref C) := .base (.ins h c.cl c.cls c.get c.tks c.top)
def spIni (C : Addr) : Sp := fun vs H Q _ => ∃ (x dx a b c d : Addr) (p : Pt), vs = [.ref x, .ref a, .ref b, .ref c, .ref d, .bl p.own, .bl p.stays] ∧ H x = some (.ins C dx []) ∧ Sq H a (p.tells.map V.str) ∧ Sq H b (p.wants.map V.str) ∧
  Sq H c (p.asks.map V.str) ∧ Sq H d (p.needs.map V.str) ∧ PtOk p ∧ ∀ H', Kp x H H' → LibNew C H H' x p → Q .non H'
def spEqL (C : Addr) : Sp := spEq fun a b H => ∃ p, PtOk p ∧ LibAt C H a p ∧ LibAt C H b p
/-- a reader of a list -/
def spRd (C : Addr) (g : Pt → List Str) : Sp := fun vs H Q _ => ∃ x p, vs = [.ref x] ∧ LibAt C H x p ∧ ∀ l, H l = none → Q (.ref l) (upd H l (.lst ((g p).map V.str)))
def spRb (C : Addr) (g : Pt → Bool) : Sp := fun vs H Q _ => ∃ x p, vs = [.ref x] ∧ LibAt C H x p ∧ Q (.bl (g p)) H
section
variable {P : Program} {w : World} {K : PySem.W.Frag} {mg : Str → Option Value} {base : Heap} {C : Addr}
theorem scTel : FnScope ["self"] ["self"] (defScope sTel) := ⟨rfl, rfl, rfl, by decide +kernel, rfl, by decide +kernel, by decide +kernel⟩
theorem scWan : FnScope ["self"] ["self"] (defScope sWan) := ⟨rfl, rfl, rfl, by decide +kernel, rfl, by decide +kernel, by decide +kernel⟩
theorem scAsk : FnScope ["self"] ["self"] (defScope sAsk) := ⟨rfl, rfl, rfl, by decide +kernel, rfl, by decide +kernel, by decide +kernel⟩
theorem scNee : FnScope ["self"] ["self"] (defScope sNee) := ⟨rfl, rfl, rfl, by decide +kernel, rfl, by decide +kernel, by decide +kernel⟩
theorem scOwn : FnScope ["self"] ["self"] (defScope sOwn) := ⟨rfl, rfl, rfl, by decide +kernel, rfl, by decide +kernel, by decide +kernel⟩
theorem scSta : FnScope ["self"] ["self"] (defScope sSta) := ⟨rfl, rfl, rfl, by decide +kernel, rfl, by decide +kernel, by decide +kernel⟩
theorem ok_tel {f : Addr} {fd : FuncData} (F : Fun K "tells" "Library.tells" sTel f fd) (T : Txt K mg C) (c : ClsOk K C) : FnOk P w K mg base CX0 1 f fd ["self"] (spRd C fun p => canon p.tells) := by
  refine F.ok scTel (fun vs H Q E h => ?_) (fun cdv A outer s H vs Q E hr h => ?_)
  · obtain ⟨x, p, rfl, _⟩ := h
    rfl
  · obtain ⟨x, p, rfl, ⟨dx, a, b, cc, d, h0, h1, h2, h3, h4⟩, q⟩ := h
    refine ⟨_, pss_one (ps_ret (pe_callTy call_list_of (by rfl) T.list boot_list' (pa_cons (pe_fld (pv 0) rfl) pa_nil))), ?_⟩
    exact ⟨_, rfl, x, C, dx, _, _, rfl, h0, c.cl, c.n1, rfl, a, _, rfl, .inl (.of h1), q⟩
theorem ok_wan {f : Addr} {fd : FuncData} (F : Fun K "wants" "Library.wants" sWan f fd) (T : Txt K mg C) (c : ClsOk K C) : FnOk P w K mg base CX0 1 f fd ["self"] (spRd C fun p => canon p.wants) := by
  refine F.ok scWan (fun vs H Q E h => ?_) (fun cdv A outer s H vs Q E hr h => ?_)
  · obtain ⟨x, p, rfl, _⟩ := h
    rfl
  · obtain ⟨x, p, rfl, ⟨dx, a, b, cc, d, h0, h1, h2, h3, h4⟩, q⟩ := h
    refine ⟨_, pss_one (ps_ret (pe_callTy call_list_of (by rfl) T.list boot_list' (pa_cons (pe_fld (pv 0) rfl) pa_nil))), ?_⟩
    exact ⟨_, rfl, x, C, dx, _, _, rfl, h0, c.cl, c.n2, rfl, b, _, rfl, .inl (.of h2), q⟩
theorem ok_ask {f : Addr} {fd : FuncData} (F : Fun K "asks" "Library.asks" sAsk f fd) (T : Txt K mg C) (c : ClsOk K C) : FnOk P w K mg base CX0 1 f fd ["self"] (spRd C fun p => canon p.asks) := by
  refine F.ok scAsk (fun vs H Q E h => ?_) (fun cdv A outer s H vs Q E hr h => ?_)
  · obtain ⟨x, p, rfl, _⟩ := h
    rfl
  · obtain ⟨x, p, rfl, ⟨dx, a, b, cc, d, h0, h1, h2, h3, h4⟩, q⟩ := h
    refine ⟨_, pss_one (ps_ret (pe_callTy call_list_of (by rfl) T.list boot_list' (pa_cons (pe_fld (pv 0) rfl) pa_nil))), ?_⟩
    exact ⟨_, rfl, x, C, dx, _, _, rfl, h0, c.cl, c.n3, rfl, cc, _, rfl, .inl (.of h3), q⟩
theorem ok_nee {f : Addr} {fd : FuncData} (F : Fun K "needs" "Library.needs" sNee f fd) (T : Txt K mg C) (c : ClsOk K C) : FnOk P w K mg base CX0 1 f fd ["self"] (spRd C fun p => p.needs) := by
  refine F.ok scNee (fun vs H Q E h => ?_) (fun cdv A outer s H vs Q E hr h => ?_)
  · obtain ⟨x, p, rfl, _⟩ := h
    rfl
  · obtain ⟨x, p, rfl, ⟨dx, a, b, cc, d, h0, h1, h2, h3, h4⟩, q⟩ := h
    refine ⟨_, pss_one (ps_ret (pe_callTy call_list_of (by rfl) T.list boot_list' (pa_cons (pe_fld (pv 0) rfl) pa_nil))), ?_⟩
    exact ⟨_, rfl, x, C, dx, _, _, rfl, h0, c.cl, c.n4, rfl, d, _, rfl, .inl (.of h4), q⟩
theorem ok_own {f : Addr} {fd : FuncData} (F : Fun K "own_first" "Library.own_first" sOwn f fd) (T : Txt K mg C) (c : ClsOk K C) : FnOk P w K mg base CX0 1 f fd ["self"] (spRb C fun p => p.own) := by
  refine F.ok scOwn (fun vs H Q E h => ?_) (fun cdv A outer s H vs Q E hr h => ?_)
  · obtain ⟨x, p, rfl, _⟩ := h
    rfl
  · obtain ⟨x, p, rfl, ⟨dx, a, b, cc, d, h0, h1, h2, h3, h4⟩, q⟩ := h
    refine ⟨_, pss_one (ps_ret (pe_fld (pv 0) rfl)), ?_⟩
    exact ⟨_, rfl, x, C, dx, _, _, rfl, h0, c.cl, c.n5, rfl, q⟩
theorem ok_sta {f : Addr} {fd : FuncData} (F : Fun K "stays" "Library.stays" sSta f fd) (T : Txt K mg C) (c : ClsOk K C) : FnOk P w K mg base CX0 1 f fd ["self"] (spRb C fun p => p.stays) := by
  refine F.ok scSta (fun vs H Q E h => ?_) (fun cdv A outer s H vs Q E hr h => ?_)
  · obtain ⟨x, p, rfl, _⟩ := h
    rfl
  · obtain ⟨x, p, rfl, ⟨dx, a, b, cc, d, h0, h1, h2, h3, h4⟩, q⟩ := h
    refine ⟨_, pss_one (ps_ret (pe_fld (pv 0) rfl)), ?_⟩
    exact ⟨_, rfl, x, C, dx, _, _, rfl, h0, c.cl, c.n6, rfl, q⟩
theorem scEq : FnScope ["self", "other"] ["self", "other"] (defScope sEq) := ⟨rfl, rfl, rfl, by decide +kernel, rfl, by decide +kernel, by decide +kernel⟩
theorem ok_eq {f : Addr} {fd : FuncData} (F : Fun K "__eq__" "Library.__eq__" sEq f fd) (T : Txt K mg C) (c : ClsOk K C) : FnOk P w K mg base CX0 1 f fd ["self", "other"] (spEqL C) := by
  refine F.ok scEq (fun vs H Q E h => ?_) (fun cdv A outer s H vs Q E hr h => ?_)
  · obtain ⟨x, y, rfl, _⟩ := h
    rfl
  · obtain ⟨x, y, rfl, ⟨p, pk, ⟨dx, a, b, cc, d, h0, h1, h2, h3, h4⟩, ⟨dy, a', b', c', d', g0, g1, g2, g3, g4⟩⟩, q⟩ := h
    refine ⟨_, pss_cons (ps_if (pt_not (pt_val (pe_callB call_isi (by rfl) T.isi boot_isi (pa_cons (pv 1) (pa_cons (pe_glob (v := .ref C) rfl T.gC rfl) pa_nil))))) pss_never pss_nil)
      (pss_cons (ps_if (PW.pt (pw_or (pt_cmpR (op_neD hr.units) (pe_fld (pv 0) rfl) (pe_fld (pv 1) rfl) (nomark _)) (pw_or (pt_cmpR (op_neD hr.units) (pe_fld (pv 0) rfl) (pe_fld (pv 1) rfl) (nomark _)) (pw_or1 (pt_cmpR (op_neD hr.units) (pe_fld (pv 0) rfl) (pe_fld (pv 1) rfl) (nomark _)))))) pss_never pss_nil)
      (pss_cons (ps_if (pt_cmpR (op_neD hr.units) (pe_fld (pv 0) rfl) (pe_fld (pv 1) rfl) (nomark _)) pss_never pss_nil)
      (pss_one (ps_ret (pe_and (pe_cmpR op_eq (pe_fld (pv 0) rfl) (pe_fld (pv 1) rfl) (nomark _)) (pe_one (pe_cmpR op_eq (pe_fld (pv 0) rfl) (pe_fld (pv 1) rfl) (nomark _)))))))), ?_⟩
    refine ⟨_, rfl, _, _, _, _, _, rfl, .own C, c.ty g0, c.one, _, rfl, iteF ?_⟩
    refine ⟨_, rfl, x, C, dx, _, _, rfl, h0, c.cl, c.n1, rfl, _, rfl, y, C, dy, _, _, rfl, g0, c.cl, c.n1, rfl, neStrs (canon_ws pk.tells.ok).ok h1 g1 ⟨_, rfl, iteF ?_⟩⟩
    refine ⟨_, rfl, x, C, dx, _, _, rfl, h0, c.cl, c.n2, rfl, _, rfl, y, C, dy, _, _, rfl, g0, c.cl, c.n2, rfl, neStrs (canon_ws pk.wants.ok).ok h2 g2 ⟨_, rfl, iteF ?_⟩⟩
    refine ⟨_, rfl, x, C, dx, _, _, rfl, h0, c.cl, c.n3, rfl, _, rfl, y, C, dy, _, _, rfl, g0, c.cl, c.n3, rfl, neStrs (canon_ws pk.asks.ok).ok h3 g3 ⟨_, rfl, iteF ?_⟩⟩
    refine ⟨_, rfl, x, C, dx, _, _, rfl, h0, c.cl, c.n4, rfl, _, rfl, y, C, dy, _, _, rfl, g0, c.cl, c.n4, rfl, neStrs pk.needs.ok h4 g4 ⟨_, rfl, iteF ?_⟩⟩
    refine ⟨_, rfl, x, C, dx, _, _, rfl, h0, c.cl, c.n5, rfl, _, rfl, y, C, dy, _, _, rfl, g0, c.cl, c.n5, rfl, rfl, _, rfl, ?_⟩
    rw [show decide (V.bl p.own = V.bl p.own) = true from decide_eq_true rfl]
    refine iteT ⟨_, rfl, x, C, dx, _, _, rfl, h0, c.cl, c.n6, rfl, _, rfl, y, C, dy, _, _, rfl, g0, c.cl, c.n6, rfl, rfl, ?_⟩
    show Q (.bl (decide (V.bl p.stays = V.bl p.stays))) H
    rw [show decide (V.bl p.stays = V.bl p.stays) = true from decide_eq_true rfl]
    exact q H (fun _ _ z => z)
end
end K30
set_option Elab.async false
set_option linter.all false
set_option maxRecDepth 100000
set_option maxHeartbeats 2000000
namespace K30
open PySem PySem.Spec PyProof.Rows L2
def nIni : List Str := ["self", "tells", "wants", "asks", "needs", "own_first", "stays"]
section
variable {P : Program} {w : World} {K : PySem.W.Frag} {mg : Str → Option Value} {base : Heap} {C : Addr}
theorem funD_ok0 {x qual : Str} {params : Arguments} {body : List Stmt} {scope : Scope} {dvs : List V} {f : Addr} {fd : FuncData} {N ps : List Str} {k : Nat} {sp : Sp} (F : FunD K x qual params body scope dvs [] f fd) (S : FnScope N ps scope) (len : ∀ vs H Q E, sp vs H Q E → vs.length = ps.length)
    (hb : ∀ (cdv : Value) (A : Around) (outer : List Env) (s : Shared) (H : Hp) (vs : List V) (Q : VK) (E : XK), Room k (A.deeper (envOfC qual scope s.heap.objs.size f cdv)) → sp vs H Q E →
      ∃ t, PSs (cxOf CX0 P w K mg base N qual scope f cdv A outer s H E).nox body t ∧ t { nx := fun _ H' => Q .non H', rt := Q } (start N vs) H) : FnOk P w K mg base CX0 (k + 1) f fd ps sp := by
  refine F.ok S len fun cdv A outer s H vs Q E hr h => ?_
  obtain ⟨t, h1, q⟩ := hb cdv A outer s H vs Q E hr h
  exact ⟨t, h1.nox, q⟩
theorem scIni : FnScope nIni nIni (defScope sIni) := ⟨rfl, rfl, rfl, by decide +kernel, rfl, by decide +kernel, by decide +kernel⟩
theorem sortA {H : Hp} {a : Addr} {xs : List Str} {Q : VK} (h : Sq H a (xs.map V.str)) (l : xs.length ≤ 7) (q : ∀ (ys : List Str) (p : Addr), ys.Perm xs → sortedS ys = true → H p = none → Q (.ref p) (upd H p (.lst (ys.map V.str)))) :
    rSortedS K [.ref a] H Q ∨ rSortedST K [.ref a] H Q := by
  rcases h with h | h
  · exact .inl ⟨a, xs, rfl, .of h, by omega, q⟩
  · exact .inr ⟨a, xs, rfl, .of h, by omega, q⟩
theorem ok_ini {f : Addr} {fd : FuncData} {dvs : List V} (F : FunD K "__init__" "Library.__init__" (defArgs sIni) (defBody sIni) (defScope sIni) dvs [] f fd) (T : Txt K mg C) (c : ClsOk K C)
    (cl : Cal P w K mg base 5 "check_library" ["tells", "wants", "asks", "needs"] spChL) (cm : Cal P w K mg base 1 "check_mark" ["thing"] spChM) : FnOk P w K mg base CX0 6 f fd nIni (spIni C) := by
  obtain ⟨fl, fdl, GL, gl, kl, bl⟩ := cl.ex
  obtain ⟨fm, fdm, GM, gm, km, bm⟩ := cm.ex
  refine funD_ok0 F scIni (fun vs H Q E h => ?_) (fun cdv A outer s H vs Q E hr h => ?_)
  · obtain ⟨x, dx, a, b, cc, d, p, rfl, _⟩ := h
    rfl
  · obtain ⟨x, dx, a, b, cc, d, p, rfl, hx, ha, hb, hc, hd, pk, q⟩ := h
    have hr1 : Room 1 _ := hr.mono (by decide)
    refine ⟨_, pss_cons (ps_expr (pe_call GL hr rfl gl kl bl .nil pass0 (pa_cons (pv 1) (pa_cons (pv 2) (pa_cons (pv 3) (pa_cons (pv 4) pa_nil))))))
      (pss_cons (ps_expr (pe_call GM hr1 rfl gm km bm .nil pass0 (pa_cons (pv 5) pa_nil)))
      (pss_cons (ps_expr (pe_call GM hr1 rfl gm km bm .nil pass0 (pa_cons (pv 6) pa_nil)))
      (pss_cons (ps_fld (pv 0) (pe_callB cr_sortedSA (by rfl) T.srt boot_srt (pa_cons (pv 1) pa_nil)) rfl)
      (pss_cons (ps_fld (pv 0) (pe_callB cr_sortedSA (by rfl) T.srt boot_srt (pa_cons (pv 2) pa_nil)) rfl)
      (pss_cons (ps_fld (pv 0) (pe_callB cr_sortedSA (by rfl) T.srt boot_srt (pa_cons (pv 3) pa_nil)) rfl)
      (pss_cons (ps_fld (pv 0) (pe_callTy call_list_of (by rfl) T.list boot_list' (pa_cons (pv 4) pa_nil)) rfl)
      (pss_cons (ps_fld (pv 0) (pv 5) rfl)
      (pss_one (ps_fld (pv 0) (pv 6) rfl))))))))), ?_⟩
    refine ⟨_, rfl, _, rfl, _, rfl, _, rfl, a, b, cc, d, _, _, _, _, rfl, ha, hb, hc, hd, pk.tells, pk.wants, pk.asks, pk.needs, pk.apart, fun H1 m1 => ?_⟩
    refine ⟨_, rfl, _, rfl, _, rfl, _, rfl, ?_⟩
    have x1 := m1 _ _ hx
    refine ⟨_, rfl, sortA (ha.same m1) pk.tells.len fun ys a1 p1 e1 n1 => ?_⟩
    rw [canon_of pk.tells p1 e1]
    have x2 : (upd H1 a1 (.lst ((canon p.tells).map V.str))) x = some (.ins C dx []) := by rw [upd_ne (ne_of_none x1 n1)]; exact x1
    refine ⟨_, rfl, x, C, dx, _, rfl, x2, c.cl, c.n1, by decide, ?_⟩
    have m2 : Kp x H (upd (upd H1 a1 (.lst ((canon p.tells).map V.str))) x (.ins C dx (putF "_tells" (.ref a1) []))) := (sNew m1 n1).kp.spr
    have g1 : (upd (upd H1 a1 (.lst ((canon p.tells).map V.str))) x (.ins C dx (putF "_tells" (.ref a1) []))) a1 = some (.lst ((canon p.tells).map V.str)) := by rw [upd_ne (ne_of_none x1 n1).symm]; exact upd_same
    have x3 : (upd (upd H1 a1 (.lst ((canon p.tells).map V.str))) x (.ins C dx (putF "_tells" (.ref a1) []))) x = some (.ins C dx (putF "_tells" (.ref a1) [])) := upd_same
    have nxa : ∀ {y : Addr} {ys : List V}, Sq H y ys → y ≠ x := fun h e => by
      subst e
      rcases h with h | h <;> rw [hx] at h <;> cases h
    generalize upd (upd H1 a1 (.lst ((canon p.tells).map V.str))) x (.ins C dx (putF "_tells" (.ref a1) [])) = H2 at m2 g1 x3
    refine ⟨_, rfl, sortA (hb.kp m2 (nxa hb)) pk.wants.len fun ys a2 p2 e2 n2 => ?_⟩
    rw [canon_of pk.wants p2 e2]
    refine ⟨_, rfl, x, C, dx, _, rfl, (by rw [upd_ne (ne_of_none x3 n2)]; exact x3), c.cl, c.n2, (by show (1 : Nat) < 1000; decide), ?_⟩
    have na1 : a1 ≠ x := (ne_of_none x1 n1).symm
    have na2 : a2 ≠ x := (ne_of_none x3 n2).symm
    have u2 := m2.free n2 na2
    have m3 := (m2.new (o := .lst ((canon p.wants).map V.str)) n2).spr (o := .ins C dx (putF "_wants" (.ref a2) (putF "_tells" (.ref a1) [])))
    have g1' : (upd (upd H2 a2 (.lst ((canon p.wants).map V.str))) x (.ins C dx (putF "_wants" (.ref a2) (putF "_tells" (.ref a1) [])))) a1 = some (.lst ((canon p.tells).map V.str)) := by
      rw [upd_ne na1, upd_ne (ne_of_none g1 n2)]
      exact g1
    have g2 : (upd (upd H2 a2 (.lst ((canon p.wants).map V.str))) x (.ins C dx (putF "_wants" (.ref a2) (putF "_tells" (.ref a1) [])))) a2 = some (.lst ((canon p.wants).map V.str)) := by rw [upd_ne na2]; exact upd_same
    have x4 : (upd (upd H2 a2 (.lst ((canon p.wants).map V.str))) x (.ins C dx (putF "_wants" (.ref a2) (putF "_tells" (.ref a1) [])))) x = some (.ins C dx (putF "_wants" (.ref a2) (putF "_tells" (.ref a1) []))) := upd_same
    generalize upd (upd H2 a2 (.lst ((canon p.wants).map V.str))) x (.ins C dx (putF "_wants" (.ref a2) (putF "_tells" (.ref a1) []))) = H3 at m3 g1' g2 x4
    clear m2 g1 x3
    refine ⟨_, rfl, sortA (hc.kp m3 (nxa hc)) pk.asks.len fun ys a3 p3 e3 n3 => ?_⟩
    rw [canon_of pk.asks p3 e3]
    refine ⟨_, rfl, x, C, dx, _, rfl, (by rw [upd_ne (ne_of_none x4 n3)]; exact x4), c.cl, c.n3, (by show (2 : Nat) < 1000; decide), ?_⟩
    have na3 : a3 ≠ x := (ne_of_none x4 n3).symm
    have u3 := m3.free n3 na3
    have m4 := (m3.new (o := .lst ((canon p.asks).map V.str)) n3).spr (o := .ins C dx (putF "_asks" (.ref a3) (putF "_wants" (.ref a2) (putF "_tells" (.ref a1) []))))
    have h1 : (upd (upd H3 a3 (.lst ((canon p.asks).map V.str))) x (.ins C dx (putF "_asks" (.ref a3) (putF "_wants" (.ref a2) (putF "_tells" (.ref a1) []))))) a1 = some (.lst ((canon p.tells).map V.str)) := by
      rw [upd_ne na1, upd_ne (ne_of_none g1' n3)]
      exact g1'
    have h2 : (upd (upd H3 a3 (.lst ((canon p.asks).map V.str))) x (.ins C dx (putF "_asks" (.ref a3) (putF "_wants" (.ref a2) (putF "_tells" (.ref a1) []))))) a2 = some (.lst ((canon p.wants).map V.str)) := by
      rw [upd_ne na2, upd_ne (ne_of_none g2 n3)]
      exact g2
    have h3 : (upd (upd H3 a3 (.lst ((canon p.asks).map V.str))) x (.ins C dx (putF "_asks" (.ref a3) (putF "_wants" (.ref a2) (putF "_tells" (.ref a1) []))))) a3 = some (.lst ((canon p.asks).map V.str)) := by rw [upd_ne na3]; exact upd_same
    have x5 : (upd (upd H3 a3 (.lst ((canon p.asks).map V.str))) x (.ins C dx (putF "_asks" (.ref a3) (putF "_wants" (.ref a2) (putF "_tells" (.ref a1) []))))) x = some (.ins C dx (putF "_asks" (.ref a3) (putF "_wants" (.ref a2) (putF "_tells" (.ref a1) [])))) := upd_same
    generalize upd (upd H3 a3 (.lst ((canon p.asks).map V.str))) x (.ins C dx (putF "_asks" (.ref a3) (putF "_wants" (.ref a2) (putF "_tells" (.ref a1) [])))) = H4 at m4 h1 h2 h3 x5
    clear m3 g1' g2 x4
    refine ⟨_, rfl, d, _, rfl, (hd.kp m4 (nxa hd)).seq, fun a4 n4 => ?_⟩
    have na4 : a4 ≠ x := (ne_of_none x5 n4).symm
    have k0 : (upd H4 a4 (.lst (p.needs.map V.str))) x = some (.ins C dx (putF "_asks" (.ref a3) (putF "_wants" (.ref a2) (putF "_tells" (.ref a1) [])))) := by rw [upd_ne na4.symm]; exact x5
    refine ⟨_, rfl, x, C, dx, _, rfl, k0, c.cl, c.n4, (by show (3 : Nat) < 1000; decide), ?_⟩
    refine ⟨_, rfl, _, rfl, x, C, dx, _, rfl, upd_same, c.cl, c.n5, (by show (4 : Nat) < 1000; decide), ?_⟩
    refine ⟨_, rfl, _, rfl, x, C, dx, _, rfl, upd_same, c.cl, c.n6, (by show (5 : Nat) < 1000; decide), ?_⟩
    refine q _ (((m4.new n4).spr).spr.spr) ⟨dx, a1, a2, a3, a4, ⟨Same.free m1 n1, u2, u3, m4.free n4 na4⟩, upd_same, ?_, ?_, ?_, ?_⟩
    · rw [upd_ne na1, upd_ne na1, upd_ne na1, upd_ne (ne_of_none h1 n4)]
      exact h1
    · rw [upd_ne na2, upd_ne na2, upd_ne na2, upd_ne (ne_of_none h2 n4)]
      exact h2
    · rw [upd_ne na3, upd_ne na3, upd_ne na3, upd_ne (ne_of_none h3 n4)]
      exact h3
    · rw [upd_ne na4, upd_ne na4, upd_ne na4]
      exact upd_same
end
end K30
set_option Elab.async false
set_option linter.all false
set_option maxRecDepth 100000
set_option maxHeartbeats 2000000
namespace K30
open PySem PySem.Spec PyProof.Rows L2
abbrev sChB : Stmt := top 21
abbrev sRef : Stmt := top 22
abbrev sBin : Stmt := top 23
abbrev sOne' : Stmt := top 24
abbrev sBar : Stmt := top 25
abbrev sMer : Stmt := top 26
/-! ### lists of libraries -/
def Libs (C : Addr) (H : Hp) (xs : List V) (ps : List Pt) : Prop := xs.length = ps.length ∧ ∀ (i : Nat) (v : V) (p : Pt), xs[i]? = some v → ps[i]? = some p → ∃ x, v = .ref x ∧ LibAt C H x p
theorem Libs.same {C : Addr} {H H' : Hp} {xs : List V} {ps : List Pt} (h : Libs C H xs ps) (m : Same H H') : Libs C H' xs ps := ⟨h.1, fun i v p a b => by
  obtain ⟨x, e, l⟩ := h.2 i v p a b
  exact ⟨x, e, l.same m⟩⟩
theorem Libs.at {C : Addr} {H : Hp} {xs : List V} {ps : List Pt} (h : Libs C H xs ps) {i : Nat} {v : V} (e : xs[i]? = some v) : ∃ p x, ps[i]? = some p ∧ v = .ref x ∧ LibAt C H x p := by
  have l : i < ps.length := by
    rw [← h.1]
    exact (List.getElem?_eq_some_iff.mp e).1
  obtain ⟨x, e1, e2⟩ := h.2 i v _ e (List.getElem?_eq_getElem l)
  exact ⟨ps[i], x, List.getElem?_eq_getElem l, e1, e2⟩
theorem Libs.get {C : Addr} {H : Hp} {xs : List V} {ps : List Pt} (h : Libs C H xs ps) {i : Nat} {p : Pt} (e : ps[i]? = some p) : ∃ x, xs[i]? = some (.ref x) ∧ LibAt C H x p := by
  have l : i < xs.length := by
    rw [h.1]
    exact (List.getElem?_eq_some_iff.mp e).1
  obtain ⟨x, e1, e2⟩ := h.2 i _ p (List.getElem?_eq_getElem l) e
  exact ⟨x, by rw [List.getElem?_eq_getElem l, e1], e2⟩
theorem Libs.take {C : Addr} {H : Hp} {xs : List V} {ps : List Pt} (h : Libs C H xs ps) (k : Nat) : Libs C H (xs.take k) (ps.take k) := by
  refine ⟨by simp [h.1], fun i v p a b => ?_⟩
  rw [List.getElem?_take] at a b
  split at a
  · rename_i c
    rw [if_pos c] at b
    exact h.2 i v p a b
  · cases a
/-! ### either of two ways -/
theorem pi_or {X : Cx} {tg e : Expr} {w1 w2 : TI} (h1 : PI X tg e w1) (h2 : PI X tg e w2) : PI X tg e (fun σ H R => w1 σ H R ∨ w2 σ H R) :=
  ⟨fun pins s σ H R I h => h.elim (h1.run pins s σ H R I) (h2.run pins s σ H R I)⟩
def iSeq (K : PySem.W.Frag) (te : TE) : TI := fun σ H R => iList K te σ H R ∨ iTup K te σ H R
theorem pi_seq {X : Cx} {tg e : Expr} {te : TE} (h : PE X e te) : PI X tg e (iSeq X.K te) := pi_or (pi_list h) (pi_tup h)
theorem seq_it {K : PySem.W.Frag} {i : Nat} {σ : L2.St} {H : Hp} {R : It → Hp → Prop} {a : Addr} {xs : List V} (e : σ[i]? = some (some (.ref a))) (h : Sq H a xs) (k : ∀ J, Walk J xs.length (fun H' => Same H H') (YAt xs) → R J H) : iSeq K (tVar i) σ H R := by
  rcases h with h | h
  · exact .inl ⟨_, e, a, rfl, ⟨xs, .of h⟩, k _ (walk_list.mono (fun H' m => .of (m _ _ h)) fun _ _ _ _ _ _ y => y)⟩
  · exact .inr ⟨_, e, a, rfl, ⟨xs, .of h⟩, k _ (walk_tup.mono (fun H' m => .of (m _ _ h)) fun _ _ _ _ _ _ y => y)⟩
def rSlA (K : PySem.W.Frag) : V → Option Int → Option Int → Hp → VK → Prop := fun x lo hi H Q => rSlL K x lo hi H Q ∨ rSlT K x lo hi H Q
theorem sl_any {X : Cx} : SlR X (rSlA X.K) := by
  intro pins s σ H x v vl vu lo hi sl Q I rx hs pl pu h
  rcases h with h | h
  · exact sl_list pins s σ H x v vl vu lo hi sl Q I rx hs pl pu h
  · exact sl_tup pins s σ H x v vl vu lo hi sl Q I rx hs pl pu h
def rIxA (K : PySem.W.Frag) : V → V → Hp → VK → Prop := fun x y H Q => rIxL K x y H Q ∨ rIxT K x y H Q
theorem ix_any {X : Cx} : IxR X (rIxA X.K) := ix_list.or ix_tup
theorem ixSq {K : PySem.W.Frag} {H : Hp} {a : Addr} {xs : List V} {j : Nat} {v : V} {Q : VK} (h : Sq H a xs) (e : xs[j]? = some v) (q : Q v H) : rIxA K (.ref a) (.int (j : Nat)) H Q := by
  rcases h with h | h
  · exact .inl ⟨a, xs, _, v, rfl, rfl, .of h, atI_nat e, q⟩
  · exact .inr ⟨a, xs, _, v, rfl, rfl, .of h, atI_nat e, q⟩
theorem cut_to (xs : List V) (k : Nat) : cutV xs none (some (k : Int)) = xs.take k := by
  unfold cutV
  rw [HT.sIx_none, HT.sIx_nat, List.drop_zero, Nat.sub_zero]
  by_cases h : k ≤ xs.length
  · rw [Nat.min_eq_left h]
  · rw [Nat.min_eq_right (by omega), List.take_of_length_le (Nat.le_refl _), List.take_of_length_le (by omega)]
/-! ### what the program tells -/
def refs1 (p : Pt) : List Str := canon (canon p.wants ++ canon p.asks)
def refsFrom (i : Nat) : List Pt → List (Nat × Str)
  | [] => []
  | p :: r => ((refs1 p).map fun n => (i, n)) ++ refsFrom (i + 1) r
def bi (p : Pt) (n : Str) : Bool := p.own && decide (n ∈ canon p.tells)
def told (ps : List Pt) (n : Str) : Bool := ps.any fun p => decide (n ∈ canon p.tells)
theorem refsFrom_take (ps : List Pt) : ∀ (k : Nat), refsFrom k ps = refsFrom k ps := fun _ => rfl
theorem refsFrom_snoc : ∀ (ps : List Pt) (i : Nat) (p : Pt), refsFrom i (ps ++ [p]) = refsFrom i ps ++ (refs1 p).map fun n => (i + ps.length, n)
  | [], i, p => by simp [refsFrom]
  | q :: r, i, p => by
    show ((refs1 q).map fun n => (i, n)) ++ refsFrom (i + 1) (r ++ [p]) = ((refs1 q).map fun n => (i, n)) ++ refsFrom (i + 1) r ++ _
    rw [refsFrom_snoc r (i + 1) p, List.append_assoc]
    have e : i + 1 + r.length = i + (q :: r).length := by simp; omega
    rw [e]
theorem refs1_len (p : Pt) : (refs1 p).length ≤ 7 := canon_len _
theorem refsFrom_len : ∀ (ps : List Pt) (i : Nat), (refsFrom i ps).length ≤ 7 * ps.length
  | [], i => by simp [refsFrom]
  | p :: r, i => by
    have h1 := refs1_len p
    have h2 := refsFrom_len r (i + 1)
    simp only [refsFrom, List.length_append, List.length_map, List.length_cons]
    omega
/-- tuples (at, name) -/
def Rfs (H : Hp) (xs : List V) (rs : List (Nat × Str)) : Prop := xs.length = rs.length ∧ ∀ (k : Nat) (v : V) (r : Nat × Str), xs[k]? = some v → rs[k]? = some r → ∃ t, v = .ref t ∧ H t = some (.tup [.int (r.1 : Nat), .str r.2])
theorem Rfs.same {H H' : Hp} {xs : List V} {rs : List (Nat × Str)} (h : Rfs H xs rs) (m : Same H H') : Rfs H' xs rs := ⟨h.1, fun k v r a b => by
  obtain ⟨t, e, q⟩ := h.2 k v r a b
  exact ⟨t, e, m _ _ q⟩⟩
theorem Rfs.at {H : Hp} {xs : List V} {rs : List (Nat × Str)} (h : Rfs H xs rs) {k : Nat} {v : V} (e : xs[k]? = some v) : ∃ r t, rs[k]? = some r ∧ v = .ref t ∧ H t = some (.tup [.int (r.1 : Nat), .str r.2]) := by
  have l : k < rs.length := by
    rw [← h.1]
    exact (List.getElem?_eq_some_iff.mp e).1
  obtain ⟨t, e1, e2⟩ := h.2 k v _ e (List.getElem?_eq_getElem l)
  exact ⟨rs[k], t, List.getElem?_eq_getElem l, e1, e2⟩
theorem Rfs.nil {H : Hp} : Rfs H [] [] := ⟨rfl, fun k v r a _ => by simp at a⟩
theorem Rfs.app {H : Hp} {xs ys : List V} {rs ss : List (Nat × Str)} (h : Rfs H xs rs) (g : Rfs H ys ss) : Rfs H (xs ++ ys) (rs ++ ss) := by
  refine ⟨by simp [h.1, g.1], fun k v r a b => ?_⟩
  by_cases c : k < xs.length
  · rw [List.getElem?_append_left c] at a
    rw [List.getElem?_append_left (by rw [← h.1]; exact c)] at b
    exact h.2 k v r a b
  · rw [List.getElem?_append_right (by omega)] at a
    rw [List.getElem?_append_right (by rw [← h.1]; omega), ← h.1] at b
    exact g.2 _ v r a b
theorem Rfs.one {H : Hp} {t : Addr} {r : Nat × Str} (e : H t = some (.tup [.int (r.1 : Nat), .str r.2])) : Rfs H [.ref t] [r] := ⟨rfl, fun k v q a b => by
  cases k with
  | zero =>
    simp at a b
    exact ⟨t, a.symm, by rw [← b]; exact e⟩
  | succ k => simp at a⟩
/-! ### promises -/
def Given (C : Addr) (H : Hp) (a : Addr) (ps : List Pt) : Prop := ∃ xs, Sq H a xs ∧ Libs C H xs ps ∧ (∀ p ∈ ps, PtOk p) ∧ ps.length ≤ 7
theorem Given.same {C : Addr} {H H' : Hp} {a : Addr} {ps : List Pt} (h : Given C H a ps) (m : Same H H') : Given C H' a ps := by
  obtain ⟨xs, h1, h2, h3⟩ := h
  exact ⟨xs, h1.same m, h2.same m, h3⟩
def spChB (C : Addr) : Sp := fun vs H Q _ => ∃ a ps, vs = [.ref a] ∧ Given C H a ps ∧ ps ≠ [] ∧ ∀ H', Same H H' → Q .non H'
def spRef (C : Addr) : Sp := fun vs H Q _ => ∃ a ps, vs = [.ref a] ∧ Given C H a ps ∧ ∀ H' l xs, Same H H' → H l = none → H' l = some (.lst xs) → Rfs H' xs (refsFrom 0 ps) → Q (.ref l) H'
def spBin (C : Addr) : Sp := fun vs H Q _ => ∃ x n p, vs = [.ref x, .str n] ∧ LibAt C H x p ∧ ∀ H', Same H H' → Q (.bl (bi p n)) H'
def spOneT (C : Addr) : Sp := fun vs H Q _ => ∃ a n ps, vs = [.ref a, .str n] ∧ Given C H a ps ∧ ∀ H', Same H H' → Q (.bl (told ps n)) H'
/-- the class as it is made and read -/
structure Lib (P : Program) (w : World) (K : PySem.W.Frag) (mg : Str → Option Value) (base : Heap) (C : Addr) : Prop where
  ok : ClsOk K C
  tells : ∃ f fd, Meth K C "tells" f ∧ FnOk P w K mg base CX0 1 f fd ["self"] (spRd C fun p => canon p.tells) ∧ Binds K fd ["self"] []
  wants : ∃ f fd, Meth K C "wants" f ∧ FnOk P w K mg base CX0 1 f fd ["self"] (spRd C fun p => canon p.wants) ∧ Binds K fd ["self"] []
  asks : ∃ f fd, Meth K C "asks" f ∧ FnOk P w K mg base CX0 1 f fd ["self"] (spRd C fun p => canon p.asks) ∧ Binds K fd ["self"] []
  needs : ∃ f fd, Meth K C "needs" f ∧ FnOk P w K mg base CX0 1 f fd ["self"] (spRd C fun p => p.needs) ∧ Binds K fd ["self"] []
  own : ∃ f fd, Meth K C "own_first" f ∧ FnOk P w K mg base CX0 1 f fd ["self"] (spRb C fun p => p.own) ∧ Binds K fd ["self"] []
  stays : ∃ f fd, Meth K C "stays" f ∧ FnOk P w K mg base CX0 1 f fd ["self"] (spRb C fun p => p.stays) ∧ Binds K fd ["self"] []
  eq : ∃ f fd, NeCls K C f ∧ FnOk P w K mg base CX0 1 f fd ["self", "other"] (spEqL C) ∧ Binds K fd ["self", "other"] []
  init : ∃ f fd, Mk K C f ∧ FnOk P w K mg base CX0 6 f fd nIni (spIni C) ∧ Binds K fd nIni []
section
variable {P : Program} {w : World} {K : PySem.W.Frag} {mg : Str → Option Value} {base : Heap} {C : Addr}
theorem LibAt.ins {C : Addr} {H : Hp} {x : Addr} {p : Pt} (h : LibAt C H x p) : ∃ dx fs, H x = some (.ins C dx fs) ∧ ∀ m : Str, m ∈ (["tells", "wants", "asks", "needs", "own_first", "stays"] : List Str) → fs.lookup m = none := by
  obtain ⟨dx, a, b, c, d, h0, _⟩ := h
  refine ⟨dx, _, h0, fun m hm => ?_⟩
  unfold fieldsOf
  simp only [List.mem_cons, List.not_mem_nil, or_false] at hm
  rcases hm with rfl | rfl | rfl | rfl | rfl | rfl <;> rfl
theorem scChB : FnScope ["libraries", "index", "library"] ["libraries"] (defScope sChB) := ⟨rfl, rfl, rfl, by decide +kernel, rfl, by decide +kernel, by decide +kernel⟩
theorem ok_chb {f : Addr} {fd : FuncData} (F : Fun K "check_libraries" "check_libraries" sChB f fd) (T : Txt K mg C) (L : Lib P w K mg base C) (cl : Cal P w K mg base 1 "is_list" ["thing"] spLst) : FnOk P w K mg base CX0 2 f fd ["libraries"] (spChB C) := by
  obtain ⟨fl, fdl, GL, gl, kl, bl⟩ := cl.ex
  refine F.ok scChB (fun vs H Q E h => ?_) (fun cdv A outer s H vs Q E hr h => ?_)
  · obtain ⟨a, ps, rfl, _⟩ := h
    rfl
  · obtain ⟨a, ps, rfl, ⟨xs, ha, hL, _⟩, ne, q⟩ := h
    refine ⟨_, pss_cons (ps_if (PW.pt (pw_or (pt_not (pt_val (pe_call GL hr rfl gl kl bl .nil pass0 (pa_cons (pv 0) pa_nil)))) (pw_or1 (pt_cmpR op_eq (pe_callB call_len_seq (by rfl) T.len PySem.boot_len (pa_cons (pv 0) pa_nil)) pe_int (nomark _))))) pss_never pss_nil)
      (pss_one (ps_for PassesOwn.never rfl (pi_enumA (by rfl) T.enu (pa_cons (pv 0) pa_nil)) (pg_tup rfl (pgs_cons (pg_name (i := 1) scChB.nd rfl (.inl rfl)) (pgs_cons (pg_name (i := 2) scChB.nd rfl (.inl rfl)) pgs_nil)))
        (pss_one (ps_if (pt_not (pt_val (pe_callB call_isi (by rfl) T.isi boot_isi (pa_cons (pv 2) (pa_cons (pe_glob (v := .ref C) rfl T.gC rfl) pa_nil))))) pss_never pss_nil)))), ?_⟩
    refine ⟨_, rfl, a, xs, rfl, ha, fun H1 m1 => ⟨_, rfl, iteF ?_⟩⟩
    refine ⟨_, rfl, a, xs, rfl, (ha.same m1).seq, rfl, _, rfl, ?_⟩
    have e : decide (V.int ((xs.length : Nat) : Int) = V.int 0) = false := decide_eq_false fun z => by
      injection z with z
      have : xs.length = 0 := by omega
      rw [hL.1] at this
      exact ne (List.eq_nil_of_length_eq_zero this)
    rw [e]
    refine iteF ⟨_, rfl, a, xs, rfl, ha.same m1, fun J jj => ?_⟩
    refine for_it (walkEn ha m1 jj) (fun i σ H' => Same H H' ∧ ∃ u v, σ = [some (.ref a), u, v]) ⟨m1, none, none, rfl⟩ (fun i σ H' _ z => z.1) ?_ (fun σ H' z => q H' z.1)
    rintro i x σ H2 H3 hi ⟨m2, u, v, rfl⟩ ⟨T1, x1, x2, rfl, nT, rfl, f1, f2⟩
    cases f1
    obtain ⟨p, y, _, rfl, lb⟩ := (hL.same m2).at f2
    have m3 := sNew (o := .tup [.int (i : Nat), .ref y]) (Same.refl H2) nT
    obtain ⟨dx, fs, e0, _⟩ := (lb.same m3).ins
    refine ⟨T1, _, rfl, .of upd_same, rfl, _, _, rfl, _, _, rfl, rfl, ?_⟩
    exact ⟨_, rfl, _, _, _, _, _, rfl, .own C, L.ok.ty e0, L.ok.one, _, rfl, iteF ⟨m2.trans m3, _, _, rfl⟩⟩
theorem scBin : FnScope ["library", "name"] ["library", "name"] (defScope sBin) := ⟨rfl, rfl, rfl, by decide +kernel, rfl, by decide +kernel, by decide +kernel⟩
theorem ok_bin {f : Addr} {fd : FuncData} (F : Fun K "binds_itself" "binds_itself" sBin f fd) (T : Txt K mg C) (L : Lib P w K mg base C) : FnOk P w K mg base CX0 2 f fd ["library", "name"] (spBin C) := by
  obtain ⟨fo, fdo, mo, Go, bo⟩ := L.own
  obtain ⟨ft, fdt, mt, Gt, bt⟩ := L.tells
  refine F.ok scBin (fun vs H Q E h => ?_) (fun cdv A outer s H vs Q E hr h => ?_)
  · obtain ⟨x, n, p, rfl, _⟩ := h
    rfl
  · obtain ⟨x, n, p, rfl, lb, q⟩ := h
    obtain ⟨dx, fs, e0, no⟩ := lb.ins
    refine ⟨_, pss_one (ps_ret (pe_and (pe_meth0 (pv 0) L.ok.cl mo Go hr bo .nil pass0) (pe_one (pe_cmpR op_in_seq (pv 1) (pe_meth0 (pv 0) L.ok.cl mt Gt hr bt .nil pass0) (by rfl))))), ?_⟩
    refine ⟨_, rfl, x, dx, fs, rfl, e0, no _ (by decide), x, p, rfl, lb, _, rfl, ?_⟩
    unfold bi at q
    refine ite2 (fun o => ?_) (fun o => ?_)
    case _ =>
      have o' : p.own = true := o
      rw [o'] at q
      refine ⟨_, rfl, _, rfl, x, dx, fs, rfl, e0, no _ (by decide), x, p, rfl, lb, fun l nl => ?_⟩
      refine ⟨l, _, rfl, .inl (.of upd_same), rfl, flat_strs _, ?_⟩
      show Q (.bl (inV (.str n) ((canon p.tells).map V.str))) _
      rw [in_strs]
      exact q _ (sNew (Same.refl H) nl)
    case _ =>
      have o' : p.own = false := by
        cases e : p.own
        · rfl
        · exact absurd e o
      rw [o'] at q
      exact q H (Same.refl H)
theorem scOneT : FnScope ["libraries", "name", "library"] ["libraries", "name"] (defScope sOne') := ⟨rfl, rfl, rfl, by decide +kernel, rfl, by decide +kernel, by decide +kernel⟩
theorem told_map (ps : List Pt) (n : Str) : (ps.map fun p => decide (n ∈ canon p.tells)).any id = told ps n := by
  rw [List.any_map]
  rfl
theorem ok_onet {f : Addr} {fd : FuncData} (F : Fun K "tells_one" "tells_one" sOne' f fd) (T : Txt K mg C) (L : Lib P w K mg base C) : FnOk P w K mg base CX0 2 f fd ["libraries", "name"] (spOneT C) := by
  obtain ⟨ft, fdt, mt, Gt, bt⟩ := L.tells
  refine F.ok scOneT (fun vs H Q E h => ?_) (fun cdv A outer s H vs Q E hr h => ?_)
  · obtain ⟨a, n, ps, rfl, _⟩ := h
    rfl
  · obtain ⟨a, n, ps, rfl, ⟨xs, ha, hL, pk, l7⟩, q⟩ := h
    refine ⟨_, pss_one (ps_ret (pe_callB (cr_any rfl) (by rfl) T.any boot_any' (pa_cons
      (pe_lc (own := [("library", 2)]) (g := gName 2) (tt := tYes) (te := tOp (rIn K false) (tVar 1) (tMeth C "tells" (spRd C fun p => canon p.tells) [] E0 (tVar 2) tNil)) rfl scOneT.nd (pi_seq (pv 0)) (blkOk_by (N := ["libraries", "name", "library"]) (sc := defScope sOne') (by decide +kernel))
        (fun _ _ _ _ _ => pg_name (i := 2) scOneT.nd rfl (.inl rfl)) (fun _ _ _ _ _ => pts_nil)
        (fun _ _ _ _ _ => by exact pe_cmpR op_in_seq (pv 1) (pe_meth0 (pv 2) L.ok.cl mt Gt hr bt .nil pass0) (by rfl))) pa_nil))), ?_⟩
    refine seq_it rfl ha fun J W => fun D nD => ?_
    refine lc_it W (fun i H' => Same H H' ∧ H' D = some (.lst (((ps.map fun p => decide (n ∈ canon p.tells)).take i).map V.bl))) ⟨sNew (Same.refl H) nD, upd_same⟩ (fun i H' _ z => z.1) ?_ ?_
    · rintro i v H1 H2 hi ⟨m1, eD⟩ ⟨rfl, hv⟩
      obtain ⟨p, x, hp, rfl, lb⟩ := (hL.same m1).at hv
      obtain ⟨dx, fs, e0, no⟩ := lb.ins
      have il : i < ps.length := (List.getElem?_eq_some_iff.mp hp).1
      refine ⟨rfl, _, rfl, _, rfl, x, dx, fs, rfl, e0, no _ (by decide), x, p, rfl, lb, fun l nl => ?_⟩
      have ne := ne_of_none eD nl
      refine ⟨l, _, rfl, .inl (.of upd_same), rfl, flat_strs _, _, (by rw [upd_ne ne]; exact eD), ?_, ?_, ?_⟩
      · rw [List.length_map, List.length_take]
        exact Nat.lt_of_lt_of_le (show min i _ < 8 by omega) (by decide)
      · exact sOwn' (sNew m1 nl) nD
      · rw [upd_same]
        show some (HO.lst (_ ++ [V.bl (inV (.str n) ((canon p.tells).map V.str))])) = _
        rw [in_strs, List.take_add_one, List.getElem?_map, hp, List.map_append]
        rfl
    · rintro H1 ⟨m1, eD⟩
      rw [hL.1, List.take_of_length_le (by simp)] at eD
      refine ⟨D, _, rfl, .of eD, ?_⟩
      rw [told_map]
      exact q _ m1
def nRef : List Str := ["libraries", "pairs", "at", "library", "name"]
theorem scRef : FnScope nRef ["libraries"] (defScope sRef) := ⟨rfl, rfl, rfl, by decide +kernel, rfl, by decide +kernel, by decide +kernel⟩
end
end K30
set_option Elab.async false
set_option linter.all false
set_option maxRecDepth 100000
set_option maxHeartbeats 2000000
namespace K30
open PySem PySem.Spec PyProof.Rows L2
theorem refs_lt : ∀ (ps : List Pt) (i : Nat), ∀ r ∈ refsFrom i ps, i ≤ r.1 ∧ r.1 < i + ps.length
  | [], i, r, h => by simp [refsFrom] at h
  | p :: q, i, r, h => by
    simp only [refsFrom, List.mem_append, List.mem_map] at h
    rcases h with ⟨n, _, rfl⟩ | h
    · simp
    · have := refs_lt q (i + 1) r h
      simp
      omega
theorem refs1_of {p : Pt} (k : PtOk p) {ys : List Str} (h : ys.Perm (canon p.wants ++ canon p.asks)) (e : sortedS ys = true) : ys = refs1 p := by
  refine canon_of ⟨fun x hx => ?_, ?_⟩ h e
  · rcases List.mem_append.mp hx with h | h
    · exact (canon_ws k.wants.ok).ok x h
    · exact (canon_ws k.asks.ok).ok x h
  · refine List.nodup_append.mpr ⟨(canon_ws k.wants.ok).nd, (canon_ws k.asks.ok).nd, fun a ha b hb e => ?_⟩
    subst e
    exact k.apart a ((canon_mem k.asks.ok a).mp hb) ((canon_mem k.wants.ok a).mp ha)
/-! ### bars -/
inductive Bar where
  | none
  | two (r : Nat × Str)
  | mixed (r s : Nat × Str)
def pAt (ps : List Pt) (i : Nat) : Pt := ps.getD i ⟨[], [], [], [], false, false⟩
def twoAt (ps : List Pt) (r : Nat × Str) : Bool := bi (pAt ps r.1) r.2 && told (ps.take r.1) r.2
def ownAt (ps : List Pt) (r : Nat × Str) : Bool := bi (pAt ps r.1) r.2
def inner (ps : List Pt) : List (Nat × Str) := (refsFrom 0 ps).filter fun r => told ps r.2
def barOf (ps : List Pt) : Bar := match (refsFrom 0 ps).find? (twoAt ps) with
  | some r => .two r
  | none => match (inner ps).filter (ownAt ps), (inner ps).filter (fun r => !ownAt ps r) with
    | o :: _, t :: _ => .mixed o t
    | _, _ => .none
def RefAt (H : Hp) (v : V) (r : Nat × Str) : Prop := ∃ t, v = .ref t ∧ H t = some (.tup [.int (r.1 : Nat), .str r.2])
inductive BarAt (H : Hp) : V → Bar → Prop where
  | none : BarAt H .non .none
  | two {t : Addr} {r : Nat × Str} (h : H t = some (.tup [.str "two", .int (r.1 : Nat), .str r.2])) : BarAt H (.ref t) (.two r)
  | mixed {t : Addr} {a b : V} {r s : Nat × Str} (h : H t = some (.tup [.str "mixed", a, b])) (ha : RefAt H a r) (hb : RefAt H b s) : BarAt H (.ref t) (.mixed r s)
def spBar (C : Addr) : Sp := fun vs H Q _ => ∃ a ps, vs = [.ref a] ∧ Given C H a ps ∧ ps ≠ [] ∧ ∀ H' v, Same H H' → BarAt H' v (barOf ps) → Q v H'
theorem find_at {α : Type} {f : α → Bool} {l : List α} {i : Nat} {r : α} (e : l[i]? = some r) (h : (l.take i).find? f = none) (t : f r = true) : l.find? f = some r := by
  have hl := (List.getElem?_eq_some_iff.mp e).1
  have e1 : l = l.take i ++ r :: l.drop (i + 1) := by
    have e2 : l[i] = r := (List.getElem?_eq_some_iff.mp e).2
    rw [← e2, ← List.drop_eq_getElem_cons hl, List.take_append_drop]
  rw [e1, List.find?_append, h]
  simp [t]
theorem find_step {α : Type} {f : α → Bool} {l : List α} {i : Nat} {r : α} (e : l[i]? = some r) (h : (l.take i).find? f = none) (t : f r = false) : (l.take (i + 1)).find? f = none := by
  rw [List.take_add_one, e, List.find?_append, h]
  simp [t]
theorem filter_step {α : Type} (f : α → Bool) {l : List α} {i : Nat} {r : α} (e : l[i]? = some r) : (l.take (i + 1)).filter f = (l.take i).filter f ++ (if f r = true then [r] else []) := by
  rw [List.take_add_one, e, List.filter_append]
  by_cases c : f r = true
  · simp [c]
  · simp [c]
section
variable {P : Program} {w : World} {K : PySem.W.Frag} {mg : Str → Option Value} {base : Heap} {C : Addr}
theorem pAt_of {ps : List Pt} {i : Nat} {p : Pt} (e : ps[i]? = some p) : pAt ps i = p := by
  unfold pAt
  rw [List.getD_eq_getElem?_getD, e]
  rfl
theorem ok_ref {f : Addr} {fd : FuncData} (F : Fun K "references_of" "references_of" sRef f fd) (T : Txt K mg C) (L : Lib P w K mg base C) : FnOk P w K mg base CX0 2 f fd ["libraries"] (spRef C) := by
  obtain ⟨fw, fdw, mw, Gw, bw⟩ := L.wants
  obtain ⟨fk, fdk, mk, Gk, bk⟩ := L.asks
  refine F.ok scRef (fun vs H Q E h => ?_) (fun cdv A outer s H vs Q E hr h => ?_)
  · obtain ⟨a, ps, rfl, _⟩ := h
    rfl
  · obtain ⟨a, ps, rfl, ⟨xs, ha, hL, pk, l7⟩, q⟩ := h
    refine ⟨_, pss_cons (ps_set (i := 1) scRef.nd rfl (.inl rfl) (pe_lst pa_nil))
      (pss_cons (ps_for PassesOwn.never rfl (pi_enumA (by rfl) T.enu (pa_cons (pv 0) pa_nil)) (pg_tup rfl (pgs_cons (pg_name (i := 2) scRef.nd rfl (.inr rfl)) (pgs_cons (pg_name (i := 3) scRef.nd rfl (.inl rfl)) pgs_nil)))
        (pss_one (ps_expr (pe_bm PySem.F.plainAttrs_list PySem.F.slot_list_extend PySem.F.type_list_extend mt_extend (pv 1) (pa_cons
          (pe_lc (own := [("name", 4)]) (g := gName 4) (tt := tYes) rfl scRef.nd (pi_list (pe_callB cr_sortedS (by rfl) T.srt boot_srt (pa_cons (pe_lst (StX.pa_star (pe_meth0 (pv 3) L.ok.cl mw Gw hr bw .nil pass0) (StX.pa_star (pe_meth0 (pv 3) L.ok.cl mk Gk hr bk .nil pass0) pa_nil))) pa_nil)))
            (blkOk_by (N := nRef) (sc := defScope sRef) (by decide +kernel)) (fun _ _ _ _ _ => pg_name (i := 4) scRef.nd rfl (.inl rfl)) (fun _ _ _ _ _ => pts_nil) (fun _ _ _ _ _ => pe_tup (pa_cons (pv 2) (pa_cons (pv 4) pa_nil)))) pa_nil)))))
      (pss_one (ps_ret (pv 1)))), ?_⟩
    refine ⟨Nat.zero_le _, fun l nl => ?_⟩
    have m1 := sNew (o := .lst []) (Same.refl H) nl
    refine ⟨_, rfl, a, xs, rfl, ha.same m1, fun J jj => ?_⟩
    refine for_it (walkEn ha m1 jj) (fun i σ H' => Same H H' ∧ (∃ acc, H' l = some (.lst acc) ∧ Rfs H' acc (refsFrom 0 (ps.take i))) ∧ ∃ u v, σ = [some (.ref a), some (.ref l), u, v, none]) ⟨m1, ⟨[], upd_same, Rfs.nil⟩, none, none, rfl⟩ (fun i σ H' _ z => z.1) ?_ ?_
    · rintro i x σ H2 H3 hi ⟨m2, ⟨acc, el, rf⟩, u, v, rfl⟩ ⟨T1, x1, x2, rfl, nT, rfl, f1, f2⟩
      cases f1
      obtain ⟨p, y, hp, rfl, lb⟩ := (hL.same m2).at f2
      have m3 := sNew (o := .tup [.int (i : Nat), .ref y]) (Same.refl H2) nT
      obtain ⟨dx, fs, e0, no⟩ := (lb.same m3).ins
      have pkp := pk p (List.mem_of_getElem? hp)
      have il : i < ps.length := (List.getElem?_eq_some_iff.mp hp).1
      refine ⟨T1, _, rfl, .of upd_same, rfl, _, _, rfl, _, _, rfl, rfl, ?_⟩
      refine ⟨_, rfl, .inl ⟨rfl, _, .of (m3 _ _ el)⟩, ?_⟩
      refine ⟨_, rfl, y, dx, fs, rfl, e0, no _ (by decide), y, p, rfl, lb.same m3, fun w1 nw1 => ?_⟩
      have m4 := sNew (o := .lst ((canon p.wants).map V.str)) m3 nw1
      have e1 := m4 _ _ (show H2 y = some (.ins C dx fs) by
        obtain ⟨dx', fs', e0', _⟩ := lb.ins
        have := m3 _ _ e0'
        rw [e0] at this
        cases this
        exact e0')
      refine ⟨w1, _, rfl, .inr (.of upd_same), ?_⟩
      refine ⟨_, rfl, y, dx, fs, rfl, e1, no _ (by decide), y, p, rfl, lb.same m4, fun w2 nw2 => ?_⟩
      refine ⟨w2, _, rfl, .inr (.of upd_same), ?_⟩
      have m5 := sNew (o := .lst ((canon p.asks).map V.str)) m4 nw2
      have c1 := canon_len p.wants
      have c2 := canon_len p.asks
      refine ⟨by simp; exact Nat.le_trans (show _ ≤ 14 by omega) (by decide), fun w3 nw3 => ?_⟩
      have m6 := sNew (o := .lst ((canon p.wants).map V.str ++ ((canon p.asks).map V.str ++ []))) m5 nw3
      have es : (canon p.wants).map V.str ++ ((canon p.asks).map V.str ++ []) = (canon p.wants ++ canon p.asks).map V.str := by rw [List.append_nil, List.map_append]
      refine ⟨w3, canon p.wants ++ canon p.asks, rfl, .of (by rw [upd_same, es]), by rw [List.length_append]; omega, fun ys w4 p4 e4 nw4 => ?_⟩
      have ey := refs1_of pkp p4 e4
      subst ey
      have m7 := sNew (o := .lst ((refs1 p).map V.str)) m6 nw4
      refine ⟨w4, rfl, ⟨_, .of upd_same⟩, fun D nD => ?_⟩
      have m8 := sNew (o := .lst []) m7 nD
      have e4' : ∀ H', Same (upd (upd (upd (upd (upd (upd H2 T1 (.tup [.int (i : Nat), .ref y])) w1 (.lst ((canon p.wants).map V.str))) w2 (.lst ((canon p.asks).map V.str))) w3 (.lst ((canon p.wants).map V.str ++ ((canon p.asks).map V.str ++ [])))) w4 (.lst ((refs1 p).map V.str))) D (.lst [])) H' → True := fun _ _ => True.intro
      refine lc_list (K := K) (a := w4) (xs := (refs1 p).map V.str) (fun j H' => Same H2 H' ∧ H' w4 = some (.lst ((refs1 p).map V.str)) ∧ ∃ zs, H' D = some (.lst zs) ∧ Rfs H' zs (((refs1 p).take j).map fun n => (i, n))) ⟨m8, (by rw [upd_ne (ne_of_none upd_same nD)]; exact upd_same), [], upd_same, Rfs.nil⟩ (fun j H' _ z => .of z.2.1) ?_ ?_
      · rintro j v H4 hj ⟨m9, ew, zs, eD, rz⟩
        obtain ⟨n, hn, rfl⟩ := map_at hj
        have jl : j < (refs1 p).length := (List.getElem?_eq_some_iff.mp hn).1
        have r7 := refs1_len p
        refine ⟨rfl, _, rfl, _, rfl, (by show 2 ≤ sizeLine; decide), ?_⟩
        intro t nt
        have m10 := sNew (o := .tup [.int (i : Nat), .str n]) (Same.refl H4) nt
        have nD2 : H2 D = none := Same.free m7 nD
        have zl : zs.length < 8 := by
          rw [rz.1, List.length_map, List.length_take]
          omega
        refine ⟨zs, m10 _ _ eD, Nat.lt_trans zl (by decide), sOwn' (m9.trans m10) nD2, ?_, _, upd_same, ?_⟩
        · have nwD : w4 ≠ D := fun z => by
            subst z
            rw [ew] at eD
            injection eD with eD
            injection eD with eD
            rw [upd_same] at nD
            cases nD
          rw [upd_ne nwD]
          exact m10 _ _ ew
        · rw [List.take_add_one, hn, List.map_append]
          have m11 : Same (upd H4 t (.tup [.int (i : Nat), .str n])) (upd (upd H4 t (.tup [.int (i : Nat), .str n])) D (.lst (zs ++ [V.ref t]))) → True := fun _ => True.intro
          have nDt : t ≠ D := (ne_of_none eD nt).symm
          have keepT : ∀ (b : Addr) (us : List V), H4 b = some (.tup us) → (upd (upd H4 t (.tup [.int (i : Nat), .str n])) D (.lst (zs ++ [V.ref t]))) b = some (.tup us) := fun b us e => by
            have nb : b ≠ D := fun z => by
              subst z
              rw [eD] at e
              cases e
            rw [upd_ne nb]
            exact m10 _ _ e
          refine Rfs.app ⟨rz.1, fun k v r a b => ?_⟩ (Rfs.one ?_)
          · obtain ⟨t', e1', e2'⟩ := rz.2 k v r a b
            exact ⟨t', e1', keepT _ _ e2'⟩
          · rw [upd_ne nDt]
            exact upd_same
      · rintro H4 ⟨m9, ew, zs, eD, rz⟩
        rw [List.length_map, List.take_of_length_le (Nat.le_refl _)] at rz
        have nlD : l ≠ D := by
          have := m7 _ _ el
          exact ne_of_none this nD
        have nD2 : H2 D = none := Same.free m7 nD
        have acl : acc.length ≤ 49 := by
          have := refsFrom_len (ps.take i) 0
          rw [rf.1]
          rw [List.length_take] at this
          omega
        have zl : zs.length ≤ 7 := by
          rw [rz.1, List.length_map]
          exact refs1_len p
        refine ⟨l, D, acc, zs, rfl, rfl, m9 _ _ el, eD, Nat.le_trans (show _ ≤ 56 by omega) (by decide), ?_⟩
        have nlH : H l = none := nl
        refine ⟨sOwn' (m2.trans m9) nl, ⟨_, upd_same, ?_⟩, _, _, rfl⟩
        have keepT : ∀ (b : Addr) (us : List V), H4 b = some (.tup us) → (upd H4 l (.lst (acc ++ zs))) b = some (.tup us) := fun b us e => by
          have nb : b ≠ l := fun z => by
            subst z
            rw [m9 _ _ el] at e
            cases e
          rw [upd_ne nb]
          exact e
        have et : ps.take (i + 1) = ps.take i ++ [p] := by rw [List.take_add_one, hp]; rfl
        rw [et, refsFrom_snoc]
        have ei : 0 + (ps.take i).length = i := by rw [List.length_take]; omega
        rw [ei]
        refine Rfs.app ⟨rf.1, fun k v r a b => ?_⟩ ⟨rz.1, fun k v r a b => ?_⟩
        · obtain ⟨t', e1', e2'⟩ := rf.2 k v r a b
          exact ⟨t', e1', keepT _ _ (m9 _ _ e2')⟩
        · obtain ⟨t', e1', e2'⟩ := rz.2 k v r a b
          exact ⟨t', e1', keepT _ _ e2'⟩
    · rintro σ H2 ⟨m2, ⟨acc, el, rf⟩, u, v, rfl⟩
      rw [hL.1, List.take_of_length_le (Nat.le_refl _)] at rf
      exact ⟨_, rfl, q H2 l acc m2 nl el rf⟩
end
end K30
set_option Elab.async false
set_option linter.all false
set_option maxRecDepth 100000
set_option maxHeartbeats 2000000
namespace K30
open PySem PySem.Spec PyProof.Rows L2
theorem lc_refs {K : PySem.W.Frag} {a D : Addr} {xs : List V} {rs : List (Nat × Str)} {H1 : Hp} {tt : TT} {s0 s1 s2 s3 s4 s5 s6 : Option V} {Qd : Hp → Prop} {t : Nat × Str → Bool} (h : H1 a = some (.lst xs)) (r : Rfs H1 xs rs) (nD : H1 D = none) (len : rs.length ≤ 49)
    (test : ∀ (k : Nat) (r : Nat × Str) (H' : Hp) (Q : Bool → Hp → Prop), rs[k]? = some r → Same H1 H' → (∀ H'', Same H' H'' → Q (t r) H'') → tt [s0, s1, some (.int (r.1 : Nat)), some (.str r.2), s4, s5, s6] H' Q)
    (done : ∀ H' zs, Same H1 H' → H' D = some (.lst zs) → Rfs H' zs (rs.filter t) → Qd H') :
    ∃ W : Nat → Nat → Hp → Prop, (∃ m, W 0 m (upd H1 D (.lst []))) ∧ ∀ i m H, W i m H →
      ((Itl K a).stop i H ∧ Qd H) ∨ ((Itl K a).go i H ∧ ∃ Nx : Hp → Prop, (∀ H', Nx H' → ∃ m', m' < m ∧ W (i + 1) m' H') ∧ ∀ x H', (Itl K a).yld i H x H' → gTup K 2 (gCons (gName 2) (gCons (gName 3) gNil)) x (wipe [s0, s1, s2, s3, s4, s5, s6] [2, 3]) H' fun σ2 H2 => wipe σ2 [2, 3] = wipe [s0, s1, s2, s3, s4, s5, s6] [2, 3] ∧ tt σ2 H2 fun b H3 =>
        if b = true then tTup (tCons (tVar 2) (tCons (tVar 3) tNil)) σ2 H3 fun y H4 => ∃ acc, H4 D = some (.lst acc) ∧ acc.length < sizeLine ∧ Nx (upd H4 D (.lst (acc ++ [y]))) else Nx H3) := by
  have nDa : D ≠ a := (ne_of_none h nD).symm
  refine lc_it (walk_list (K := K) (a := a) (xs := xs)) (fun i H' => Same H1 H' ∧ ∃ zs, H' D = some (.lst zs) ∧ Rfs H' zs ((rs.take i).filter t)) ⟨sNew (Same.refl H1) nD, [], upd_same, Rfs.nil⟩ (fun i H' _ z => .of (z.1 _ _ h)) ?_ ?_
  · rintro i v H2 H3 hi ⟨m1, zs, eD, rz⟩ ⟨rfl, hv⟩
    obtain ⟨q, t1, hq, rfl, et⟩ := (r.same m1).at hv
    have il : i < rs.length := (List.getElem?_eq_some_iff.mp hq).1
    refine ⟨t1, _, rfl, .of et, rfl, _, _, rfl, _, _, rfl, rfl, rfl, ?_⟩
    refine test i q _ _ hq m1 fun H4 m2 => ?_
    have keepR : ∀ (H' : Hp) {ys : List V} {ss : List (Nat × Str)}, (∀ (b : Addr) (us : List V), H4 b = some (.tup us) → H' b = some (.tup us)) → Rfs H3 ys ss → Rfs H' ys ss := fun H' ys ss kk g => ⟨g.1, fun k v r a b => by
      obtain ⟨t', e1, e2⟩ := g.2 k v r a b
      exact ⟨t', e1, kk _ _ (m2 _ _ e2)⟩⟩
    refine ite2 (fun c => ?_) (fun c => ?_)
    · refine ⟨_, rfl, _, rfl, (by show 2 ≤ sizeLine; decide), fun p np => ?_⟩
      have eD4 := m2 _ _ eD
      have npD : p ≠ D := (ne_of_none eD4 np).symm
      have zl : zs.length ≤ 49 := by
        rw [rz.1]
        have := List.length_filter_le t (rs.take i)
        rw [List.length_take] at this
        omega
      refine ⟨zs, (by rw [upd_ne npD.symm]; exact eD4), Nat.lt_of_le_of_lt zl (by decide), sOwn' (m1.trans (sNew m2 np)) nD, _, upd_same, ?_⟩
      rw [filter_step t hq, if_pos c]
      refine Rfs.app (keepR _ (fun b us e => ?_) rz) (Rfs.one ?_)
      · have nb : b ≠ D := fun z => by
          subst z
          rw [eD4] at e
          cases e
        rw [upd_ne nb, upd_ne (ne_of_none e np)]
        exact e
      · rw [upd_ne npD]
        exact upd_same
    · refine ⟨m1.trans m2, zs, m2 _ _ eD, ?_⟩
      rw [filter_step t hq, if_neg c, List.append_nil]
      exact rz.same m2
  · rintro H2 ⟨m1, zs, eD, rz⟩
    rw [r.1, List.take_of_length_le (Nat.le_refl _)] at rz
    exact done H2 zs m1 eD rz
section
variable {P : Program} {w : World} {K : PySem.W.Frag} {mg : Str → Option Value} {base : Heap} {C : Addr}
def nBar : List Str := ["libraries", "pairs", "at", "name", "inner", "own", "others"]
theorem scBar : FnScope nBar ["libraries"] (defScope sBar) := ⟨rfl, rfl, rfl, by decide +kernel, rfl, by decide +kernel, by decide +kernel⟩
theorem tru_refs {H : Hp} {a : Addr} {xs : List V} (e : H a = some (.lst xs)) : TruV K (.ref a) H (!xs.isEmpty) := .inl ⟨xs, .of e, rfl⟩
theorem given_take {H H' : Hp} {a p : Addr} {ps : List Pt} (g : Given C H a ps) (k : Nat) (m : Same H H') : ∀ xs, Libs C H xs ps → Sq H' p (xs.take k) → Given C H' p (ps.take k) := by
  intro xs hL hs
  obtain ⟨_, _, _, pk, l7⟩ := g
  exact ⟨xs.take k, hs, (hL.take k).same m, fun q hq => pk q (List.mem_of_mem_take hq), by rw [List.length_take]; omega⟩
theorem slice_to {H : Hp} {a : Addr} {xs : List V} {k : Nat} {Q : VK} (h : Sq H a xs) (lt : k < xs.length) (q : ∀ p H', Same H H' → Sq H' p (xs.take k) → Q (.ref p) H') : rSlA K (.ref a) none (some (k : Int)) H Q := by
  rcases h with h | h
  · exact .inl ⟨a, xs, rfl, .of h, fun p np => q p _ (sNew (Same.refl H) np) (.inl (by rw [upd_same, cut_to]))⟩
  · refine .inr ⟨a, xs, rfl, .of h, fun z => ?_, fun p np => q p _ (sNew (Same.refl H) np) (.inr (by rw [upd_same, cut_to]))⟩
    rw [HT.sIx_nat, Nat.min_eq_left (Nat.le_of_lt lt)] at z
    omega
theorem ok_bar {f : Addr} {fd : FuncData} (F : Fun K "bar" "bar" sBar f fd) (T : Txt K mg C) (c1 : Cal P w K mg base 2 "check_libraries" ["libraries"] (spChB C)) (c2 : Cal P w K mg base 2 "references_of" ["libraries"] (spRef C))
    (c3 : Cal P w K mg base 2 "binds_itself" ["library", "name"] (spBin C)) (c4 : Cal P w K mg base 2 "tells_one" ["libraries", "name"] (spOneT C)) : FnOk P w K mg base CX0 3 f fd ["libraries"] (spBar C) := by
  obtain ⟨f1, d1, G1, g1, k1, b1⟩ := c1.ex
  obtain ⟨f2, d2, G2, g2, k2, b2⟩ := c2.ex
  obtain ⟨f3, d3, G3, g3, k3, b3⟩ := c3.ex
  obtain ⟨f4, d4, G4, g4, k4, b4⟩ := c4.ex
  refine F.ok scBar (fun vs H Q E h => ?_) (fun cdv A outer s H vs Q E hr h => ?_)
  · obtain ⟨a, ps, rfl, _⟩ := h
    rfl
  · obtain ⟨a, ps, rfl, gv, ne, q⟩ := h
    have gvv := gv
    obtain ⟨xs, ha, hL, pk, l7⟩ := gvv
    refine ⟨_, pss_cons (ps_expr (pe_call G1 hr rfl g1 k1 b1 .nil pass0 (pa_cons (pv 0) pa_nil)))
      (pss_cons (ps_set (i := 1) scBar.nd rfl (.inl rfl) (pe_call G2 hr rfl g2 k2 b2 .nil pass0 (pa_cons (pv 0) pa_nil)))
      (pss_cons (ps_for PassesOwn.never rfl (pi_list (pv 1)) (pg_tup rfl (pgs_cons (pg_name (i := 2) scBar.nd rfl (.inl rfl)) (pgs_cons (pg_name (i := 3) scBar.nd rfl (.inl rfl)) pgs_nil)))
        (pss_one (ps_if (PW.pt (pw_and (pt_val (pe_call G3 hr rfl g3 k3 b3 .nil pass0 (pa_cons (pe_ix (r := rIxA K) ix_any (pv 0) (pv 2) (fun _ _ => rfl)) (pa_cons (pv 3) pa_nil)))) (pw_and1 (pt_val (pe_call G4 hr rfl g4 k4 b4 .nil pass0 (pa_cons (pe_slice sl_any (pv 0) po_none (po_some (pv 2))) (pa_cons (pv 3) pa_nil)))))))
          (pss_one (ps_ret (pe_tup (pa_cons pe_str (pa_cons (pv 2) (pa_cons (pv 3) pa_nil)))))) pss_nil)))
      (pss_cons (ps_setLc (i := 4) (own := [("at", 2), ("name", 3)]) (g := gTup K 2 (gCons (gName 2) (gCons (gName 3) gNil))) (tt := tB (tCall (spOneT C) [] E0 (tCons (tVar 0) (tCons (tVar 3) tNil)))) rfl scBar.nd rfl rfl (sw_true rfl rfl rfl (by decide +kernel)) (pi_list (pv 1)) (blkOk_by (N := nBar) (sc := defScope sBar) (by decide +kernel))
          (fun _ _ _ _ _ => by exact pg_tup rfl (pgs_cons (pg_name (i := 2) scBar.nd rfl (.inl rfl)) (pgs_cons (pg_name (i := 3) scBar.nd rfl (.inl rfl)) pgs_nil))) (fun _ _ _ _ _ => by exact pts_one (pt_val (pe_call G4 hr rfl g4 k4 b4 .nil pass0 (pa_cons (pv 0) (pa_cons (pv 3) pa_nil)))))
          (fun _ _ _ _ _ => pe_tup (pa_cons (pv 2) (pa_cons (pv 3) pa_nil))))
      (pss_cons (ps_setLc (i := 5) (own := [("at", 2), ("name", 3)]) (g := gTup K 2 (gCons (gName 2) (gCons (gName 3) gNil))) (tt := tB (tCall (spBin C) [] E0 (tCons (tOp (rIxA K) (tVar 0) (tVar 2)) (tCons (tVar 3) tNil)))) rfl scBar.nd rfl rfl (sw_true rfl rfl rfl (by decide +kernel)) (pi_list (pv 4)) (blkOk_by (N := nBar) (sc := defScope sBar) (by decide +kernel))
          (fun _ _ _ _ _ => by exact pg_tup rfl (pgs_cons (pg_name (i := 2) scBar.nd rfl (.inl rfl)) (pgs_cons (pg_name (i := 3) scBar.nd rfl (.inl rfl)) pgs_nil))) (fun _ _ _ _ _ => by exact pts_one (pt_val (pe_call G3 hr rfl g3 k3 b3 .nil pass0 (pa_cons (pe_ix (r := rIxA K) ix_any (pv 0) (pv 2) (fun _ _ => rfl)) (pa_cons (pv 3) pa_nil)))))
          (fun _ _ _ _ _ => pe_tup (pa_cons (pv 2) (pa_cons (pv 3) pa_nil))))
      (pss_cons (ps_setLc (i := 6) (own := [("at", 2), ("name", 3)]) (g := gTup K 2 (gCons (gName 2) (gCons (gName 3) gNil))) (tt := tNot (tB (tCall (spBin C) [] E0 (tCons (tOp (rIxA K) (tVar 0) (tVar 2)) (tCons (tVar 3) tNil))))) rfl scBar.nd rfl rfl (sw_true rfl rfl rfl (by decide +kernel)) (pi_list (pv 4)) (blkOk_by (N := nBar) (sc := defScope sBar) (by decide +kernel))
          (fun _ _ _ _ _ => by exact pg_tup rfl (pgs_cons (pg_name (i := 2) scBar.nd rfl (.inl rfl)) (pgs_cons (pg_name (i := 3) scBar.nd rfl (.inl rfl)) pgs_nil))) (fun _ _ _ _ _ => by exact pts_one (pt_not (pt_val (pe_call G3 hr rfl g3 k3 b3 .nil pass0 (pa_cons (pe_ix (r := rIxA K) ix_any (pv 0) (pv 2) (fun _ _ => rfl)) (pa_cons (pv 3) pa_nil))))))
          (fun _ _ _ _ _ => pe_tup (pa_cons (pv 2) (pa_cons (pv 3) pa_nil))))
      (pss_cons (ps_if (PW.pt (pw_and (pt_truth (pv 5) (by intro _; rfl)) (pw_and1 (pt_truth (pv 6) (by intro _; rfl)))))
          (pss_one (ps_ret (pe_tup (pa_cons pe_str (pa_cons (pe_ix ix_list (pv 5) pe_int (fun _ _ => rfl)) (pa_cons (pe_ix ix_list (pv 6) pe_int (fun _ _ => rfl)) pa_nil)))))) pss_nil)
      (pss_one (ps_ret pe_non)))))))), ?_⟩
    have barV : ∀ v, BarAt H v (barOf ps) → True := fun _ _ => True.intro
    refine ⟨_, rfl, a, ps, rfl, gv, ne, fun H1 m1 => ?_⟩
    refine ⟨_, rfl, a, ps, rfl, gv.same m1, fun H2 l rs m2 nl el rf => ?_⟩
    have mm := m1.trans m2
    refine ⟨_, rfl, l, rfl, ⟨rs, .of el⟩, ?_⟩
    have rl := refsFrom_len ps 0
    refine for_it (walk_list (K := K) (a := l) (xs := rs)) (fun i σ H' => Same H2 H' ∧ ((refsFrom 0 ps).take i).find? (twoAt ps) = none ∧ ∃ u v, σ = [some (.ref a), some (.ref l), u, v, none, none, none]) ⟨Same.refl _, rfl, none, none, rfl⟩ (fun i σ H' _ z => .of (z.1 _ _ el)) ?_ ?_
    · rintro i x σ H3 H4 hi ⟨m3, fn, u, v, rfl⟩ ⟨rfl, hx⟩
      obtain ⟨r, t, hr', rfl, et⟩ := (rf.same m3).at hx
      have m4 := mm.trans m3
      have lt := (refs_lt ps 0 r (List.mem_of_getElem? hr')).2
      rw [Nat.zero_add] at lt
      obtain ⟨y, hy, lb⟩ := (hL.same m4).get (List.getElem?_eq_getElem lt)
      have ep : pAt ps r.1 = ps[r.1] := pAt_of (List.getElem?_eq_getElem lt)
      refine ⟨t, _, rfl, .of et, rfl, _, _, rfl, _, _, rfl, rfl, ?_⟩
      refine ⟨_, rfl, _, rfl, ixSq (ha.same m4) hy ⟨_, rfl, y, r.2, ps[r.1], rfl, lb, fun H5 m5 => ⟨_, rfl, ?_⟩⟩⟩
      have go : twoAt ps r = false → ((refsFrom 0 ps).take (i + 1)).find? (twoAt ps) = none := fun c => find_step hr' fn c
      refine ite2 (fun c1 => ?_) (fun c1 => ?_)
      · refine ⟨_, rfl, _, rfl, _, rfl, slice_to ((ha.same m4).same m5) (by rw [hL.1]; exact lt) fun p H6 m6 hs => ⟨_, rfl, p, r.2, ps.take r.1, rfl, given_take gv r.1 ((m4.trans m5).trans m6) xs hL hs, fun H7 m7 => ⟨_, rfl, ?_⟩⟩⟩
        refine ite2 (fun c2 => ?_) (fun c2 => ?_)
        · have tw : twoAt ps r = true := by
            unfold twoAt
            rw [ep, c1, c2]
            rfl
          have eb : barOf ps = .two r := by
            unfold barOf
            rw [find_at hr' fn tw]
          refine ⟨_, rfl, _, rfl, (by show 3 ≤ sizeLine; decide), fun z nz => ?_⟩
          refine q _ _ (sNew (((m4.trans m5).trans m6).trans m7) nz) ?_
          rw [eb]
          exact .two upd_same
        · refine ⟨((m3.trans m5).trans m6).trans m7, go ?_, _, _, rfl⟩
          unfold twoAt
          cases e : told (ps.take r.1) r.2
          · rw [Bool.and_false]
          · exact absurd e c2
      · refine ⟨m3.trans m5, go ?_, _, _, rfl⟩
        unfold twoAt
        rw [ep]
        cases e : bi ps[r.1] r.2
        · rfl
        · exact absurd e c1
    · rintro σ H3 ⟨m3, fn, u, v, rfl⟩
      have fnn : (refsFrom 0 ps).find? (twoAt ps) = none := by
        rw [rf.1, List.take_of_length_le (Nat.le_refl _)] at fn
        exact fn
      have m4 := mm.trans m3
      have el3 := m3 _ _ el
      have rf3 := rf.same m3
      refine ⟨_, rfl, l, rfl, ⟨rs, .of el3⟩, fun D nD => ?_⟩
      refine lc_refs (t := fun r => told ps r.2) el3 rf3 nD (by omega) (fun k r H' Q' hk m5 kk => ?_) (fun H4 zs m5 eD rz => ?_)
      · exact ⟨_, rfl, _, rfl, a, r.2, ps, rfl, (gv.same m4).same m5, fun H'' m6 => ⟨_, rfl, kk H'' m6⟩⟩
      have il : (inner ps).length ≤ 49 := Nat.le_trans (List.length_filter_le _ _) (by omega)
      have isub : ∀ r ∈ inner ps, r.1 < ps.length := fun r hr => by
        have := (refs_lt ps 0 r (List.mem_filter.mp hr).1).2
        omega
      have m5' := m4.trans m5
      refine ⟨_, rfl, D, rfl, ⟨zs, .of eD⟩, fun D2 nD2 => ?_⟩
      refine lc_refs (t := ownAt ps) eD rz nD2 il (fun k r H' Q' hk m6 kk => ?_) (fun H5 ws m6 eD2 rw' => ?_)
      · have lt := isub r (List.mem_of_getElem? hk)
        obtain ⟨y, hy, lb⟩ := (hL.same (m5'.trans m6)).get (List.getElem?_eq_getElem lt)
        refine ⟨_, rfl, _, rfl, ixSq (ha.same (m5'.trans m6)) hy ⟨_, rfl, y, r.2, ps[r.1], rfl, lb, fun H'' m7 => ⟨_, rfl, ?_⟩⟩⟩
        have := kk H'' m7
        unfold ownAt at this
        rw [pAt_of (List.getElem?_eq_getElem lt)] at this
        exact this
      have m6' := m5'.trans m6
      refine ⟨_, rfl, D, rfl, ⟨zs, .of (m6 _ _ eD)⟩, fun D3 nD3 => ?_⟩
      refine lc_refs (t := fun r => !ownAt ps r) (m6 _ _ eD) (rz.same m6) nD3 il (fun k r H' Q' hk m7 kk => ?_) (fun H6 us m7 eD3 ru => ?_)
      · have lt := isub r (List.mem_of_getElem? hk)
        obtain ⟨y, hy, lb⟩ := (hL.same (m6'.trans m7)).get (List.getElem?_eq_getElem lt)
        refine ⟨_, rfl, _, rfl, ixSq (ha.same (m6'.trans m7)) hy ⟨_, rfl, y, r.2, ps[r.1], rfl, lb, fun H'' m8 => ⟨_, rfl, ?_⟩⟩⟩
        have := kk H'' m8
        unfold ownAt at this
        rw [pAt_of (List.getElem?_eq_getElem lt)] at this
        exact this
      have eD2' := m7 _ _ eD2
      have rw2 := rw'.same m7
      have m8 := m6'.trans m7
      refine ⟨_, rfl, _, tru_refs eD2', ?_⟩
      have eb : barOf ps = match (inner ps).filter (ownAt ps), (inner ps).filter (fun r => !ownAt ps r) with
        | o :: _, t :: _ => .mixed o t
        | _, _ => .none := by
        unfold barOf
        rw [fnn]
        all_goals
          generalize (inner ps).filter (ownAt ps) = z1
          generalize (inner ps).filter (fun r => !ownAt ps r) = z2
          cases z1 <;> cases z2 <;> rfl
      cases eo : (inner ps).filter (ownAt ps) with
      | nil =>
        have e0 : ws = [] := List.eq_nil_of_length_eq_zero (by rw [rw2.1]; rw [show List.filter (fun r => told ps r.2) (refsFrom 0 ps) = inner ps from rfl, eo]; rfl)
        subst e0
        refine iteF ?_
        rw [eo] at eb
        exact q _ _ m8 (by rw [eb]; exact .none)
      | cons o rest =>
        obtain ⟨w0, ew0⟩ : ∃ w0, ws[0]? = some w0 := by
          have : ws.length = (o :: rest).length := by rw [rw2.1]; rw [show List.filter (fun r => told ps r.2) (refsFrom 0 ps) = inner ps from rfl, eo]
          exact ⟨ws[0]'(by rw [this]; simp), List.getElem?_eq_getElem _⟩
        have hn : (!ws.isEmpty) = true := by
          cases ws with
          | nil => cases ew0
          | cons _ _ => rfl
        rw [hn]
        refine iteT ⟨_, rfl, _, tru_refs eD3, ?_⟩
        cases en : (inner ps).filter (fun r => !ownAt ps r) with
        | nil =>
          have e0 : us = [] := List.eq_nil_of_length_eq_zero (by rw [ru.1]; rw [show List.filter (fun r => told ps r.2) (refsFrom 0 ps) = inner ps from rfl, en]; rfl)
          subst e0
          refine iteF ?_
          rw [eo, en] at eb
          exact q _ _ m8 (by rw [eb]; exact .none)
        | cons o2 rest2 =>
          obtain ⟨u0, eu0⟩ : ∃ u0, us[0]? = some u0 := by
            have : us.length = (o2 :: rest2).length := by rw [ru.1]; rw [show List.filter (fun r => told ps r.2) (refsFrom 0 ps) = inner ps from rfl, en]
            exact ⟨us[0]'(by rw [this]; simp), List.getElem?_eq_getElem _⟩
          have hn2 : (!us.isEmpty) = true := by
            cases us with
            | nil => cases eu0
            | cons _ _ => rfl
          rw [hn2]
          refine iteT ?_
          obtain ⟨r1, t1, a1, b1', c1'⟩ := rw2.at ew0
          obtain ⟨r2, t2, a2, b2', c2'⟩ := ru.at eu0
          rw [show List.filter (fun r => told ps r.2) (refsFrom 0 ps) = inner ps from rfl, eo] at a1
          rw [show List.filter (fun r => told ps r.2) (refsFrom 0 ps) = inner ps from rfl, en] at a2
          cases a1
          cases a2
          refine ⟨_, rfl, D2, _, _, _, rfl, rfl, .of eD2', atI_nat (j := 0) ew0, _, rfl, D3, _, _, _, rfl, rfl, .of eD3, atI_nat (j := 0) eu0, (by show 3 ≤ sizeLine; decide), fun z nz => ?_⟩
          rw [eo, en] at eb
          refine q _ _ (sNew m8 nz) ?_
          rw [eb]
          have mz := sNew (o := .tup [.str "mixed", w0, u0]) (Same.refl H6) nz
          exact .mixed upd_same ⟨t1, b1', mz _ _ c1'⟩ ⟨t2, b2', mz _ _ c2'⟩
end
end K30
set_option Elab.async false
set_option linter.all false
set_option maxRecDepth 100000
set_option maxHeartbeats 2000000
namespace K30
open PySem PySem.Spec PyProof.Rows L2
def addAll (a ws : List Str) : List Str := ws.foldl (fun a x => if x ∈ a then a else a ++ [x]) a
def gather (g : Pt → List Str) (ps : List Pt) : List Str := ps.foldl (fun a p => addAll a (g p)) []
theorem mem_addAll : ∀ (ws a : List Str) (x : Str), x ∈ addAll a ws ↔ x ∈ a ∨ x ∈ ws
  | [], a, x => by simp [addAll]
  | w :: r, a, x => by
    show x ∈ addAll (if w ∈ a then a else a ++ [w]) r ↔ _
    rw [mem_addAll r]
    by_cases c : w ∈ a
    · rw [if_pos c, List.mem_cons]
      constructor
      · rintro (h | h)
        · exact .inl h
        · exact .inr (.inr h)
      · rintro (h | rfl | h)
        · exact .inl h
        · exact .inl c
        · exact .inr h
    · rw [if_neg c, List.mem_append, List.mem_singleton, List.mem_cons, or_assoc]
theorem nd_addAll : ∀ (ws a : List Str), a.Nodup → (addAll a ws).Nodup
  | [], a, h => h
  | w :: r, a, h => by
    show (addAll (if w ∈ a then a else a ++ [w]) r).Nodup
    by_cases c : w ∈ a
    · rw [if_pos c]
      exact nd_addAll r a h
    · rw [if_neg c]
      refine nd_addAll r _ (List.nodup_append.mpr ⟨h, List.pairwise_singleton _ _, fun x hx y hy e => ?_⟩)
      subst e
      exact c (by rw [← List.mem_singleton.mp hy]; exact hx)
theorem gather_snoc (g : Pt → List Str) (ps : List Pt) (p : Pt) : gather g (ps ++ [p]) = addAll (gather g ps) (g p) := by
  unfold gather
  rw [List.foldl_append]
  rfl
theorem mem_gather_from (g : Pt → List Str) (x : Str) : ∀ (ps : List Pt) (a : List Str), x ∈ ps.foldl (fun a p => addAll a (g p)) a ↔ x ∈ a ∨ ∃ p ∈ ps, x ∈ g p
  | [], a => by simp
  | p :: r, a => by
    rw [List.foldl_cons, mem_gather_from g x r, mem_addAll]
    simp only [List.mem_cons, exists_eq_or_imp, or_assoc]
theorem mem_gather {g : Pt → List Str} {ps : List Pt} {x : Str} : x ∈ gather g ps ↔ ∃ p ∈ ps, x ∈ g p := by
  unfold gather
  rw [mem_gather_from]
  simp
theorem nd_gather_from (g : Pt → List Str) : ∀ (ps : List Pt) (a : List Str), a.Nodup → (ps.foldl (fun a p => addAll a (g p)) a).Nodup
  | [], a, h => h
  | p :: r, a, h => nd_gather_from g r _ (nd_addAll _ _ h)
theorem ws_gather {g : Pt → List Str} {ps : List Pt} (h : ∀ p ∈ ps, ∀ x ∈ g p, x ∈ words) : Ws (gather g ps) := ⟨fun x hx => by
  obtain ⟨p, hp, q⟩ := mem_gather.mp hx
  exact h p hp x q, nd_gather_from g ps [] List.nodup_nil⟩
def mergedOf (ps : List Pt) : Pt := ⟨gather (fun p => canon p.tells) ps, gather (fun p => canon p.wants) ps, (gather (fun p => canon p.asks) ps).filter (fun x => decide (x ∉ gather (fun p => canon p.wants) ps)), gather (fun p => p.needs) ps, (refsFrom 0 ps).any (ownAt ps), ps.any fun p => p.stays⟩
theorem merged_ok {ps : List Pt} (h : ∀ p ∈ ps, PtOk p) : PtOk (mergedOf ps) := by
  have w1 : Ws (gather (fun p => canon p.tells) ps) := ws_gather fun p hp x hx => (canon_ws (h p hp).tells.ok).ok x hx
  have w2 : Ws (gather (fun p => canon p.wants) ps) := ws_gather fun p hp x hx => (canon_ws (h p hp).wants.ok).ok x hx
  have w3 : Ws (gather (fun p => canon p.asks) ps) := ws_gather fun p hp x hx => (canon_ws (h p hp).asks.ok).ok x hx
  have w4 : Ws (gather (fun p => p.needs) ps) := ws_gather fun p hp x hx => (h p hp).needs.ok x hx
  refine ⟨w1, w2, ⟨fun x hx => w3.ok x (List.mem_filter.mp hx).1, w3.nd.sublist List.filter_sublist⟩, w4, fun x hx => ?_⟩
  exact of_decide_eq_true (List.mem_filter.mp hx).2
/-! dicts of names -/
theorem seen_val_in (ws : List Str) (x : Str) (h : x ∈ ws) : (valV (seenK ws) (Sum.inr x : Key)) = some (.bl true) := by
  induction ws with
  | nil => cases h
  | cons y r ih =>
    show valV ((Sum.inr y, V.bl true) :: seenK r) (Sum.inr x : Key) = _
    by_cases e : y = x
    · exact valV_pos (by rw [e])
    · rw [valV_neg (by intro z; injection z with z; exact e z)]
      rcases List.mem_cons.mp h with z | z
      · exact absurd z.symm e
      · exact ih z
theorem seen_put' (ws : List Str) (x : Str) : putK (seenK ws) (Sum.inr x : Key) (.bl true) = seenK (if x ∈ ws then ws else ws ++ [x]) := by
  by_cases h : x ∈ ws
  · rw [if_pos h]
    unfold putK
    rw [valV_any, seen_val_in ws x h]
    show (seenK ws).map _ = seenK ws
    unfold seenK
    rw [List.map_map]
    refine List.map_congr_left fun y _ => ?_
    show (if (Sum.inr y : Key) = Sum.inr x then ((Sum.inr y : Key), V.bl true) else (Sum.inr y, V.bl true)) = _
    split <;> rfl
  · rw [if_neg h]
    exact seen_put ws x h
theorem seen_merge : ∀ (ws a : List Str), mergeK (seenK a) (seenK ws) = seenK (addAll a ws)
  | [], a => rfl
  | w :: r, a => by
    show mergeK (putK (seenK a) (Sum.inr w) (.bl true)) (seenK r) = seenK (addAll (if w ∈ a then a else a ++ [w]) r)
    rw [seen_put', seen_merge r]
theorem seen_len (ws : List Str) : (seenK ws).length = ws.length := by unfold seenK; rw [List.length_map]
theorem seen_take {ws : List Str} {i : Nat} {x : Str} (W : Ws ws) (h : ws[i]? = some x) : putK (seenK (ws.take i)) (Sum.inr x : Key) (.bl true) = seenK (ws.take (i + 1)) := by
  have il : i < ws.length := (List.getElem?_eq_some_iff.mp h).1
  have no : x ∉ ws.take i := fun z => by
    obtain ⟨j, hj, e⟩ := List.getElem_of_mem z
    rw [List.length_take] at hj
    rw [List.getElem_take] at e
    have e2 : ws[i] = x := (List.getElem?_eq_some_iff.mp h).2
    exact (List.pairwise_iff_getElem.mp W.nd) j i (by omega) il (by omega) (e.trans e2.symm)
  rw [seen_put _ _ no, List.take_add_one, h]
  rfl
def spMer (C : Addr) : Sp := fun vs H Q _ => ∃ a ps, vs = [.ref a] ∧ Given C H a ps ∧ ps ≠ [] ∧ ((barOf ps ≠ .none ∧ ∀ H', Same H H' → Q .non H') ∨ (barOf ps = .none ∧ ∀ H' x, Same H H' → H x = none → LibAt C H' x (mergedOf ps) → Q (.ref x) H'))
def nMer : List Str := ["libraries", "tells", "wants", "asks", "needs", "library", "else_asked", "own", "stays", "name", "at"]
section
variable {P : Program} {w : World} {K : PySem.W.Frag} {mg : Str → Option Value} {base : Heap} {C : Addr}
theorem scMer : FnScope nMer ["libraries"] (defScope sMer) := ⟨rfl, rfl, rfl, by decide +kernel, rfl, by decide +kernel, by decide +kernel⟩
/-- {name: True for name in ..}, of a list of good names at a new place -/
theorem dc_names {σ : L2.St} {a D : Addr} {ws : List Str} {H1 : Hp} {Qd : Hp → Prop} (W : Ws ws) (hl : 10 < σ.length) (h : H1 a = some (.lst (ws.map V.str))) (nD : H1 D = none) (done : ∀ H', Same H1 H' → H' D = some (.dK (seenK ws)) → Qd H') :
    ∃ W : Nat → Nat → Hp → Prop, (∃ m, W 0 m (upd H1 D (.dK []))) ∧ ∀ i m H, W i m H →
      ((Itl K a).stop i H ∧ Qd H) ∨ ((Itl K a).go i H ∧ ∃ Nx : Hp → Prop, (∀ H', Nx H' → ∃ m', m' < m ∧ W (i + 1) m' H') ∧ ∀ x H', (Itl K a).yld i H x H' → gName 9 x (wipe σ [9]) H' fun σ2 H2 => wipe σ2 [9] = wipe σ [9] ∧ tYes σ2 H2 fun b H3 =>
        if b = true then tVar 9 σ2 H3 fun y H4 => tC (.bl true) σ2 H4 fun z H5 => ∃ kvs k, y = kV k ∧ H5 D = some (.dK kvs) ∧ kvs.length < sizeLine ∧ Nx (upd H5 D (.dK (putK kvs k z))) else Nx H3) := by
  refine dc_it (walk_list (K := K) (a := a) (xs := ws.map V.str)) (fun i H' => Same H1 H' ∧ H' D = some (.dK (seenK (ws.take i)))) ⟨sNew (Same.refl H1) nD, upd_same⟩ (fun i H' _ z => .of (z.1 _ _ h)) ?_ ?_
  · rintro i v H2 H3 hi ⟨m1, eD⟩ ⟨rfl, hv⟩
    obtain ⟨x, hx, rfl⟩ := map_at hv
    have l7 := W.len
    refine ⟨?_, .str x, ?_, _, Sum.inr x, rfl, eD, ?_, sOwn' m1 nD, ?_⟩
    · show ((σ.set 9 none).set 9 (some (V.str x))).set 9 none = σ.set 9 none
      rw [List.set_set, List.set_set]
    · show ((σ.set 9 none).set 9 (some (V.str x)))[9]? = some (some (V.str x))
      rw [List.getElem?_set_self (by rw [List.length_set]; omega)]
    · rw [seen_len, List.length_take]
      exact Nat.lt_of_lt_of_le (show min i _ < 8 by omega) (by decide)
    · rw [upd_same, seen_take W hx]
  · rintro H2 ⟨m1, eD⟩
    rw [List.length_map, List.take_of_length_le (Nat.le_refl _)] at eD
    exact done H2 m1 eD
theorem lib_keep {d : Addr} {H H' : Hp} {x : Addr} {p : Pt} (h : LibAt C H x p) (m : ∀ b o, b ≠ d → H b = some o → H' b = some o) (nd : ∀ ys, H d ≠ some (.lst ys)) (nd2 : ∀ dx fs, H d ≠ some (.ins C dx fs)) : LibAt C H' x p := by
  obtain ⟨dx, a, b, c, e, h0, h1, h2, h3, h4⟩ := h
  have n0 : ∀ {y : Addr} {ys}, H y = some (.lst ys) → y ≠ d := fun q z => nd _ (z ▸ q)
  exact ⟨dx, a, b, c, e, m _ _ (fun z => nd2 _ _ (z ▸ h0)) h0, m _ _ (n0 h1) h1, m _ _ (n0 h2) h2, m _ _ (n0 h3) h3, m _ _ (n0 h4) h4⟩
def uTerm (C : Addr) (m : Str) (g : Pt → List Str) (i : Nat) : TE := tBM K "dict" rDUpd (tVar i) (tCons (tDc (iList K (tMeth C m (spRd C g) [] E0 (tVar 5) tNil)) (gName 9) tYes (tVar 9) (tC (.bl true)) [9]) tNil)
/-- one d.update({name: True for name in library.m()}) -/
theorem upd_names {σ : L2.St} {i : Nat} {d x : Addr} {p : Pt} {acc : List Str} {H : Hp} {m : Str} {g : Pt → List Str} {Q : VK} (e1 : σ[i]? = some (some (.ref d))) (e5 : σ[5]? = some (some (.ref x))) (hl : 10 < σ.length) (lb : LibAt C H x p) (hm : m ∈ (["tells", "wants", "asks", "needs", "own_first", "stays"] : List Str))
    (W : Ws (g p)) (hd : H d = some (.dK (seenK acc))) (la : acc.length ≤ 7) (q : ∀ H', Kp d H H' → H' d = some (.dK (seenK (addAll acc (g p)))) → Q .non H') : uTerm (K := K) C m g i σ H Q := by
  obtain ⟨dx, fs, e0, no⟩ := lb.ins
  refine ⟨_, e1, .inr (.inr (.inl ⟨rfl, .inl ⟨_, hd⟩⟩)), ?_⟩
  refine ⟨_, e5, x, dx, fs, rfl, e0, no _ hm, x, p, rfl, lb, fun l nl => ?_⟩
  have m1 := sNew (o := .lst ((g p).map V.str)) (Same.refl H) nl
  refine ⟨l, rfl, ⟨_, .of upd_same⟩, fun D nD => ?_⟩
  refine dc_names (K := K) W hl upd_same nD fun H2 m2 eD => ?_
  have mm := m1.trans m2
  have nDd : d ≠ D := fun z => by
    subst z
    rw [m1 _ _ hd] at nD
    cases nD
  have l7 := W.len
  refine ⟨d, D, _, _, rfl, rfl, nDd, mm _ _ hd, eD, ?_, ?_⟩
  · rw [seen_len, seen_len]
    exact Nat.le_trans (show _ ≤ 14 by omega) (by decide)
  · refine q _ (mm.kp.spr) ?_
    rw [upd_same, seen_merge]
end
end K30
set_option Elab.async false
set_option linter.all false
set_option maxRecDepth 100000
set_option maxHeartbeats 4000000
namespace K30
open PySem PySem.Spec PyProof.Rows L2
theorem kpNew {H H2 H3 : Hp} {d : Addr} (m : Same H H2) (n : H d = none) (k : Kp d H2 H3) : Same H H3 := fun b o e => k b o (ne_of_none e n) (m b o e)
/-- comprehension of truths over the references -/
theorem lc_own {K : PySem.W.Frag} {a D : Addr} {xs : List V} {rs : List (Nat × Str)} {H1 : Hp} {te : TE} {s0 s1 s2 s3 s4 s5 s6 s7 s8 s9 s10 : Option V} {Qd : Hp → Prop} {t : Nat × Str → Bool} (h : H1 a = some (.lst xs)) (r : Rfs H1 xs rs) (nD : H1 D = none) (len : rs.length ≤ 49)
    (test : ∀ (k : Nat) (r : Nat × Str) (H' : Hp) (Q : VK), rs[k]? = some r → Same H1 H' → (∀ H'', Same H' H'' → Q (.bl (t r)) H'') → te [s0, s1, s2, s3, s4, s5, s6, s7, s8, some (.str r.2), some (.int (r.1 : Nat))] H' Q)
    (done : ∀ H', Same H1 H' → H' D = some (.lst ((rs.map t).map V.bl)) → Qd H') :
    ∃ W : Nat → Nat → Hp → Prop, (∃ m, W 0 m (upd H1 D (.lst []))) ∧ ∀ i m H, W i m H →
      ((Itl K a).stop i H ∧ Qd H) ∨ ((Itl K a).go i H ∧ ∃ Nx : Hp → Prop, (∀ H', Nx H' → ∃ m', m' < m ∧ W (i + 1) m' H') ∧ ∀ x H', (Itl K a).yld i H x H' → gTup K 2 (gCons (gName 10) (gCons (gName 9) gNil)) x (wipe [s0, s1, s2, s3, s4, s5, s6, s7, s8, s9, s10] [10, 9]) H' fun σ2 H2 => wipe σ2 [10, 9] = wipe [s0, s1, s2, s3, s4, s5, s6, s7, s8, s9, s10] [10, 9] ∧ tYes σ2 H2 fun b H3 =>
        if b = true then te σ2 H3 fun y H4 => ∃ acc, H4 D = some (.lst acc) ∧ acc.length < sizeLine ∧ Nx (upd H4 D (.lst (acc ++ [y]))) else Nx H3) := by
  refine lc_it (walk_list (K := K) (a := a) (xs := xs)) (fun i H' => Same H1 H' ∧ H' D = some (.lst (((rs.map t).take i).map V.bl))) ⟨sNew (Same.refl H1) nD, upd_same⟩ (fun i H' _ z => .of (z.1 _ _ h)) ?_ ?_
  · rintro i v H2 H3 hi ⟨m1, eD⟩ ⟨rfl, hv⟩
    obtain ⟨q, t1, hq, rfl, et⟩ := (r.same m1).at hv
    have il : i < rs.length := (List.getElem?_eq_some_iff.mp hq).1
    refine ⟨t1, _, rfl, .of et, rfl, _, _, rfl, _, _, rfl, rfl, rfl, ?_⟩
    refine test i q _ _ hq m1 fun H4 m2 => ?_
    refine ⟨_, m2 _ _ eD, ?_, sOwn' (m1.trans m2) nD, ?_⟩
    · rw [List.length_map, List.length_take, List.length_map]
      exact Nat.lt_of_lt_of_le (show min i _ < 50 by omega) (by decide)
    · rw [upd_same, List.take_add_one, List.getElem?_map, hq, List.map_append]
      rfl
  · rintro H2 ⟨m1, eD⟩
    rw [r.1, List.take_of_length_le (by simp)] at eD
    exact done H2 m1 eD
theorem seq_itG {K : PySem.W.Frag} {i : Nat} {σ : L2.St} {H : Hp} {R : It → Hp → Prop} {a : Addr} {xs : List V} (e : σ[i]? = some (some (.ref a))) (h : Sq H a xs) (k : ∀ J, Walk J xs.length (fun H' => Sq H' a xs ∧ ∀ o, H a = some o → H' a = some o) (YAt xs) → R J H) : iSeq K (tVar i) σ H R := by
  rcases h with h | h
  · exact .inl ⟨_, e, a, rfl, ⟨xs, .of h⟩, k _ (walk_list.mono (fun H' m => .of (m.2 _ h)) fun _ _ _ _ _ _ y => y)⟩
  · exact .inr ⟨_, e, a, rfl, ⟨xs, .of h⟩, k _ (walk_tup.mono (fun H' m => .of (m.2 _ h)) fun _ _ _ _ _ _ y => y)⟩
theorem Sq.keep {H H1 H2 : Hp} {a : Addr} {xs : List V} (h : Sq H a xs) (m1 : Same H H1) (m2 : Same H H2) : Sq H2 a xs ∧ ∀ o, H1 a = some o → H2 a = some o := by
  refine ⟨h.same m2, fun o e => ?_⟩
  rcases h with h | h
  · have := m1 _ _ h
    rw [e] at this
    cases this
    exact m2 _ _ h
  · have := m1 _ _ h
    rw [e] at this
    cases this
    exact m2 _ _ h
theorem seen_keys (ws : List Str) : ((seenK ws).map fun kv => kV kv.1) = ws.map V.str := by
  unfold seenK
  rw [List.map_map]
  rfl
theorem own_any (rs : List (Nat × Str)) (t : Nat × Str → Bool) : (rs.map t).any id = rs.any t := by
  rw [List.any_map]
  rfl
section
variable {P : Program} {w : World} {K : PySem.W.Frag} {mg : Str → Option Value} {base : Heap} {C : Addr}
theorem ok_mer {f : Addr} {fd : FuncData} (F : Fun K "merged" "merged" sMer f fd) (T : Txt K mg C) (L : Lib P w K mg base C) (cb : Cal P w K mg base 3 "bar" ["libraries"] (spBar C)) (c2 : Cal P w K mg base 2 "references_of" ["libraries"] (spRef C))
    (c3 : Cal P w K mg base 2 "binds_itself" ["library", "name"] (spBin C)) : FnOk P w K mg base CX0 8 f fd ["libraries"] (spMer C) := by
  obtain ⟨f0, d0, G0, g0, k0, b0⟩ := cb.ex
  obtain ⟨f2, d2', G2, g2, k2, b2⟩ := c2.ex
  obtain ⟨f3, d3', G3, g3, k3, b3⟩ := c3.ex
  obtain ⟨fT, fdT, mT, GT, bT⟩ := L.tells
  obtain ⟨fW, fdW, mW, GW, bW⟩ := L.wants
  obtain ⟨fA, fdA, mA, GA, bA⟩ := L.asks
  obtain ⟨fN, fdN, mN, GN, bN⟩ := L.needs
  obtain ⟨fS, fdS, mS, GS, bS⟩ := L.stays
  obtain ⟨fI, fdI, mI, GI, bI⟩ := L.init
  refine F.ok scMer (fun vs H Q E h => ?_) (fun cdv A outer s H vs Q E hr h => ?_)
  · obtain ⟨a, ps, rfl, _⟩ := h
    rfl
  · obtain ⟨a, ps, rfl, gv, ne, q⟩ := h
    have gvv := gv
    obtain ⟨xs, ha, hL, pk, l7⟩ := gvv
    have hr1 : Room 1 _ := hr.mono (by decide)
    have hr2 : Room 2 _ := hr.mono (by decide)
    have hr3 : Room 3 _ := hr.mono (by decide)
    have hu := hu_of hr
    have U : ∀ (i : Nat) (m : Str), True := fun _ _ => True.intro
    refine ⟨_, pss_cons (ps_if (pt_cmpR op_notN (pe_call G0 hr3 rfl g0 k0 b0 .nil pass0 (pa_cons (pv 0) pa_nil)) pe_non (nomark _)) (pss_one (ps_ret pe_non)) pss_nil)
      (pss_cons (ps_set (i := 1) scMer.nd rfl (.inl rfl) pe_dnewK)
      (pss_cons (ps_set (i := 2) scMer.nd rfl (.inr rfl) pe_dnewK)
      (pss_cons (ps_set (i := 3) scMer.nd rfl (.inl rfl) pe_dnewK)
      (pss_cons (ps_set (i := 4) scMer.nd rfl (.inl rfl) pe_dnewK)
      (pss_cons (ps_for PassesOwn.never rfl (pi_seq (pv 0)) (pg_name (i := 5) scMer.nd rfl (.inl rfl))
        (pss_cons (ps_expr (pe_bm PySem.F.plainAttrs_dict PySem.F.slot_dict_update PySem.F.type_dict_update mt_dupd (pv 1) (pa_cons (pe_dc (own := [("name", 9)]) (g := gName 9) (tt := tYes) rfl scMer.nd (pi_list (pe_meth0 (pv 5) L.ok.cl mT GT hr1 bT .nil pass0)) (blkOk_by (N := nMer) (sc := defScope sMer) (by decide +kernel)) (fun _ _ _ _ _ => pg_name (i := 9) scMer.nd rfl (.inl rfl)) (fun _ _ _ _ _ => pts_nil) (fun _ _ _ _ _ => pv 9) (fun _ _ _ _ _ => pe_bl)) pa_nil)))
        (pss_cons (ps_expr (pe_bm PySem.F.plainAttrs_dict PySem.F.slot_dict_update PySem.F.type_dict_update mt_dupd (pv 2) (pa_cons (pe_dc (own := [("name", 9)]) (g := gName 9) (tt := tYes) rfl scMer.nd (pi_list (pe_meth0 (pv 5) L.ok.cl mW GW hr1 bW .nil pass0)) (blkOk_by (N := nMer) (sc := defScope sMer) (by decide +kernel)) (fun _ _ _ _ _ => pg_name (i := 9) scMer.nd rfl (.inl rfl)) (fun _ _ _ _ _ => pts_nil) (fun _ _ _ _ _ => pv 9) (fun _ _ _ _ _ => pe_bl)) pa_nil)))
        (pss_cons (ps_expr (pe_bm PySem.F.plainAttrs_dict PySem.F.slot_dict_update PySem.F.type_dict_update mt_dupd (pv 3) (pa_cons (pe_dc (own := [("name", 9)]) (g := gName 9) (tt := tYes) rfl scMer.nd (pi_list (pe_meth0 (pv 5) L.ok.cl mA GA hr1 bA .nil pass0)) (blkOk_by (N := nMer) (sc := defScope sMer) (by decide +kernel)) (fun _ _ _ _ _ => pg_name (i := 9) scMer.nd rfl (.inl rfl)) (fun _ _ _ _ _ => pts_nil) (fun _ _ _ _ _ => pv 9) (fun _ _ _ _ _ => pe_bl)) pa_nil)))
        (pss_one (ps_expr (pe_bm PySem.F.plainAttrs_dict PySem.F.slot_dict_update PySem.F.type_dict_update mt_dupd (pv 4) (pa_cons (pe_dc (own := [("name", 9)]) (g := gName 9) (tt := tYes) rfl scMer.nd (pi_list (pe_meth0 (pv 5) L.ok.cl mN GN hr1 bN .nil pass0)) (blkOk_by (N := nMer) (sc := defScope sMer) (by decide +kernel)) (fun _ _ _ _ _ => pg_name (i := 9) scMer.nd rfl (.inl rfl)) (fun _ _ _ _ _ => pts_nil) (fun _ _ _ _ _ => pv 9) (fun _ _ _ _ _ => pe_bl)) pa_nil))))))))
      (pss_cons (ps_lock (ps_setLc (i := 6) (own := [("name", 9)]) (g := gName 9) (tt := tB (tDNotIn (tVar 9) (tVar 2))) rfl scMer.nd rfl rfl (sw_true rfl rfl rfl (by decide +kernel)) (pi_keys (pv 3)) (blkOk_by (N := nMer) (sc := defScope sMer) (by decide +kernel)) (fun _ _ _ _ _ => pg_name (i := 9) scMer.nd rfl (.inl rfl)) (fun _ _ _ _ _ => by exact pts_one (pt_cmp (pc_dnotin hu (pv 9) (pv 2)))) (fun _ _ _ _ _ => pv 9)))
      (pss_cons (ps_set (i := 7) scMer.nd rfl (.inl rfl) (pe_callB (cr_any rfl) (by rfl) T.any boot_any' (pa_cons (pe_lc (own := [("at", 10), ("name", 9)]) (g := gTup K 2 (gCons (gName 10) (gCons (gName 9) gNil))) (tt := tYes) (te := tCall (spBin C) [] E0 (tCons (tOp (rIxA K) (tVar 0) (tVar 10)) (tCons (tVar 9) tNil))) rfl scMer.nd (pi_list (pe_call G2 hr2 rfl g2 k2 b2 .nil pass0 (pa_cons (pv 0) pa_nil))) (blkOk_by (N := nMer) (sc := defScope sMer) (by decide +kernel))
          (fun _ _ _ _ _ => by exact pg_tup rfl (pgs_cons (pg_name (i := 10) scMer.nd rfl (.inl rfl)) (pgs_cons (pg_name (i := 9) scMer.nd rfl (.inl rfl)) pgs_nil))) (fun _ _ _ _ _ => pts_nil) (fun _ _ _ _ _ => by exact pe_call G3 hr2 rfl g3 k3 b3 .nil pass0 (pa_cons (pe_ix (r := rIxA K) ix_any (pv 0) (pv 10) (fun _ _ => rfl)) (pa_cons (pv 9) pa_nil)))) pa_nil)))
      (pss_cons (ps_set (i := 8) scMer.nd rfl (.inl rfl) (pe_callB (cr_any rfl) (by rfl) T.any boot_any' (pa_cons (pe_lc (own := [("library", 5)]) (g := gName 5) (tt := tYes) (te := tMeth C "stays" (spRb C fun p => p.stays) [] E0 (tVar 5) tNil) rfl scMer.nd (pi_seq (pv 0)) (blkOk_by (N := nMer) (sc := defScope sMer) (by decide +kernel))
          (fun _ _ _ _ _ => pg_name (i := 5) scMer.nd rfl (.inl rfl)) (fun _ _ _ _ _ => pts_nil) (fun _ _ _ _ _ => by exact pe_meth0 (pv 5) L.ok.cl mS GS hr1 bS .nil pass0)) pa_nil)))
      (pss_one (ps_ret (pe_make mI GI hr rfl T.gC bI .nil pass0 (pa_cons (pe_callTy (call_listD rfl) (by rfl) T.list boot_list' (pa_cons (pv 1) pa_nil)) (pa_cons (pe_callTy (call_listD rfl) (by rfl) T.list boot_list' (pa_cons (pv 2) pa_nil)) (pa_cons (pv 6) (pa_cons (pe_callTy (call_listD rfl) (by rfl) T.list boot_list' (pa_cons (pv 4) pa_nil)) (pa_cons (pv 7) (pa_cons (pv 8) pa_nil))))))))))))))))), ?_⟩
    refine ⟨_, rfl, a, ps, rfl, gv, ne, fun H1 v m1 bv => ⟨rfl, _, rfl, ?_⟩⟩
    rcases q with ⟨hb, q⟩ | ⟨hb, q⟩
    · have nv : decide (v = V.non) = false := by
        generalize barOf ps = B at bv hb
        cases bv with
        | none => exact absurd rfl hb
        | two h => rfl
        | mixed h _ _ => rfl
      rw [nv]
      exact iteT (q H1 m1)
    rw [hb] at bv
    cases bv
    refine iteF ?_
    intro d1 n1
    intro d2 n2
    intro d3 n3
    intro d4 n4
    have hm1 := sNew (o := .dK []) m1 n1
    have hm2 := sNew (o := .dK []) hm1 n2
    have hm3 := sNew (o := .dK []) hm2 n3
    have hm4 := sNew (o := .dK []) hm3 n4
    have z1 := Same.free m1 n1
    have z2 := Same.free hm1 n2
    have z3 := Same.free hm2 n3
    have z4 := Same.free hm3 n4
    have e1 : (upd (upd (upd (upd H1 d1 (.dK [])) d2 (.dK [])) d3 (.dK [])) d4 (.dK [])) d1 = some (.dK []) := by
      have a1 : (upd H1 d1 (.dK [])) d1 = some (.dK []) := upd_same
      have a2 : (upd (upd H1 d1 (.dK [])) d2 (.dK [])) d1 = some (.dK []) := by rw [upd_ne (ne_of_none a1 n2)]; exact a1
      have a3 : (upd (upd (upd H1 d1 (.dK [])) d2 (.dK [])) d3 (.dK [])) d1 = some (.dK []) := by rw [upd_ne (ne_of_none a2 n3)]; exact a2
      rw [upd_ne (ne_of_none a3 n4)]
      exact a3
    have e2 : (upd (upd (upd (upd H1 d1 (.dK [])) d2 (.dK [])) d3 (.dK [])) d4 (.dK [])) d2 = some (.dK []) := by
      have a2 : (upd (upd H1 d1 (.dK [])) d2 (.dK [])) d2 = some (.dK []) := upd_same
      have a3 : (upd (upd (upd H1 d1 (.dK [])) d2 (.dK [])) d3 (.dK [])) d2 = some (.dK []) := by rw [upd_ne (ne_of_none a2 n3)]; exact a2
      rw [upd_ne (ne_of_none a3 n4)]
      exact a3
    have e3 : (upd (upd (upd (upd H1 d1 (.dK [])) d2 (.dK [])) d3 (.dK [])) d4 (.dK [])) d3 = some (.dK []) := by
      have a3 : (upd (upd (upd H1 d1 (.dK [])) d2 (.dK [])) d3 (.dK [])) d3 = some (.dK []) := upd_same
      rw [upd_ne (ne_of_none a3 n4)]
      exact a3
    have e4 : (upd (upd (upd (upd H1 d1 (.dK [])) d2 (.dK [])) d3 (.dK [])) d4 (.dK [])) d4 = some (.dK []) := upd_same
    have ne12 : d1 ≠ d2 := ne_of_none upd_same n2
    have ne13 : d1 ≠ d3 := ne_of_none (by rw [upd_ne ne12]; exact upd_same) n3
    have ne14 : d1 ≠ d4 := ne_of_none (by rw [upd_ne ne13, upd_ne ne12]; exact upd_same) n4
    have ne23 : d2 ≠ d3 := ne_of_none upd_same n3
    have ne24 : d2 ≠ d4 := ne_of_none (by rw [upd_ne ne23]; exact upd_same) n4
    have ne34 : d3 ≠ d4 := ne_of_none upd_same n4
    generalize upd (upd (upd (upd H1 d1 (.dK [])) d2 (.dK [])) d3 (.dK [])) d4 (.dK []) = H5 at hm4 e1 e2 e3 e4
    have wsT : ∀ k, Ws (gather (fun p => canon p.tells) (ps.take k)) := fun k => ws_gather fun p hp x hx => (canon_ws (pk p (List.mem_of_mem_take hp)).tells.ok).ok x hx
    have wsW : ∀ k, Ws (gather (fun p => canon p.wants) (ps.take k)) := fun k => ws_gather fun p hp x hx => (canon_ws (pk p (List.mem_of_mem_take hp)).wants.ok).ok x hx
    have wsA : ∀ k, Ws (gather (fun p => canon p.asks) (ps.take k)) := fun k => ws_gather fun p hp x hx => (canon_ws (pk p (List.mem_of_mem_take hp)).asks.ok).ok x hx
    have wsN : ∀ k, Ws (gather (fun p => p.needs) (ps.take k)) := fun k => ws_gather fun p hp x hx => (pk p (List.mem_of_mem_take hp)).needs.ok x hx
    refine seq_itG rfl (ha.same hm4) fun J W => ?_
    refine for_it W (fun i σ H' => Same H H' ∧ (H' d1 = some (.dK (seenK (gather (fun p => canon p.tells) (ps.take i)))) ∧ H' d2 = some (.dK (seenK (gather (fun p => canon p.wants) (ps.take i)))) ∧ H' d3 = some (.dK (seenK (gather (fun p => canon p.asks) (ps.take i)))) ∧ H' d4 = some (.dK (seenK (gather (fun p => p.needs) (ps.take i))))) ∧
      ∃ u, σ = [some (.ref a), some (.ref d1), some (.ref d2), some (.ref d3), some (.ref d4), u, none, none, none, none, none]) ⟨hm4, ⟨e1, e2, e3, e4⟩, none, rfl⟩ (fun i σ H' _ z => ha.keep hm4 z.1) ?_ ?_
    · rintro i x σ H2 H3 hi ⟨m, ⟨f1, f2, f3, f4⟩, u, rfl⟩ ⟨rfl, hx⟩
      obtain ⟨p, y, hp, rfl, lb⟩ := (hL.same m).at hx
      have pkp := pk p (List.mem_of_getElem? hp)
      have et : ps.take (i + 1) = ps.take i ++ [p] := by rw [List.take_add_one, hp]; rfl
      have libOf : ∀ H', Same H H' → LibAt C H' y p := fun H' m' => by
        obtain ⟨p', y', hp', e', lb'⟩ := (hL.same m').at hx
        cases e'
        rw [hp] at hp'
        cases hp'
        exact lb'
      refine upd_names (K := K) (m := "tells") (g := fun p => canon p.tells) (i := 1) rfl rfl (by show 10 < 11; decide) lb (by decide) (canon_ws pkp.tells.ok) f1 (wsT i).len fun H4 k1 g1 => ?_
      have s1 := kpNew m z1 k1
      refine upd_names (K := K) (m := "wants") (g := fun p => canon p.wants) (i := 2) rfl rfl (by show 10 < 11; decide) (libOf _ s1) (by decide) (canon_ws pkp.wants.ok) (k1 _ _ ne12.symm f2) (wsW i).len fun H6 k2 g2 => ?_
      have s2 := kpNew s1 z2 k2
      refine upd_names (K := K) (m := "asks") (g := fun p => canon p.asks) (i := 3) rfl rfl (by show 10 < 11; decide) (libOf _ s2) (by decide) (canon_ws pkp.asks.ok) (k2 _ _ ne23.symm (k1 _ _ ne13.symm f3)) (wsA i).len fun H7 k3 g3' => ?_
      have s3 := kpNew s2 z3 k3
      refine upd_names (K := K) (m := "needs") (g := fun p => p.needs) (i := 4) rfl rfl (by show 10 < 11; decide) (libOf _ s3) (by decide) pkp.needs (k3 _ _ ne34.symm (k2 _ _ ne24.symm (k1 _ _ ne14.symm f4))) (wsN i).len fun H8 k4 g4 => ?_
      have s4 := kpNew s3 z4 k4
      refine ⟨s4, ⟨?_, ?_, ?_, ?_⟩, _, rfl⟩
      · rw [et, gather_snoc]
        exact k4 _ _ ne14 (k3 _ _ ne13 (k2 _ _ ne12 g1))
      · rw [et, gather_snoc]
        exact k4 _ _ ne24 (k3 _ _ ne23 g2)
      · rw [et, gather_snoc]
        exact k4 _ _ ne34 g3'
      · rw [et, gather_snoc]
        exact g4
    · rintro σ H6 ⟨m6, ⟨f1, f2, f3, f4⟩, u, rfl⟩
      rw [hL.1, List.take_of_length_le (Nat.le_refl _)] at f1 f2 f3 f4
      have wT : Ws (gather (fun p => canon p.tells) ps) := by have := wsT ps.length; rwa [List.take_of_length_le (Nat.le_refl _)] at this
      have wW : Ws (gather (fun p => canon p.wants) ps) := by have := wsW ps.length; rwa [List.take_of_length_le (Nat.le_refl _)] at this
      have wA : Ws (gather (fun p => canon p.asks) ps) := by have := wsA ps.length; rwa [List.take_of_length_le (Nat.le_refl _)] at this
      have wN : Ws (gather (fun p => p.needs) ps) := by have := wsN ps.length; rwa [List.take_of_length_le (Nat.le_refl _)] at this
      have lA := wA.len
      refine ⟨d3, _, f3, True.intro, fun od => ?_⟩
      refine ⟨_, rfl, d3, od, rfl, .inl ⟨_, upd_same, fun D nD => ?_⟩⟩
      have nD3 : D ≠ d3 := (ne_of_none upd_same nD).symm
      have nD6 : H6 D = none := by rw [upd_ne nD3] at nD; exact nD
      have nDd2 : d2 ≠ D := ne_of_none f2 nD6
      refine lc_it walk_keys (fun i H' => Same (upd H6 d3 (.frz od (.dK (seenK (gather (fun p => canon p.asks) ps))))) H' ∧ H' D = some (.lst ((((gather (fun p => canon p.asks) ps).take i).filter (fun x => decide (x ∉ gather (fun p => canon p.wants) ps))).map V.str))) ⟨sNew (Same.refl _) nD, upd_same⟩ (fun i H' _ z => z.1 _ _ upd_same) ?_ ?_
      · rintro i v H7 H8 hi ⟨m7, eD⟩ ⟨rfl, k, w1, hk, rfl⟩
        have hk2 : ∃ x, (gather (fun p => canon p.asks) ps)[i]? = some x ∧ k = Sum.inr x := by
          unfold seenK at hk
          rw [List.getElem?_map] at hk
          cases e : (gather (fun p => canon p.asks) ps)[i]? with
          | none => rw [e] at hk; cases hk
          | some x =>
            rw [e] at hk
            have := Option.some.inj hk
            exact ⟨x, rfl, (congrArg Prod.fst this).symm⟩
        obtain ⟨x, hx, rfl⟩ := hk2
        have il : i < (gather (fun p => canon p.asks) ps).length := (List.getElem?_eq_some_iff.mp hx).1
        have f2' : H8 d2 = some (.dK (seenK (gather (fun p => canon p.wants) ps))) := m7 _ _ (by rw [upd_ne ne23]; exact f2)
        refine ⟨rfl, _, rfl, _, rfl, d2, _, rfl, DGet.k (k := Sum.inr x) f2', _, rfl, ?_⟩
        by_cases c : x ∈ gather (fun p => canon p.wants) ps
        · rw [seen_val_in _ _ c]
          refine iteF ⟨m7, ?_⟩
          rw [filter_step _ hx, if_neg (by rw [decide_eq_true_eq]; exact fun z => z c), List.append_nil]
          exact eD
        · rw [seen_val _ _ c]
          refine iteT ⟨_, rfl, _, eD, ?_, sOwn' m7 nD, ?_⟩
          · rw [List.length_map]
            have := List.length_filter_le (fun x => decide (x ∉ gather (fun p => canon p.wants) ps)) ((gather (fun p => canon p.asks) ps).take i)
            rw [List.length_take] at this
            exact Nat.lt_of_le_of_lt (show _ ≤ 7 by omega) (by decide)
          · rw [upd_same, filter_step _ hx, if_pos (by rw [decide_eq_true_eq]; exact c), List.map_append]
            rfl
      · rintro H7 ⟨m7, eD⟩
        rw [seen_len, List.take_of_length_le (Nat.le_refl _)] at eD
        refine ⟨m7 _ _ upd_same, ?_⟩
        have m8 : Same H (upd H7 d3 (.dK (seenK (gather (fun p => canon p.asks) ps)))) := fun b o e => by
          have nb : b ≠ d3 := ne_of_none e z3
          rw [upd_ne nb]
          exact m7 _ _ (by rw [upd_ne nb]; exact m6 _ _ e)
        have t1 : (upd H7 d3 (.dK (seenK (gather (fun p => canon p.asks) ps)))) d1 = some (.dK (seenK (gather (fun p => canon p.tells) ps))) := by
          rw [upd_ne ne13]
          exact m7 _ _ (by rw [upd_ne ne13]; exact f1)
        have t2 : (upd H7 d3 (.dK (seenK (gather (fun p => canon p.asks) ps)))) d2 = some (.dK (seenK (gather (fun p => canon p.wants) ps))) := by
          rw [upd_ne ne23]
          exact m7 _ _ (by rw [upd_ne ne23]; exact f2)
        have t4 : (upd H7 d3 (.dK (seenK (gather (fun p => canon p.asks) ps)))) d4 = some (.dK (seenK (gather (fun p => p.needs) ps))) := by
          rw [upd_ne ne34.symm]
          exact m7 _ _ (by rw [upd_ne ne34.symm]; exact f4)
        have tD : (upd H7 d3 (.dK (seenK (gather (fun p => canon p.asks) ps)))) D = some (.lst (((gather (fun p => canon p.asks) ps).filter (fun x => decide (x ∉ gather (fun p => canon p.wants) ps))).map V.str)) := by
          rw [upd_ne nD3]
          exact eD
        generalize upd H7 d3 (.dK (seenK (gather (fun p => canon p.asks) ps))) = H9 at m8 t1 t2 t4 tD
        have rl := refsFrom_len ps 0
        refine ⟨_, rfl, a, ps, rfl, gv.same m8, fun H10 l rs m9 nl el rf => ?_⟩
        have m10 := m8.trans m9
        refine ⟨l, rfl, ⟨rs, .of el⟩, fun D2 nD2 => ?_⟩
        refine lc_own (t := ownAt ps) el rf nD2 (by omega) (fun k r H' Q' hk mm kk => ?_) (fun H11 m11 eD2 => ?_)
        · have lt := (refs_lt ps 0 r (List.mem_of_getElem? hk)).2
          rw [Nat.zero_add] at lt
          obtain ⟨y, hy, lb⟩ := (hL.same (m10.trans mm)).get (List.getElem?_eq_getElem lt)
          refine ⟨_, rfl, _, rfl, ixSq (ha.same (m10.trans mm)) hy ⟨_, rfl, y, r.2, ps[r.1], rfl, lb, fun H'' m7' => ?_⟩⟩
          have := kk H'' m7'
          unfold ownAt at this
          rw [pAt_of (List.getElem?_eq_getElem lt)] at this
          exact this
        refine ⟨D2, _, rfl, .of eD2, ?_⟩
        have m12 := m10.trans m11
        have ma := m9.trans m11
        refine seq_it rfl (ha.same m12) fun J W => fun D3 nD3' => ?_
        refine lc_it W (fun i H' => Same H11 H' ∧ H' D3 = some (.lst (((ps.map fun p => p.stays).take i).map V.bl))) ⟨sNew (Same.refl _) nD3', upd_same⟩ (fun i H' _ z => z.1) ?_ ?_
        · rintro i v H12 H13 hi ⟨m13, eD3⟩ ⟨rfl, hv⟩
          obtain ⟨p, x, hp, rfl, lb⟩ := (hL.same (m12.trans m13)).at hv
          obtain ⟨dx, fs, e0, no⟩ := lb.ins
          have il : i < ps.length := (List.getElem?_eq_some_iff.mp hp).1
          refine ⟨rfl, _, rfl, x, dx, fs, rfl, e0, no _ (by decide), x, p, rfl, lb, _, eD3, ?_, sOwn' m13 nD3', ?_⟩
          · rw [List.length_map, List.length_take]
            exact Nat.lt_of_lt_of_le (show min i _ < 8 by omega) (by decide)
          · rw [upd_same, List.take_add_one, List.getElem?_map, hp, List.map_append]
            rfl
        · rintro H12 ⟨m13, eD3⟩
          rw [hL.1, List.take_of_length_le (by simp)] at eD3
          refine ⟨D3, _, rfl, .of eD3, ?_⟩
          have m14 := m12.trans m13
          have mb := ma.trans m13
          have eo : ((refsFrom 0 ps).map (ownAt ps)).any id = (mergedOf ps).own := own_any _ _
          have es : (ps.map fun p => p.stays).any id = (mergedOf ps).stays := by
            rw [List.any_map]
            rfl
          rw [eo, es]
          refine ⟨_, rfl, d1, _, rfl, .inl (mb _ _ t1), fun l1 nl1 => ?_⟩
          have c1' := sNew (o := .lst ((seenK (gather (fun p => canon p.tells) ps)).map fun kv => kV kv.1)) mb nl1
          refine ⟨_, rfl, d2, _, rfl, .inl (c1' _ _ t2), fun l2 nl2 => ?_⟩
          have c2' := sNew (o := .lst ((seenK (gather (fun p => canon p.wants) ps)).map fun kv => kV kv.1)) c1' nl2
          refine ⟨_, rfl, _, rfl, d4, _, rfl, .inl (c2' _ _ t4), fun l4 nl4 => ?_⟩
          have c4' := sNew (o := .lst ((seenK (gather (fun p => p.needs) ps)).map fun kv => kV kv.1)) c2' nl4
          refine ⟨_, rfl, _, rfl, fun x dx nx ndx ndxx => ?_⟩
          have mall := m8.trans c4'
          have zx : H x = none := Same.free mall nx
          have zdx : H dx = none := Same.free mall ndx
          have ka : ∀ (b : Addr) (us : List V), H12 b = some (.lst us) → True := fun _ _ _ => True.intro
          have g1 : ∀ {Hq : Hp}, Same H9 Hq → True := fun _ => True.intro
          have v1 : (upd (upd (upd H12 l1 (.lst ((seenK (gather (fun p => canon p.tells) ps)).map fun kv => kV kv.1))) l2 (.lst ((seenK (gather (fun p => canon p.wants) ps)).map fun kv => kV kv.1))) l4 (.lst ((seenK (gather (fun p => p.needs) ps)).map fun kv => kV kv.1))) l1 = some (.lst ((gather (fun p => canon p.tells) ps).map V.str)) := by
            have a1 : (upd H12 l1 (.lst ((seenK (gather (fun p => canon p.tells) ps)).map fun kv => kV kv.1))) l1 = some (.lst ((seenK (gather (fun p => canon p.tells) ps)).map fun kv => kV kv.1)) := upd_same
            have a2 := sNew (o := .lst ((seenK (gather (fun p => canon p.wants) ps)).map fun kv => kV kv.1)) (Same.refl _) nl2 _ _ a1
            have a3 := sNew (o := .lst ((seenK (gather (fun p => p.needs) ps)).map fun kv => kV kv.1)) (Same.refl _) nl4 _ _ a2
            rw [a3, seen_keys]
          have v2 : (upd (upd (upd H12 l1 (.lst ((seenK (gather (fun p => canon p.tells) ps)).map fun kv => kV kv.1))) l2 (.lst ((seenK (gather (fun p => canon p.wants) ps)).map fun kv => kV kv.1))) l4 (.lst ((seenK (gather (fun p => p.needs) ps)).map fun kv => kV kv.1))) l2 = some (.lst ((gather (fun p => canon p.wants) ps).map V.str)) := by
            have a2 : (upd (upd H12 l1 (.lst ((seenK (gather (fun p => canon p.tells) ps)).map fun kv => kV kv.1))) l2 (.lst ((seenK (gather (fun p => canon p.wants) ps)).map fun kv => kV kv.1))) l2 = some (.lst ((seenK (gather (fun p => canon p.wants) ps)).map fun kv => kV kv.1)) := upd_same
            have a3 := sNew (o := .lst ((seenK (gather (fun p => p.needs) ps)).map fun kv => kV kv.1)) (Same.refl _) nl4 _ _ a2
            rw [a3, seen_keys]
          have v4 : (upd (upd (upd H12 l1 (.lst ((seenK (gather (fun p => canon p.tells) ps)).map fun kv => kV kv.1))) l2 (.lst ((seenK (gather (fun p => canon p.wants) ps)).map fun kv => kV kv.1))) l4 (.lst ((seenK (gather (fun p => p.needs) ps)).map fun kv => kV kv.1))) l4 = some (.lst ((gather (fun p => p.needs) ps).map V.str)) := by
            rw [upd_same, seen_keys]
          have vD := c4' _ _ tD
          generalize (upd (upd (upd H12 l1 (.lst ((seenK (gather (fun p => canon p.tells) ps)).map fun kv => kV kv.1))) l2 (.lst ((seenK (gather (fun p => canon p.wants) ps)).map fun kv => kV kv.1))) l4 (.lst ((seenK (gather (fun p => p.needs) ps)).map fun kv => kV kv.1))) = HZ at v1 v2 v4 vD mall nx ndx
          have mA := sNew (o := .own x) (Same.refl HZ) ndx
          have nx2 : (upd HZ dx (.own x)) x = none := by rw [upd_ne ndxx.symm]; exact nx
          have mB := sNew (o := .ins C dx []) mA nx2
          refine ⟨x, dx, l1, l2, D, l4, mergedOf ps, rfl, upd_same, .inl (mB _ _ v1), .inl (mB _ _ v2), .inl (mB _ _ vD), .inl (mB _ _ v4), merged_ok pk, fun H' kx lbx => ⟨rfl, ?_⟩⟩
          exact q H' x (kpNew (mall.trans mB) zx kx) zx lbx.at
end
end K30
set_option Elab.async false
set_option linter.all false
set_option maxRecDepth 100000
set_option maxHeartbeats 4000000
namespace K30
open PySem PySem.Spec PyProof.Rows L2
abbrev sSpr : Stmt := top 28
abbrev sTak : Stmt := top 29
abbrev sOne : Stmt := top 30
abbrev sMix : Stmt := top 31
abbrev sSam : Stmt := top 32
abbrev sSho : Stmt := top 33
def Spr (S : Addr) (n : Nat) (H : Hp) : Prop := ∃ a b c : Int, H S = some (.lst [.int a, .int b, .int c]) ∧ 0 ≤ b ∧ b < 2147483647 ∧ 0 ≤ c ∧ c ≤ n
theorem Spr.le {S : Addr} {n m : Nat} {H : Hp} (s : Spr S n H) (h : n ≤ m) : Spr S m H := by
  obtain ⟨a, b, c, e, h1, h2, h3, h4⟩ := s
  exact ⟨a, b, c, e, h1, h2, h3, by omega⟩
theorem Spr.same {S : Addr} {n : Nat} {H H' : Hp} (s : Spr S n H) (m : Same H H') : Spr S n H' := by
  obtain ⟨a, b, c, e, h⟩ := s
  exact ⟨a, b, c, m _ _ e, h⟩
theorem Spr.ne {S : Addr} {n : Nat} {H : Hp} (s : Spr S n H) {q : Addr} (h : H q = none) : q ≠ S := by
  obtain ⟨a, b, c, e, _⟩ := s
  exact (ne_of_none e h).symm
theorem Spr.upd {S : Addr} {n : Nat} {H : Hp} (s : Spr S n H) {q : Addr} {o : HO} (h : q ≠ S) : Spr S n (upd H q o) := by
  obtain ⟨a, b, c, e, r⟩ := s
  exact ⟨a, b, c, by rw [upd_ne h.symm]; exact e, r⟩
/-! ### promises -/
def spSpr (K : PySem.W.Frag) : Sp := fun vs H Q _ => ∃ (a : Addr) (ns : List Int) (k : Nat), vs = [.ref a, .int (k : Nat)] ∧ SqL K H a (ns.map V.int) ∧ ns.length ≤ 1000 ∧ k ≤ 1000 ∧ ∀ H' p, Same H H' → H p = none → Spr p 0 H' → Q (.ref p) H'
def most : Nat := 1000000000000
def spTak : Sp := fun vs H Q _ => ∃ (S : Addr) (n : Nat) (m : Int), vs = [.ref S, .int m] ∧ Spr S n H ∧ n < most ∧ 1 ≤ m ∧ m < 1000000 ∧ ∀ H' (r : Nat), Kp S H H' → Spr S (n + 1) H' → (r : Int) < m → Q (.int (r : Nat)) H'
section
variable {P : Program} {w : World} {K : PySem.W.Frag} {mg : Str → Option Value} {base : Heap} {C : Addr}
def nSpr : List Str := ["script", "k", "cell", "blend", "one"]
theorem scSpr : FnScope nSpr ["script", "k"] (defScope sSpr) := ⟨rfl, rfl, rfl, by decide +kernel, rfl, by decide +kernel, by decide +kernel⟩
theorem ok_spr {f : Addr} {fd : FuncData} (F : Fun K "_law_spring" "_law_spring" sSpr f fd) (T : Txt K mg C) : FnOk P w K mg base CX0 1 f fd ["script", "k"] (spSpr K) := by
  refine F.ok scSpr (fun vs H Q E h => ?_) (fun cdv A outer s H vs Q E hr h => ?_)
  · obtain ⟨a, ns, k, rfl, _⟩ := h
    rfl
  · obtain ⟨a, ns, k, rfl, hS, hl, hk, q⟩ := h
    refine ⟨_, Evl.pss_cut (ps_set (i := 2) scSpr.nd rfl (.inl rfl) (pe_ifExp (pt_cmpR op_lt (pv 1) (pe_callB call_len_seq (by rfl) T.len PySem.boot_len (pa_cons (pv 0) pa_nil)) (nomark _)) (pe_ix ix_list (pv 0) (pv 1) (fun _ _ => rfl))
          (pe_op op_add (pe_op op_mod (pe_callTy call_int1 (by rfl) T.int boot_int' (pa_cons (pe_callB (cr_sum rfl) (by rfl) T.sum boot_sum' (pa_cons (pe_slice sl_list (pv 0) po_none (po_some pe_int)) pa_nil)) pa_nil)) pe_int) (pe_op op_mul pe_int (pv 1)))))
      (pss_cons (ps_set (i := 3) scSpr.nd rfl (.inl rfl) (pe_op op_add pe_int (pv 1)))
      (pss_cons (ps_for PassesOwn.never rfl (pi_list (pe_slice sl_list (pv 0) po_none (po_some pe_int))) (pg_name (i := 4) scSpr.nd rfl (.inl rfl))
        (pss_one (ps_set (i := 3) scSpr.nd rfl (.inl rfl) (pe_op op_mod (pe_callTy call_int1 (by rfl) T.int boot_int' (pa_cons (pe_op op_add (pe_op op_mul (pv 3) pe_int) (pv 4)) pa_nil)) pe_int))))
      (pss_one (ps_ret (pe_lst (pa_cons (pe_ifExp (pt_cmpR op_ge (pe_callB call_abs (by rfl) T.abs boot_abs' (pa_cons (pv 2) pa_nil)) (pe_op op_pow pe_int pe_int) (nomark _)) (pe_callB call_abs (by rfl) T.abs boot_abs' (pa_cons (pv 2) pa_nil)) pe_int)
        (pa_cons (pe_op op_mod (pe_callTy call_int1 (by rfl) T.int boot_int' (pa_cons (pe_op op_add (pv 2) (pv 3)) pa_nil)) pe_int) (pa_cons pe_int pa_nil)))))))), ?_⟩
    refine ⟨fun σ H' => Same H H' ∧ ∃ cell : Int, σ = [some (.ref a), some (.int (k : Nat)), some (.int cell), none, none], ?_, ?_⟩
    · refine ⟨_, rfl, _, rfl, a, _, rfl, .inl hS, _, _, rfl, rfl, _, rfl, ?_⟩
      refine ite2 (fun c => ?_) (fun c => ?_)
      · have c' : k < ns.length := by
          have z := of_decide_eq_true c
          simp at z
          exact z
        refine ⟨_, rfl, _, rfl, a, _, _, _, rfl, rfl, hS, atI_nat (v := .int ns[k]) (by rw [List.getElem?_map, List.getElem?_eq_getElem c']; rfl), ?_⟩
        exact ⟨Same.refl H, _, rfl⟩
      · refine ⟨_, rfl, 1, rfl, a, _, rfl, hS, fun p np => ?_⟩
        have m1 := sNew (o := .lst (cutV (ns.map V.int) none (some 1))) (Same.refl H) np
        refine ⟨p, ns.take 1, rfl, .of ?_, .inl ⟨_, rfl, _, _, rfl, rfl, (by show (0 : Int) < 1000003; decide), _, rfl, _, _, rfl, rfl, .inl ⟨by decide, by decide⟩, _, _, rfl, rfl, m1, _, rfl⟩⟩
        rw [upd_same, List.map_take]
        exact congrArg (fun z => some (HO.lst z)) (cut_to _ 1)
    · rintro σ H1 ⟨m1, cell, rfl⟩
      refine ⟨_, rfl, _, _, rfl, rfl, ?_⟩
      refine ⟨_, rfl, 64, rfl, a, _, rfl, m1.seq hS, fun p np => ⟨p, rfl, ⟨_, .of upd_same⟩, ?_⟩⟩
      have m2 := sNew (o := .lst (cutV (ns.map V.int) none (some 64))) m1 np
      have e64 : cutV (ns.map V.int) none (some 64) = (ns.take 64).map V.int := by
        rw [List.map_take]
        exact cut_to _ 64
      refine for_list (K := K) (a := p) (xs := (ns.take 64).map V.int) (fun i σ H' => Same (upd H1 p (.lst (cutV (ns.map V.int) none (some 64)))) H' ∧ ∃ (b : Int) (u : Option V), σ = [some (.ref a), some (.int (k : Nat)), some (.int cell), some (.int b), u] ∧ 0 ≤ b ∧ b < 2147483647)
        ⟨Same.refl _, _, none, rfl, by omega, by omega⟩ (fun i σ H' _ z => .of (by rw [← e64]; exact z.1 _ _ upd_same)) ?_ ?_
      · rintro i x σ H' hi ⟨m3, b, u, rfl, b0, b1⟩
        obtain ⟨z, hz, rfl⟩ := map_at hi
        refine ⟨_, rfl, _, _, rfl, rfl, .inl ⟨by omega, by omega⟩, _, rfl, _, _, rfl, rfl, .inl ⟨_, rfl, _, _, rfl, rfl, (by show (0 : Int) < 2147483647; decide), m3, _, _, rfl, ?_, ?_⟩⟩
        · exact Int.emod_nonneg _ (by decide)
        · exact Int.emod_lt_of_pos _ (by decide)
      · rintro σ H' ⟨m3, b, u, rfl, b0, b1⟩
        have mm := m2.trans m3
        have fin : ∀ x : Int, ∀ g, H' g = none → Q (.ref g) (upd H' g (.lst [.int x, .int ((cell + b) % 2147483647), .int 0])) := fun x g ng => by
          refine q _ g (sNew mm ng) (Same.free mm ng) ⟨x, _, 0, upd_same, Int.emod_nonneg _ (by decide), Int.emod_lt_of_pos _ (by decide), by decide, by decide⟩
        refine ⟨_, rfl, _, rfl, _, _, rfl, rfl, ⟨by decide, by decide, by decide⟩, _, _, rfl, rfl, _, rfl, ?_⟩
        refine ite2 (fun c => ?_) (fun c => ?_)
        · exact ⟨_, rfl, _, rfl, _, rfl, _, rfl, _, _, rfl, rfl, .inl ⟨_, rfl, _, _, rfl, rfl, (by show (0 : Int) < 2147483647; decide), (by show 3 ≤ sizeLine; decide), fun g ng => fin _ g ng⟩⟩
        · exact ⟨_, rfl, _, rfl, _, _, rfl, rfl, .inl ⟨_, rfl, _, _, rfl, rfl, (by show (0 : Int) < 2147483647; decide), (by show 3 ≤ sizeLine; decide), fun g ng => fin _ g ng⟩⟩
end
theorem nat_of {z m : Int} (h0 : 0 ≤ z) (h1 : z < m) : ∃ r : Nat, z = (r : Int) ∧ (r : Int) < m := ⟨z.toNat, by omega, by omega⟩
section
variable {P : Program} {w : World} {K : PySem.W.Frag} {mg : Str → Option Value} {base : Heap} {C : Addr}
def nTak : List Str := ["spring", "many", "digit", "spread"]
theorem scTak : FnScope nTak ["spring", "many"] (defScope sTak) := ⟨rfl, rfl, rfl, by decide +kernel, rfl, by decide +kernel, by decide +kernel⟩
theorem ok_tak {f : Addr} {fd : FuncData} (F : Fun K "_law_take" "_law_take" sTak f fd) (T : Txt K mg C) : FnOk P w K mg base CX0 1 f fd ["spring", "many"] spTak := by
  refine F.ok scTak (fun vs H Q E h => ?_) (fun cdv A outer s H vs Q E hr h => ?_)
  · obtain ⟨S, n, m, rfl, _⟩ := h
    rfl
  · obtain ⟨S, n, m, rfl, ⟨a, b, c, e, b0, b1, c0, c1⟩, hn, m1, m2, q⟩ := h
    refine ⟨_, pss_cons (ps_if (pt_cmpR op_gt (pe_ix ix_list (pv 0) pe_int (fun _ _ => rfl)) pe_int (nomark _))
        (pss_cons (ps_set (i := 2) scTak.nd rfl (.inl rfl) (pe_op op_mod (pe_callTy call_int1 (by rfl) T.int boot_int' (pa_cons (pe_ix ix_list (pv 0) pe_int (fun _ _ => rfl)) pa_nil)) (pv 1)))
        (pss_cons (ps_asg (pe_op op_fdivW (pe_ix ix_list (pv 0) pe_int (fun _ _ => rfl)) (pv 1)) (pg_sub (pv 0) pe_int set_list))
        (pss_one (ps_ret (pv 2))))) pss_nil)
      (pss_cons (ps_asg (pe_op op_add (pe_ix ix_list (pv 0) pe_int (fun _ _ => rfl)) pe_int) (pg_sub (pv 0) pe_int set_list))
      (pss_cons (ps_set (i := 3) scTak.nd rfl (.inl rfl) (pe_op op_mod (pe_callTy call_int1 (by rfl) T.int boot_int' (pa_cons (pe_op op_pow (pe_op op_add (pe_op op_add (pe_ix ix_list (pv 0) pe_int (fun _ _ => rfl)) (pe_op op_mul pe_int (pe_ix ix_list (pv 0) pe_int (fun _ _ => rfl)))) pe_int) pe_int) pa_nil)) pe_int))
      (pss_one (ps_ret (pe_op op_mod (pe_op op_fdiv (pe_op op_mod (pe_callTy call_int1 (by rfl) T.int boot_int' (pa_cons (pe_op op_mul (pe_op op_add (pv 3) (pe_ix ix_list (pv 0) pe_int (fun _ _ => rfl))) pe_int) pa_nil)) pe_int) pe_int) (pv 1)))))), ?_⟩
    refine ⟨_, rfl, S, _, _, _, rfl, rfl, .of e, atI_nat (j := 0) rfl, _, _, rfl, rfl, _, rfl, ?_⟩
    refine ite2 (fun _ => ?_) (fun _ => ?_)
    · obtain ⟨r, er, rm⟩ := nat_of (Int.emod_nonneg a (show m ≠ 0 by omega)) (Int.emod_lt_of_pos a (show 0 < m by omega))
      refine ⟨_, rfl, S, _, _, _, rfl, rfl, .of e, atI_nat (j := 0) rfl, .inl ⟨_, rfl, _, rfl, _, _, rfl, rfl, by omega, ?_⟩⟩
      refine ⟨_, rfl, S, _, _, _, rfl, rfl, .of e, atI_nat (j := 0) rfl, _, rfl, _, _, rfl, rfl, wide_div (b := 20) (by omega) (by omega) (by decide) (by decide), ?_⟩
      refine ⟨_, rfl, S, _, _, 0, rfl, rfl, e, rfl, _, rfl, ?_⟩
      show Q (V.int (a % m)) (upd H S (.lst [.int (a / m), .int b, .int c]))
      rw [er]
      exact q _ r (Kp.refl S H).spr ⟨_, b, c, upd_same, b0, b1, c0, by omega⟩ rm
    · refine ⟨_, rfl, S, _, _, _, rfl, rfl, .of e, atI_nat (j := 2) rfl, _, _, rfl, rfl, ?_⟩
      refine ⟨_, rfl, S, _, _, 2, rfl, rfl, e, rfl, ?_⟩
      have e1 : (upd H S (.lst [.int a, .int b, .int (c + 1)])) S = some (.lst [.int a, .int b, .int (c + 1)]) := upd_same
      unfold most at hn
      refine ⟨_, rfl, S, _, _, _, rfl, rfl, .of e1, atI_nat (j := 1) rfl, _, rfl, S, _, _, _, rfl, rfl, .of e1, atI_nat (j := 2) rfl, _, _, rfl, rfl, .inl ⟨by decide, by decide⟩, ?_⟩
      refine ⟨_, _, rfl, rfl, _, _, rfl, rfl, _, _, rfl, rfl, ⟨by decide, by decide, by omega⟩, .inl ⟨_, rfl, _, _, rfl, rfl, (by show (0 : Int) < 2147483647; decide), ?_⟩⟩
      refine ⟨_, rfl, _, rfl, S, _, _, _, rfl, rfl, .of e1, atI_nat (j := 2) rfl, _, _, rfl, rfl, _, _, rfl, rfl, .inr ⟨by decide, by decide⟩, .inl ⟨_, rfl, _, _, rfl, rfl, (by show (0 : Int) < 2147483629; decide), _, _, rfl, rfl, ⟨by decide, by decide⟩, _, rfl, _, _, rfl, rfl, by omega, ?_⟩⟩
      obtain ⟨r, er, rm⟩ := nat_of (Int.emod_nonneg (((b + 7919 * (c + 1) + 104729) ^ Int.toNat 5 % 2147483647 + (c + 1)) * 40692 % 2147483629 / 7) (show m ≠ 0 by omega)) (Int.emod_lt_of_pos (((b + 7919 * (c + 1) + 104729) ^ Int.toNat 5 % 2147483647 + (c + 1)) * 40692 % 2147483629 / 7) (show 0 < m by omega))
      show Q (V.int (((b + 7919 * (c + 1) + 104729) ^ Int.toNat 5 % 2147483647 + (c + 1)) * 40692 % 2147483629 / 7 % m)) (upd H S (.lst [.int a, .int b, .int (c + 1)]))
      rw [er]
      exact q _ r (Kp.refl S H).spr ⟨a, b, c + 1, e1, b0, b1, by omega, by omega⟩ rm
end
def rLenA (K : PySem.W.Frag) : List V → Hp → VK → Prop := fun xs H Q => ∃ p ys, xs = [.ref p] ∧ (SqL K H p ys ∨ SqT K H p ys) ∧ Q (.int ys.length) H
theorem call_lenA {X : Cx} : CallR X (.builtin "len") (rLenA X.K) := call_len_seq
/-! ### promises -/
def spOne : Sp := fun vs H Q _ => ∃ (S t : Addr) (n : Nat) (xs : List V), vs = [.ref S, .ref t] ∧ Spr S n H ∧ n < most ∧ t ≠ S ∧ Sq H t xs ∧ 1 ≤ xs.length ∧ xs.length < 1000000 ∧ ∀ H' v, Kp S H H' → Spr S (n + 1) H' → v ∈ xs → Q v H'
def spMix : Sp := fun vs H Q _ => ∃ (S t : Addr) (n : Nat) (xs : List V), vs = [.ref S, .ref t] ∧ Spr S n H ∧ n + xs.length < most ∧ Sq H t xs ∧ xs.length ≤ 1000 ∧
  ∀ H' p ys, Kp S H H' → Spr S (n + xs.length) H' → H p = none → p ≠ S → H' p = some (.lst ys) → ys.Perm xs → Q (.ref p) H'
def spSho : Sp := fun vs H Q _ => ∃ (S t : Addr) (n : Nat) (xs : List V), vs = [.ref S, .ref t] ∧ Spr S n H ∧ n < most ∧ t ≠ S ∧ Sq H t xs ∧ xs.length ≤ 1000 ∧
  ∀ H' p, Kp S H H' → Spr S (n + 1) H' → p ≠ S → (p = t ∨ H p = none) → Sq H' p xs → Q (.ref p) H'
theorem erase_perm : ∀ (l : List V) (r : Nat) (h : r < l.length), (l[r] :: l.eraseIdx r).Perm l
  | x :: l, 0, _ => List.Perm.refl _
  | x :: l, r + 1, h => by
    have h' : r < l.length := by simpa using h
    have ih := erase_perm l r h'
    exact (List.Perm.swap x (l[r]'h') (l.eraseIdx r)).trans (ih.cons x)
section
variable {P : Program} {w : World} {K : PySem.W.Frag} {mg : Str → Option Value} {base : Heap} {C : Addr}
theorem scOne : FnScope ["spring", "things"] ["spring", "things"] (defScope sOne) := ⟨rfl, rfl, rfl, by decide +kernel, rfl, by decide +kernel, by decide +kernel⟩
theorem ok_one {f : Addr} {fd : FuncData} (F : Fun K "_law_one" "_law_one" sOne f fd) (T : Txt K mg C) (ct : Cal P w K mg base 1 "_law_take" ["spring", "many"] spTak) : FnOk P w K mg base CX0 2 f fd ["spring", "things"] spOne := by
  obtain ⟨ft, fdt, GT, gt, kt, bt⟩ := ct.ex
  refine F.ok scOne (fun vs H Q E h => ?_) (fun cdv A outer s H vs Q E hr h => ?_)
  · obtain ⟨S, t, n, xs, rfl, _⟩ := h
    rfl
  · obtain ⟨S, t, n, xs, rfl, sp, hn, ne, ht, l1, l2, q⟩ := h
    refine ⟨_, pss_one (ps_ret (pe_ix ix_any (pv 1) (pe_call GT hr rfl gt kt bt .nil pass0 (pa_cons (pv 0) (pa_cons (pe_callB call_lenA (by rfl) T.len PySem.boot_len (pa_cons (pv 1) pa_nil)) pa_nil))) (fun _ _ => rfl))), ?_⟩
    refine ⟨_, rfl, _, rfl, _, rfl, t, xs, rfl, ht.seq, S, n, _, rfl, sp, hn, by omega, by omega, fun H1 r m1 s1 rl => ?_⟩
    have rl' : r < xs.length := by omega
    exact ixSq (ht.kp m1 ne) (List.getElem?_eq_getElem rl') (q H1 _ m1 s1 (List.getElem_mem rl'))
theorem scMix : FnScope ["spring", "things", "left", "turn"] ["spring", "things"] (defScope sMix) := ⟨rfl, rfl, rfl, by decide +kernel, rfl, by decide +kernel, by decide +kernel⟩
theorem ok_mix {f : Addr} {fd : FuncData} (F : Fun K "_law_mixed" "_law_mixed" sMix f fd) (T : Txt K mg C) (ct : Cal P w K mg base 1 "_law_take" ["spring", "many"] spTak) : FnOk P w K mg base CX0 2 f fd ["spring", "things"] spMix := by
  obtain ⟨ft, fdt, GT, gt, kt, bt⟩ := ct.ex
  refine F.ok scMix (fun vs H Q E h => ?_) (fun cdv A outer s H vs Q E hr h => ?_)
  · obtain ⟨S, t, n, xs, rfl, _⟩ := h
    rfl
  · obtain ⟨S, t, n, xs, rfl, sp, hn, ht, l2, q⟩ := h
    refine ⟨_, pss_cons (ps_set (i := 2) scMix.nd rfl (.inr rfl) (pe_callTy call_list_of (by rfl) T.list boot_list' (pa_cons (pv 1) pa_nil)))
      (pss_one (ps_ret (pe_lc (own := [("turn", 3)]) (g := gName 3) (tt := tYes) (te := tBM K "list" rPopAt (tVar 2) (tCons (tCall spTak [] E0 (tCons (tVar 0) (tCons (tCB (rLenA K) (tCons (tVar 2) tNil)) tNil))) tNil)) rfl scMix.nd
        (pi_range1 (by rfl) T.rng (pa_cons (pe_callB call_lenA (by rfl) T.len PySem.boot_len (pa_cons (pv 2) pa_nil)) pa_nil)) (blkOk_by (N := ["spring", "things", "left", "turn"]) (sc := defScope sMix) (by decide +kernel))
        (fun _ _ _ _ _ => pg_name (i := 3) scMix.nd rfl (.inl rfl)) (fun _ _ _ _ _ => pts_nil)
        (fun _ _ _ _ _ => by exact pe_bm PySem.F.plainAttrs_list PySem.F.slot_list_pop PySem.F.type_list_pop mt_popAt (pv 2) (pa_cons (pe_call GT hr rfl gt kt bt .nil pass0 (pa_cons (pv 0) (pa_cons (pe_callB call_lenA (by rfl) T.len PySem.boot_len (pa_cons (pv 2) pa_nil)) pa_nil))) pa_nil))))), ?_⟩
    refine ⟨_, rfl, t, xs, rfl, ht.seq, fun l nl => ?_⟩
    have m1 := sNew (o := .lst xs) (Same.refl H) nl
    have lS : l ≠ S := sp.ne nl
    have lenI : ((xs.length : Nat) : Int).toNat = xs.length := by omega
    refine ⟨_, rfl, l, xs, rfl, .inl (.of upd_same), _, rfl, by omega, by omega, fun D nD => ?_⟩
    have DS : D ≠ S := (sp.upd lS).ne nD
    have lD : l ≠ D := ne_of_none upd_same nD
    rw [lenI]
    refine lc_range (lo := 0) (n := xs.length) (fun i H' => Kp S H H' ∧ Spr S (n + i) H' ∧ ∃ acc rest, H' D = some (.lst acc) ∧ H' l = some (.lst rest) ∧ (acc ++ rest).Perm xs ∧ acc.length = i) ?_ ?_ ?_
    · exact ⟨(sNew m1 nD).kp, (sp.upd lS).upd DS, [], xs, upd_same, by rw [upd_ne lD]; exact upd_same, by simp, rfl⟩
    · rintro i H' hi ⟨k1, s1, acc, rest, eD, el, pm, la⟩
      have pl := pm.length_eq
      rw [List.length_append] at pl
      refine ⟨rfl, _, rfl, .inl ⟨rfl, _, .of el⟩, _, rfl, _, rfl, l, rest, rfl, .inl (.of el), S, n + i, _, rfl, s1, by omega, by omega, by omega, fun H2 r k2 s2 rl => ?_⟩
      have rl' : r < rest.length := by omega
      have eD2 : H2 D = some (.lst acc) := k2 _ _ DS eD
      have el2 : H2 l = some (.lst rest) := k2 _ _ lS el
      refine ⟨l, rest, _, r, rest[r], rfl, rfl, el2, by omega, by omega, ?_, List.getElem?_eq_getElem rl', acc, by rw [upd_ne lD.symm]; exact eD2, Nat.lt_of_lt_of_le (show acc.length < 1001 by omega) (by decide), ?_⟩
      · have z := seqIndex_of (k := (r : Int)) (n := rest.length) (by omega) rl
        exact z
      · refine ⟨((k1.trans k2).own nl).own (Same.free m1 nD), ((s2.upd lS).upd DS).le (by omega), _, rest.eraseIdx r, upd_same, by rw [upd_ne lD]; exact upd_same, ?_, by simp [la]⟩
        have z := erase_perm rest r rl'
        rw [List.append_assoc]
        exact (List.Perm.append_left acc z).trans pm
    · rintro H' ⟨k1, s1, acc, rest, eD, el, pm, la⟩
      have pl := pm.length_eq
      rw [List.length_append] at pl
      have er : rest = [] := List.eq_nil_of_length_eq_zero (by omega)
      subst er
      rw [List.append_nil] at pm
      exact q H' D acc k1 s1 (Same.free m1 nD) DS eD pm
theorem scSho : FnScope ["spring", "things"] ["spring", "things"] (defScope sSho) := ⟨rfl, rfl, rfl, by decide +kernel, rfl, by decide +kernel, by decide +kernel⟩
theorem ok_sho {f : Addr} {fd : FuncData} (F : Fun K "_law_shown" "_law_shown" sSho f fd) (T : Txt K mg C) (ct : Cal P w K mg base 1 "_law_take" ["spring", "many"] spTak) : FnOk P w K mg base CX0 2 f fd ["spring", "things"] spSho := by
  obtain ⟨ft, fdt, GT, gt, kt, bt⟩ := ct.ex
  refine F.ok scSho (fun vs H Q E h => ?_) (fun cdv A outer s H vs Q E hr h => ?_)
  · obtain ⟨S, t, n, xs, rfl, _⟩ := h
    rfl
  · obtain ⟨S, t, n, xs, rfl, sp, hn, ne, ht, l2, q⟩ := h
    refine ⟨_, pss_one (ps_ret (pe_ifExp (pt_cmpR op_eq (pe_call GT hr rfl gt kt bt .nil pass0 (pa_cons (pv 0) (pa_cons pe_int pa_nil))) pe_int (nomark _))
      (pe_callTy call_list_of (by rfl) T.list boot_list' (pa_cons (pv 1) pa_nil)) (pe_callTy call_tuple_of (by rfl) T.tup boot_tuple' (pa_cons (pv 1) pa_nil)))), ?_⟩
    refine ⟨_, rfl, S, n, _, rfl, sp, hn, by decide, by decide, fun H1 r k1 s1 rl => ⟨rfl, _, rfl, ?_⟩⟩
    have h1 := ht.kp k1 ne
    refine ite2 (fun _ => ?_) (fun _ => ?_)
    · refine ⟨_, rfl, t, xs, rfl, h1.seq, fun l nl => ?_⟩
      exact q _ l (k1.new nl) (s1.upd (s1.ne nl)) (s1.ne nl) (.inr (k1.free nl (s1.ne nl))) (.inl upd_same)
    · refine ⟨_, rfl, t, xs, rfl, ?_⟩
      rcases h1 with h1 | h1
      · exact .inl ⟨.of h1, fun l nl => q _ l (k1.new nl) (s1.upd (s1.ne nl)) (s1.ne nl) (.inr (k1.free nl (s1.ne nl))) (.inr upd_same)⟩
      · exact .inr ⟨.of h1, q _ t k1 s1 ne (.inl rfl) (.inr h1)⟩
end
end K30
set_option Elab.async false
set_option linter.all false
set_option maxRecDepth 100000
set_option maxHeartbeats 4000000
namespace K30
open PySem PySem.Spec PyProof.Rows L2
abbrev sDrw : Stmt := top 34
abbrev sSev : Stmt := top 35
abbrev sOwn2 : Stmt := top 36
abbrev sThi : Stmt := top 37
abbrev sSta2 : Stmt := top 38
abbrev sDue : Stmt := top 39
abbrev sLib : Stmt := top 40
abbrev sRig : Stmt := top 41
abbrev sLaw : Stmt := top 42
def unStr : V → Str
  | .str x => x
  | _ => ""
theorem un_map (xs : List Str) : (xs.map V.str).map unStr = xs := by
  rw [List.map_map]
  exact List.map_id' xs
theorem perm_strs {ys : List V} {xs : List Str} (h : ys.Perm (xs.map V.str)) : ∃ zs : List Str, ys = zs.map V.str ∧ zs.Perm xs := by
  refine ⟨ys.map unStr, ?_, ?_⟩
  · rw [List.map_map]
    have : ∀ y ∈ ys, y = (V.str ∘ unStr) y := fun y hy => by
      obtain ⟨x, _, e⟩ := List.mem_map.mp (h.mem_iff.mp hy)
      rw [← e]
      rfl
    conv => lhs; rw [← List.map_id ys]
    exact List.map_congr_left this
  · have := h.map unStr
    rwa [un_map] at this
def names3 : List Str := ["m", "n", "open"]
def names4 : List Str := ["m", "n", "open", "end"]
theorem n4_words : ∀ x ∈ names4, x ∈ words := by decide +kernel
theorem n3_four : ∀ x ∈ names3, x ∈ names4 := by decide +kernel
structure Good (p : Pt) : Prop where
  ok : PtOk p
  tells : ∀ x ∈ p.tells, x ∈ names3
  wants : ∀ x ∈ p.wants, x ∈ names4
  asks : ∀ x ∈ p.asks, x ∈ names4
/-- a part, a tuple, its objects among those with Nw -/
def PtAt (Nw : Addr → Prop) (H : Hp) (v : V) (p : Pt) : Prop := ∃ t a b c d, v = .ref t ∧ (Nw t ∧ Nw a ∧ Nw b ∧ Nw c ∧ Nw d) ∧ H t = some (.tup [.ref a, .ref b, .ref c, .ref d, .bl p.own, .bl p.stays]) ∧ H a = some (.lst (p.tells.map V.str)) ∧ H b = some (.lst (p.wants.map V.str)) ∧ H c = some (.lst (p.asks.map V.str)) ∧ H d = some (.lst (p.needs.map V.str))
theorem PtAt.same {Nw : Addr → Prop} {H H' : Hp} {v : V} {p : Pt} (h : PtAt Nw H v p) (m : Same H H') : PtAt Nw H' v p := by
  obtain ⟨t, a, b, c, d, e, n, h0, h1, h2, h3, h4⟩ := h
  exact ⟨t, a, b, c, d, e, n, m _ _ h0, m _ _ h1, m _ _ h2, m _ _ h3, m _ _ h4⟩
theorem PtAt.imp {N1 N2 : Addr → Prop} {H : Hp} {v : V} {p : Pt} (h : PtAt N1 H v p) (i : ∀ a, N1 a → N2 a) : PtAt N2 H v p := by
  obtain ⟨t, a, b, c, d, e, ⟨n0, n1, n2, n3, n4⟩, r⟩ := h
  exact ⟨t, a, b, c, d, e, ⟨i _ n0, i _ n1, i _ n2, i _ n3, i _ n4⟩, r⟩
theorem PtAt.kp {Nw : Addr → Prop} {S : Addr} {H H' : Hp} {v : V} {p : Pt} (h : PtAt Nw H v p) (m : Kp S H H') (n : ∀ a, Nw a → a ≠ S) : PtAt Nw H' v p := by
  obtain ⟨t, a, b, c, d, e, ⟨n0, n1, n2, n3, n4⟩, h0, h1, h2, h3, h4⟩ := h
  exact ⟨t, a, b, c, d, e, ⟨n0, n1, n2, n3, n4⟩, m _ _ (n _ n0) h0, m _ _ (n _ n1) h1, m _ _ (n _ n2) h2, m _ _ (n _ n3) h3, m _ _ (n _ n4) h4⟩
def spDrw : Sp := fun vs H Q _ => ∃ (S t : Addr) (n : Nat) (ns : List Str), vs = [.ref S, .ref t] ∧ Spr S n H ∧ n + 30 < most ∧ H t = some (.lst (ns.map V.str)) ∧ ns.Nodup ∧ (∀ x ∈ ns, x ∈ names3) ∧
  ∀ H' v p, Kp S H H' → Spr S (n + 30) H' → PtAt (fun a => H a = none ∧ a ≠ S) H' v p → Good p → Q v H'
theorem ints_of {v : V} {ks : List Nat} (h : v ∈ ks.map fun k => V.int (k : Nat)) : ∃ k : Nat, v = .int (k : Nat) ∧ k ∈ ks := by
  obtain ⟨k, hk, e⟩ := List.mem_map.mp h
  exact ⟨k, e.symm, hk⟩
theorem strs_ne {S a : Addr} {n : Nat} {H : Hp} {xs : List Str} (sp : Spr S n H) (h : H a = some (.lst (xs.map V.str))) : a ≠ S := fun z => by
  subst z
  obtain ⟨x, y, z, e, _⟩ := sp
  rw [h] at e
  injection e with e
  injection e with e
  cases xs with
  | nil => cases e
  | cons x r =>
    injection e with e _
    cases e
theorem ws_take {xs zs : List Str} (h : zs.Perm xs) (nd : xs.Nodup) (w : ∀ x ∈ xs, x ∈ words) (k : Nat) : Ws (zs.take k) :=
  ⟨fun x hx => w x (h.mem_iff.mp (List.mem_of_mem_take hx)), (h.nodup_iff.mpr nd).sublist (List.take_sublist k zs)⟩
theorem n3_len {xs : List Str} (nd : xs.Nodup) (h : ∀ x ∈ xs, x ∈ names3) : xs.length ≤ 3 := List.Nodup.length_le_of_subset nd (fun x hx => h x hx)
section
variable {P : Program} {w : World} {K : PySem.W.Frag} {mg : Str → Option Value} {base : Heap} {C : Addr}
def nDrw : List Str := ["spring", "names", "tells", "rest", "wants", "asks", "needs"]
theorem scDrw : FnScope nDrw ["spring", "names"] (defScope sDrw) := ⟨rfl, rfl, rfl, by decide +kernel, rfl, by decide +kernel, by decide +kernel⟩
theorem ok_drw {f : Addr} {fd : FuncData} (F : Fun K "_law_drawn" "_law_drawn" sDrw f fd) (T : Txt K mg C) (ct : Cal P w K mg base 1 "_law_take" ["spring", "many"] spTak) (co : Cal P w K mg base 2 "_law_one" ["spring", "things"] spOne) (cm : Cal P w K mg base 2 "_law_mixed" ["spring", "things"] spMix) :
    FnOk P w K mg base CX0 3 f fd ["spring", "names"] spDrw := by
  obtain ⟨ft, dt, GT, gt, kt, bt⟩ := ct.ex
  obtain ⟨fo, do', GO, go, ko, bo⟩ := co.ex
  obtain ⟨fm, dm, GM, gm, km, bm⟩ := cm.ex
  refine F.ok scDrw (fun vs H Q E h => ?_) (fun cdv A outer s H vs Q E hr h => ?_)
  · obtain ⟨S, t, n, ns, rfl, _⟩ := h
    rfl
  · obtain ⟨S, t, n, ns, rfl, sp, hn, ht, nd, n3, q⟩ := h
    have hr1 : Room 1 _ := hr.mono (by decide)
    refine ⟨_, pss_cons (ps_set (i := 2) scDrw.nd rfl (.inl rfl) (pe_slice sl_list (pe_call GM hr rfl gm km bm .nil pass0 (pa_cons (pv 0) (pa_cons (pv 1) pa_nil))) po_none (po_some (pe_call GO hr rfl go ko bo .nil pass0 (pa_cons (pv 0) (pa_cons (pe_lst (pa_cons pe_int (pa_cons pe_int (pa_cons pe_int (pa_cons pe_int (pa_cons pe_int pa_nil)))))) pa_nil))))))
      (pss_cons (ps_set (i := 3) scDrw.nd rfl (.inl rfl) (pe_call GM hr rfl gm km bm .nil pass0 (pa_cons (pv 0) (pa_cons (pe_op op_cat (pv 1) (pe_lst (pa_cons pe_str pa_nil))) pa_nil))))
      (pss_cons (ps_set (i := 4) scDrw.nd rfl (.inl rfl) (pe_slice sl_list (pv 3) po_none (po_some (pe_call GO hr rfl go ko bo .nil pass0 (pa_cons (pv 0) (pa_cons (pe_lst (pa_cons pe_int (pa_cons pe_int (pa_cons pe_int (pa_cons pe_int pa_nil))))) pa_nil))))))
      (pss_cons (ps_set (i := 5) scDrw.nd rfl (.inl rfl) (pe_slice sl_list (pv 3) (po_some (pe_callB call_lenA (by rfl) T.len PySem.boot_len (pa_cons (pv 4) pa_nil))) (po_some (pe_op op_add (pe_callB call_lenA (by rfl) T.len PySem.boot_len (pa_cons (pv 4) pa_nil)) (pe_call GO hr rfl go ko bo .nil pass0 (pa_cons (pv 0) (pa_cons (pe_lst (pa_cons pe_int (pa_cons pe_int (pa_cons pe_int pa_nil)))) pa_nil)))))))
      (pss_cons (ps_set (i := 6) scDrw.nd rfl (.inl rfl) (pe_slice sl_list (pe_call GM hr rfl gm km bm .nil pass0 (pa_cons (pv 0) (pa_cons (pe_lst (pa_cons pe_str (pa_cons pe_str (pa_cons pe_str pa_nil)))) pa_nil))) po_none (po_some (pe_call GO hr rfl go ko bo .nil pass0 (pa_cons (pv 0) (pa_cons (pe_lst (pa_cons pe_int (pa_cons pe_int (pa_cons pe_int pa_nil)))) pa_nil))))))
      (pss_one (ps_ret (pe_tup (pa_cons (pv 2) (pa_cons (pv 4) (pa_cons (pv 5) (pa_cons (pv 6) (pa_cons (pe_cmpR op_eq (pe_call GT hr1 rfl gt kt bt .nil pass0 (pa_cons (pv 0) (pa_cons pe_int pa_nil))) pe_int (nomark _)) (pa_cons (pe_cmpR op_eq (pe_call GT hr1 rfl gt kt bt .nil pass0 (pa_cons (pv 0) (pa_cons pe_int pa_nil))) pe_int (nomark _)) pa_nil))))))))))))), ?_⟩
    have l3 := n3_len nd n3
    have wN : ∀ x ∈ ns, x ∈ words := fun x hx => n4_words x (n3_four x (n3 x hx))
    refine ⟨_, rfl, _, rfl, S, t, n, ns.map V.str, rfl, sp, by rw [List.length_map]; omega, .inl ht, by rw [List.length_map]; omega, fun H1 p1 ys k1 s1 np1 p1S e1 pm1 => ?_⟩
    rw [List.length_map] at s1
    obtain ⟨zs, rfl, pz⟩ := perm_strs pm1
    refine ⟨_, rfl, by show 5 ≤ sizeLine; decide, fun l1 nl1 => ?_⟩
    have l1S := s1.ne nl1
    refine ⟨S, l1, n + ns.length, _, rfl, s1.upd l1S, by omega, l1S, .inl upd_same, by show 1 ≤ 5; decide, by show 5 < 1000000; decide, fun H2 v k2 s2 hv => ?_⟩
    obtain ⟨k, rfl, hk⟩ := ints_of (ks := [0, 1, 1, 2, 3]) hv
    have kk2 : Kp S H1 H2 := (Same.kp (sNew (Same.refl H1) nl1)).trans k2
    refine ⟨_, rfl, p1, _, rfl, .of (kk2 _ _ p1S e1), fun a na => ?_⟩
    rw [cut_to]
    have aS := s2.ne na
    have m2 := k1.trans kk2
    have za : H a = none := m2.free na aS
    have m3 : Kp S H (upd H2 a (.lst ((zs.map V.str).take k))) := m2.new na
    have s3 := s2.upd (o := .lst ((zs.map V.str).take k)) aS
    have ea : (upd H2 a (.lst ((zs.map V.str).take k))) a = some (.lst ((zs.take k).map V.str)) := by rw [upd_same, List.map_take]
    generalize upd H2 a (.lst ((zs.map V.str).take k)) = H3 at m3 s3 ea
    have tS := strs_ne sp ht
    refine ⟨_, rfl, _, rfl, by show 1 ≤ sizeLine; decide, fun l2 nl2 => ?_⟩
    have l2S := s3.ne nl2
    have m4 := m3.new (o := .lst [.str "end"]) nl2
    have m4' := sNew (o := .lst [.str "end"]) (Same.refl H3) nl2
    have lt2 : (ns.map V.str).length + ([V.str "end"] : List V).length ≤ sizeLine := by
      rw [List.length_map]
      exact Nat.le_trans (show _ ≤ 4 by show ns.length + 1 ≤ 4; omega) (by decide)
    refine ⟨t, l2, ns.map V.str, [.str "end"], rfl, rfl, m4 _ _ tS ht, upd_same, lt2, fun l4 nl4 => ?_⟩
    have l4S := (s3.upd (o := .lst [.str "end"]) l2S).ne nl4
    have m5 := sNew (o := .lst (ns.map V.str ++ [.str "end"])) m4' nl4
    have s5 := (s3.upd (o := .lst [.str "end"]) l2S).upd (o := .lst (ns.map V.str ++ [.str "end"])) l4S
    have q4 : (upd (upd H3 l2 (.lst [.str "end"])) l4 (.lst (ns.map V.str ++ [.str "end"]))) l4 = some (.lst ((ns ++ (["end"] : List Str)).map V.str)) := by rw [upd_same, List.map_append]; rfl
    generalize upd (upd H3 l2 (.lst [.str "end"])) l4 (.lst (ns.map V.str ++ [.str "end"])) = H5 at m5 s5 q4
    have lE : (ns ++ (["end"] : List Str)).length ≤ 4 := by rw [List.length_append]; show ns.length + 1 ≤ 4; omega
    refine ⟨S, l4, _, _, rfl, s5, by rw [List.length_map]; omega, .inl q4, by rw [List.length_map]; omega, fun H6 p2 ys2 k6 s6 np2 p2S e2 pm2 => ?_⟩
    rw [List.length_map] at s6
    obtain ⟨zs2, rfl, pz2⟩ := perm_strs pm2
    have ndE : (ns ++ (["end"] : List Str)).Nodup := List.nodup_append.mpr ⟨nd, List.pairwise_singleton _ _, fun x hx y hy e => by
      rw [List.mem_singleton.mp hy] at e
      have := n3 x hx
      rw [e] at this
      exact absurd this (by decide)⟩
    have n4E : ∀ x ∈ ns ++ (["end"] : List Str), x ∈ names4 := fun x hx => by
      rcases List.mem_append.mp hx with h | h
      · exact n3_four x (n3 x h)
      · rw [List.mem_singleton.mp h]
        decide
    have w4 : ∀ x ∈ ns ++ (["end"] : List Str), x ∈ words := fun x hx => n4_words x (n4E x hx)
    have j6 : Kp S H3 H6 := (Same.kp m5).trans k6
    refine ⟨_, rfl, _, rfl, by show 4 ≤ sizeLine; decide, fun l5 nl5 => ?_⟩
    have l5S := s6.ne nl5
    have s7 := s6.upd (o := .lst [V.int 0, V.int 0, V.int 1, V.int 2]) l5S
    refine ⟨S, l5, _, _, rfl, s7, by omega, l5S, .inl upd_same, by show 1 ≤ 4; decide, by show 4 < 1000000; decide, fun H7 v2 k7 s8 hv2 => ?_⟩
    obtain ⟨kw, rfl, _⟩ := ints_of (ks := [0, 0, 1, 2]) hv2
    have kk7 : Kp S H6 H7 := (Same.kp (sNew (Same.refl H6) nl5)).trans k7
    refine ⟨_, rfl, p2, _, rfl, .of (kk7 _ _ p2S e2), fun b nb => ?_⟩
    rw [cut_to]
    have bS := s8.ne nb
    have s9 := s8.upd (o := .lst ((zs2.map V.str).take kw)) bS
    have eb : (upd H7 b (.lst ((zs2.map V.str).take kw))) b = some (.lst ((zs2.take kw).map V.str)) := by rw [upd_same, List.map_take]
    have j7 : Kp S H6 (upd H7 b (.lst ((zs2.map V.str).take kw))) := kk7.new nb
    have zb : H b = none := ((m3.trans j6).trans kk7).free nb bS
    generalize upd H7 b (.lst ((zs2.map V.str).take kw)) = H8 at s9 eb j7
    refine ⟨_, rfl, _, rfl, b, _, rfl, .inl (.of eb), _, rfl, _, rfl, b, _, rfl, .inl (.of eb), _, rfl, by show 3 ≤ sizeLine; decide, fun l6 nl6 => ?_⟩
    have l6S := s9.ne nl6
    have s10 := s9.upd (o := .lst [V.int 0, V.int 0, V.int 1]) l6S
    refine ⟨S, l6, _, _, rfl, s10, by omega, l6S, .inl upd_same, by show 1 ≤ 3; decide, by show 3 < 1000000; decide, fun H9 v3 k9 s11 hv3 => ?_⟩
    obtain ⟨kq, rfl, _⟩ := ints_of (ks := [0, 0, 1]) hv3
    have kk9 : Kp S H8 H9 := (Same.kp (sNew (Same.refl H8) nl6)).trans k9
    refine ⟨_, _, rfl, rfl, _, rfl, p2, _, rfl, .of (kk9 _ _ p2S (j7 _ _ p2S e2)), fun c nc => ?_⟩
    have cS := s11.ne nc
    have ecut : ∃ i j, cutV (zs2.map V.str) (some (((zs2.take kw).map V.str).length : Nat)) (some ((((zs2.take kw).map V.str).length : Nat) + (kq : Nat))) = (((zs2.drop i).take j).map V.str) ∧ (zs2.take kw).length ≤ i := by
      unfold cutV
      rw [HT.sIx_nat]
      have lt : ((zs2.take kw).map V.str).length ≤ (zs2.map V.str).length := by
        rw [List.length_map, List.length_map, List.length_take]
        omega
      rw [Nat.min_eq_left lt]
      exact ⟨((zs2.take kw).map V.str).length, _, by rw [← List.map_drop, ← List.map_take], by rw [List.length_map]; exact Nat.le_refl _⟩
    obtain ⟨ci, cj, ec0, cle⟩ := ecut
    rw [ec0]
    have s12 := s11.upd (o := .lst (((zs2.drop ci).take cj).map V.str)) cS
    have ec : (upd H9 c (.lst (((zs2.drop ci).take cj).map V.str))) c = some (.lst (((zs2.drop ci).take cj).map V.str)) := upd_same
    have j9 : Kp S H8 (upd H9 c (.lst (((zs2.drop ci).take cj).map V.str))) := kk9.new nc
    have zc : H c = none := (((m3.trans j6).trans j7).trans kk9).free nc cS
    generalize upd H9 c (.lst (((zs2.drop ci).take cj).map V.str)) = H10 at s12 ec j9
    refine ⟨_, rfl, by show 3 ≤ sizeLine; decide, fun l7 nl7 => ?_⟩
    have l7S := s12.ne nl7
    have s13 := s12.upd (o := .lst [V.str "a", V.str "lib", V.str "q"]) l7S
    refine ⟨S, l7, _, (["a", "lib", "q"] : List Str).map V.str, rfl, s13, by show _ + 3 < most; omega, .inl upd_same, by decide, fun H11 p3 ys3 k11 s14 np3 p3S e3 pm3 => ?_⟩
    obtain ⟨zs3, rfl, pz3⟩ := perm_strs pm3
    have kk11 : Kp S H10 H11 := (Same.kp (sNew (Same.refl H10) nl7)).trans k11
    have s14' : Spr S (n + ns.length + 1 + (ns ++ (["end"] : List Str)).length + 1 + 1 + 3) H11 := s14
    refine ⟨_, rfl, by show 3 ≤ sizeLine; decide, fun l8 nl8 => ?_⟩
    have l8S := s14'.ne nl8
    have s15 := s14'.upd (o := .lst [V.int 0, V.int 1, V.int 2]) l8S
    refine ⟨S, l8, _, _, rfl, s15, by omega, l8S, .inl upd_same, by show 1 ≤ 3; decide, by show 3 < 1000000; decide, fun H12 v4 k12 s16 hv4 => ?_⟩
    obtain ⟨kn, rfl, _⟩ := ints_of (ks := [0, 1, 2]) hv4
    have kk12 : Kp S H11 H12 := (Same.kp (sNew (Same.refl H11) nl8)).trans k12
    refine ⟨_, rfl, p3, _, rfl, .of (kk12 _ _ p3S e3), fun d nd' => ?_⟩
    rw [cut_to]
    have dS := s16.ne nd'
    have s17 := s16.upd (o := .lst ((zs3.map V.str).take kn)) dS
    have ed : (upd H12 d (.lst ((zs3.map V.str).take kn))) d = some (.lst ((zs3.take kn).map V.str)) := by rw [upd_same, List.map_take]
    have j12 : Kp S H10 (upd H12 d (.lst ((zs3.map V.str).take kn))) := (kk11.trans kk12).new nd'
    have zd : H d = none := (((((m3.trans j6).trans j7).trans j9).trans kk11).trans kk12).free nd' dS
    generalize upd H12 d (.lst ((zs3.map V.str).take kn)) = H13 at s17 ed j12
    refine ⟨_, rfl, _, rfl, _, rfl, _, rfl, _, rfl, S, _, _, rfl, s17, by omega, by decide, by decide, fun H14 r1 k14 s18 rl1 => ⟨rfl, _, rfl, S, _, _, rfl, s18, by omega, by decide, by decide, fun H15 r2 k15 s19 rl2 => ⟨rfl, by show 6 ≤ sizeLine; decide, fun tt ntt => ?_⟩⟩⟩
    have ttS := s19.ne ntt
    have jj := k14.trans k15
    have mall := ((((m3.trans j6).trans j7).trans j9).trans j12).trans jj
    have ztt : H tt = none := mall.free ntt ttS
    have fin : ∀ (y : Addr) (o : HO), y ≠ S → H15 y = some o → (upd H15 tt (.tup [.ref a, .ref b, .ref c, .ref d, .bl (decide (V.int (r1 : Nat) = V.int 0)), .bl (decide (V.int (r2 : Nat) = V.int 0))])) y = some o := fun y o _ e => by
      rw [upd_ne (ne_of_none e ntt)]
      exact e
    refine q _ _ ⟨zs.take k, zs2.take kw, (zs2.drop ci).take cj, zs3.take kn, decide (V.int (r1 : Nat) = V.int 0), decide (V.int (r2 : Nat) = V.int 0)⟩ (mall.new ntt) ((s19.upd ttS).le (by omega)) ⟨tt, a, b, c, d, rfl, ⟨⟨ztt, ttS⟩, ⟨za, aS⟩, ⟨zb, bS⟩, ⟨zc, cS⟩, ⟨zd, dS⟩⟩, upd_same, ?_, ?_, ?_, ?_⟩ ⟨⟨?_, ?_, ?_, ?_, ?_⟩, ?_, ?_, ?_⟩
    · exact fin _ _ aS (jj _ _ aS (j12 _ _ aS (j9 _ _ aS (j7 _ _ aS (j6 _ _ aS ea)))))
    · exact fin _ _ bS (jj _ _ bS (j12 _ _ bS (j9 _ _ bS eb)))
    · exact fin _ _ cS (jj _ _ cS (j12 _ _ cS ec))
    · exact fin _ _ dS (jj _ _ dS ed)
    · exact ws_take pz nd wN k
    · exact ws_take pz2 ndE w4 kw
    · exact ⟨fun x hx => w4 x (pz2.mem_iff.mp (List.mem_of_mem_drop (List.mem_of_mem_take hx))), ((pz2.nodup_iff.mpr ndE).sublist (List.drop_sublist ci zs2)).sublist (List.take_sublist cj _)⟩
    · exact ws_take pz3 (by decide) (by decide) kn
    · intro x hx hw
      have nz := pz2.nodup_iff.mpr ndE
      rw [← List.take_append_drop kw zs2] at nz
      have hx2 : x ∈ zs2.drop kw := by
        have h1 := List.mem_of_mem_take hx
        rcases Nat.lt_or_ge kw zs2.length with h | h
        · have e0 : (zs2.take kw).length = kw := by rw [List.length_take]; omega
          rw [e0] at cle
          have e1 : ci = kw + (ci - kw) := by omega
          rw [e1, ← List.drop_drop] at h1
          exact List.mem_of_mem_drop h1
        · have e0 : (zs2.take kw).length = zs2.length := by rw [List.length_take]; omega
          rw [e0] at cle
          rw [List.drop_eq_nil_of_le cle] at h1
          cases h1
      exact (List.nodup_append.mp nz).2.2 x hw x hx2 rfl
    · intro x hx
      exact n3 x (pz.mem_iff.mp (List.mem_of_mem_take hx))
    · intro x hx
      exact n4E x (pz2.mem_iff.mp (List.mem_of_mem_take hx))
    · intro x hx
      exact n4E x (pz2.mem_iff.mp (List.mem_of_mem_drop (List.mem_of_mem_take hx)))
end
end K30
set_option Elab.async false
set_option linter.all false
set_option maxRecDepth 100000
set_option maxHeartbeats 4000000
namespace K30
open PySem PySem.Spec PyProof.Rows L2
def Pts (Nw : Addr → Prop) (H : Hp) (vs : List V) (ps : List Pt) : Prop := vs.length = ps.length ∧ ∀ (i : Nat) (v : V) (p : Pt), vs[i]? = some v → ps[i]? = some p → PtAt Nw H v p
theorem Pts.at {Nw : Addr → Prop} {H : Hp} {vs : List V} {ps : List Pt} (h : Pts Nw H vs ps) {i : Nat} {v : V} (e : vs[i]? = some v) : ∃ p, ps[i]? = some p ∧ PtAt Nw H v p := by
  have l : i < ps.length := by
    rw [← h.1]
    exact (List.getElem?_eq_some_iff.mp e).1
  exact ⟨ps[i], List.getElem?_eq_getElem l, h.2 i v _ e (List.getElem?_eq_getElem l)⟩
theorem Pts.map {N1 N2 : Addr → Prop} {H H' : Hp} {vs : List V} {ps : List Pt} (h : Pts N1 H vs ps) (f : ∀ v p, PtAt N1 H v p → PtAt N2 H' v p) : Pts N2 H' vs ps := ⟨h.1, fun i v p a b => f v p (h.2 i v p a b)⟩
theorem Pts.nil {Nw : Addr → Prop} {H : Hp} : Pts Nw H [] [] := ⟨rfl, fun k v r a _ => by simp at a⟩
theorem Pts.app {Nw : Addr → Prop} {H : Hp} {xs ys : List V} {rs ss : List Pt} (h : Pts Nw H xs rs) (g : Pts Nw H ys ss) : Pts Nw H (xs ++ ys) (rs ++ ss) := by
  refine ⟨by simp [h.1, g.1], fun k v r a b => ?_⟩
  by_cases c : k < xs.length
  · rw [List.getElem?_append_left c] at a
    rw [List.getElem?_append_left (by rw [← h.1]; exact c)] at b
    exact h.2 k v r a b
  · rw [List.getElem?_append_right (by omega)] at a
    rw [List.getElem?_append_right (by rw [← h.1]; omega), ← h.1] at b
    exact g.2 _ v r a b
theorem Pts.one {Nw : Addr → Prop} {H : Hp} {v : V} {p : Pt} (e : PtAt Nw H v p) : Pts Nw H [v] [p] := ⟨rfl, fun k v' q a b => by
  cases k with
  | zero =>
    simp at a b
    rw [← a, ← b]
    exact e
  | succ k => simp at a⟩
theorem Pts.take {Nw : Addr → Prop} {H : Hp} {xs : List V} {ps : List Pt} (h : Pts Nw H xs ps) (k : Nat) : Pts Nw H (xs.take k) (ps.take k) := by
  refine ⟨by simp [h.1], fun i v p a b => ?_⟩
  rw [List.getElem?_take] at a b
  split at a
  · rename_i c
    rw [if_pos c] at b
    exact h.2 i v p a b
  · cases a
/-- the list at l, of parts that l does not touch -/
theorem PtAt.push {l : Addr} {Nw : Addr → Prop} {H : Hp} {v : V} {p : Pt} {o : HO} (h : PtAt Nw H v p) (n : ∀ a, Nw a → a ≠ l) : PtAt Nw (upd H l o) v p := h.kp (S := l) ((Kp.refl l H).spr) n
def spSev : Sp := fun vs H Q _ => ∃ (S : Addr) (n : Nat), vs = [.ref S] ∧ Spr S n H ∧ n + 1000 < most ∧
  ∀ H' l ws ps, Kp S H H' → Spr S (n + 1000) H' → l ≠ S → H' l = some (.lst ws) → Pts (fun a => a ≠ S) H' ws ps → (∀ p ∈ ps, Good p) → ps ≠ [] → ps.length ≤ 6 → Q (.ref l) H'
def nSev : List Str := ["spring", "many", "way", "found", "turn", "names", "part", "wants", "name"]
section
variable {P : Program} {w : World} {K : PySem.W.Frag} {mg : Str → Option Value} {base : Heap} {C : Addr}
theorem scSev : FnScope nSev ["spring"] (defScope sSev) := ⟨rfl, rfl, rfl, by decide +kernel, rfl, by decide +kernel, by decide +kernel⟩
theorem ok_sev {f : Addr} {fd : FuncData} (F : Fun K "_law_several" "_law_several" sSev f fd) (T : Txt K mg C) (ct : Cal P w K mg base 1 "_law_take" ["spring", "many"] spTak) (co : Cal P w K mg base 2 "_law_one" ["spring", "things"] spOne) (cd : Cal P w K mg base 3 "_law_drawn" ["spring", "names"] spDrw) :
    FnOk P w K mg base CX0 4 f fd ["spring"] spSev := by
  obtain ⟨ft, dt, GT, gt, kt, bt⟩ := ct.ex
  obtain ⟨fo, do', GO, go, ko, bo⟩ := co.ex
  obtain ⟨fw, dw, GW, gw, kw, bw⟩ := cd.ex
  refine F.ok scSev (fun vs H Q E h => ?_) (fun cdv A outer s H vs Q E hr h => ?_)
  · obtain ⟨S, n, rfl, _⟩ := h
    rfl
  · obtain ⟨S, n, rfl, sp, hn, q⟩ := h
    have hr1 : Room 1 _ := hr.mono (by decide)
    have hr2 : Room 2 _ := hr.mono (by decide)
    refine ⟨_, pss_cons (ps_par (i := 1) (j := 2) rfl scSev.nd rfl rfl (by decide) rfl rfl (pa_cons (pe_call GO hr2 rfl go ko bo .nil pass0 (pa_cons (pv 0) (pa_cons (pe_lst (pa_cons pe_int (pa_cons pe_int (pa_cons pe_int (pa_cons pe_int (pa_cons pe_int (pa_cons pe_int (pa_cons pe_int pa_nil)))))))) pa_nil))) (pa_cons (pe_call GT hr1 rfl gt kt bt .nil pass0 (pa_cons (pv 0) (pa_cons pe_int pa_nil))) pa_nil)) (by rfl))
      (pss_cons (ps_set (i := 3) scSev.nd rfl (.inr rfl) (pe_lst pa_nil))
      (pss_cons (ps_for PassesOwn.never rfl (pi_range1 (by rfl) T.rng (pa_cons (pv 1) pa_nil)) (pg_name (i := 4) scSev.nd rfl (.inl rfl))
        (pss_cons (ps_set (i := 5) scSev.nd rfl (.inl rfl) (pe_lst (pa_cons pe_str (pa_cons pe_str (pa_cons pe_str pa_nil)))))
        (Evl.pss_cut (ps_if (pt_cmpR op_eq (pv 2) pe_int (nomark _)) (pss_one
            (ps_setLc (i := 5) (own := [("name", 8)]) (g := gName 8) (tt := tNot (tB (tCB (rAny K) (tCons (tLc (iList K (tVar 3)) (gName 6) tYes (tOp (rIn K false) (tVar 8) (tOp (rIxT K) (tVar 6) (tC (.int 0)))) [6]) tNil)))) rfl scSev.nd rfl rfl (sw_true rfl rfl rfl (by decide +kernel)) (pi_list (pv 5)) (blkOk_by (N := nSev) (sc := defScope sSev) (by decide +kernel))
              (fun _ _ _ _ _ => pg_name (i := 8) scSev.nd rfl (.inr rfl))
              (fun _ _ _ _ _ => by exact pts_one (pt_not (pt_val (pe_callB (cr_any rfl) (by rfl) T.any boot_any' (pa_cons (pe_lc (own := [("part", 6)]) (g := gName 6) (tt := tYes) rfl scSev.nd (pi_list (pv 3)) (blkOk_by (N := nSev) (by first | rfl | exact (rfl : _ = true)))
                (fun _ _ _ _ _ => pg_name (i := 6) scSev.nd rfl (.inl rfl)) (fun _ _ _ _ _ => pts_nil) (fun _ _ _ _ _ => pe_cmpR op_in_seq (pv 8) (pe_ix ix_tup (pv 6) pe_int (fun _ _ => rfl)) (by rfl))) pa_nil)))))
              (fun _ _ _ _ _ => pv 8))) pss_nil)
        (pss_cons (ps_set (i := 6) scSev.nd rfl (.inr rfl) (pe_call GW hr rfl gw kw bw .nil pass0 (pa_cons (pv 0) (pa_cons (pv 5) pa_nil))))
        (Evl.pss_cut (ps_if (pt_cmpR op_eq (pv 2) pe_int (nomark _)) (pss_one (ps_set (i := 6) scSev.nd rfl (.inr rfl) (pe_op op_catT (pe_slice sl_tup (pv 6) po_none (po_some pe_int)) (pe_tup (pa_cons pe_bl (pa_cons (pe_ix ix_tup (pv 6) pe_int (fun _ _ => rfl)) pa_nil)))))) pss_nil)
        (Evl.pss_cut (ps_if (pt_cmpR op_eq (pv 2) pe_int (nomark _)) (pss_cons
            (ps_setLc (i := 7) (own := [("name", 8)]) (g := gName 8) (tt := tOr (tTest (tOp (rIn K false) (tVar 8) (tOp (rIxT K) (tVar 6) (tC (.int 0))))) (tTest (tOp rEq (tVar 8) (tC (.str "end"))))) rfl scSev.nd rfl rfl (sw_true rfl rfl rfl (by decide +kernel)) (pi_list (pe_ix ix_tup (pv 6) pe_int (fun _ _ => rfl))) (blkOk_by (N := nSev) (sc := defScope sSev) (by decide +kernel))
              (fun _ _ _ _ _ => pg_name (i := 8) scSev.nd rfl (.inl rfl))
              (fun _ _ _ _ _ => by exact pts_one (PW.pt (pw_or (pt_cmpR op_in_seq (pv 8) (pe_ix ix_tup (pv 6) pe_int (fun _ _ => rfl)) (by rfl)) (pw_or1 (pt_cmpR op_eq (pv 8) pe_str (nomark _))))))
              (fun _ _ _ _ _ => pv 8))
            (pss_one (ps_set (i := 6) scSev.nd rfl (.inr rfl) (pe_tup (pa_cons (pe_ix ix_tup (pv 6) pe_int (fun _ _ => rfl)) (pa_cons (pv 7) (pa_cons (pe_lst pa_nil) (pa_cons (pe_ix ix_tup (pv 6) pe_int (fun _ _ => rfl)) (pa_cons pe_bl (pa_cons (pe_ix ix_tup (pv 6) pe_int (fun _ _ => rfl)) pa_nil)))))))))) pss_nil)
        (pss_one (ps_expr (pe_bm PySem.F.plainAttrs_list PySem.F.slot_list_append PySem.F.type_list_append mt_append (pv 3) (pa_cons (pv 6) pa_nil))))))))))
      (pss_cons (ps_if (pt_cmpR op_eq (pe_call GT hr1 rfl gt kt bt .nil pass0 (pa_cons (pv 0) (pa_cons pe_int pa_nil))) pe_int (nomark _)) (pss_one (ps_set (i := 3) scSev.nd rfl (.inr rfl) (pe_slice sl_list (pe_op op_cat (pv 3) (pe_slice sl_list (pv 3) po_none (po_some pe_int))) po_none (po_some pe_int)))) pss_nil)
      (pss_one (ps_ret (pv 3)))))), ?_⟩
    refine ⟨_, rfl, by show 7 ≤ sizeLine; decide, fun l1 nl1 => ?_⟩
    have l1S := sp.ne nl1
    refine ⟨S, l1, n, _, rfl, sp.upd l1S, by omega, l1S, .inl upd_same, by show 1 ≤ 7; decide, by show 7 < 1000000; decide, fun H1 v k1 s1 hv => ?_⟩
    obtain ⟨m, rfl, hm⟩ := ints_of (ks := [1, 2, 2, 3, 3, 4, 6]) hv
    have m1 : 1 ≤ m ∧ m ≤ 6 := by
      have : ∀ x ∈ ([1, 2, 2, 3, 3, 4, 6] : List Nat), 1 ≤ x ∧ x ≤ 6 := by decide
      exact this m hm
    refine ⟨_, rfl, S, n + 1, 4, rfl, s1, by omega, by decide, by decide, fun H2 r k2 s2 rl => ?_⟩
    refine ⟨_, _, rfl, ?_⟩
    refine ⟨Nat.zero_le _, fun l nl => ?_⟩
    have kk : Kp S H H2 := ((Same.kp (sNew (Same.refl H) nl1)).trans k1).trans k2
    have lS := s2.ne nl
    have zl : H l = none := kk.free nl lS
    refine ⟨_, rfl, (m : Nat), rfl, by omega, by omega, ?_⟩
    have em : ((m : Nat) : Int).toNat = m := by omega
    rw [em]
    refine for_range (lo := 0) (n := m) (fun i σ H' => Kp S H H' ∧ Spr S (n + 2 + 30 * i) H' ∧ (∃ ws ps, H' l = some (.lst ws) ∧ Pts (fun a => a ≠ S ∧ a ≠ l) H' ws ps ∧ (∀ p ∈ ps, Good p) ∧ ps.length = i) ∧ ∃ u4 u5 u6 u7, σ = [some (.ref S), some (.int (m : Nat)), some (.int (r : Nat)), some (.ref l), u4, u5, u6, u7, none]) ?_ ?_ ?_
    · exact ⟨kk.new nl, (s2.upd lS).le (by omega), ⟨[], [], upd_same, Pts.nil, (fun p h => nomatch h), rfl⟩, _, _, _, _, rfl⟩
    · rintro i σ H3 hi ⟨k3, s3, ⟨ws, ps, el, pts, gd, li⟩, u4, u5, u6, u7, rfl⟩
      refine ⟨by show 3 ≤ sizeLine; decide, fun p np => ?_⟩
      have m4 := sNew (o := .lst [V.str "m", V.str "n", V.str "open"]) (Same.refl H3) np
      refine ⟨fun σ H' => Same H3 H' ∧ ∃ (a : Addr) (ns : List Str), σ = [some (.ref S), some (.int (m : Nat)), some (.int (r : Nat)), some (.ref l), some (.int (0 + (i : Nat))), some (.ref a), u6, u7, none] ∧ H' a = some (.lst (ns.map V.str)) ∧ ns.Nodup ∧ ∀ x ∈ ns, x ∈ names3, ?_, ?_⟩
      · refine ⟨_, rfl, rfl, _, rfl, ite2 (fun _ => ?_) (fun _ => ?_)⟩
        · refine ⟨_, rfl, p, rfl, ⟨_, .of upd_same⟩, fun D nD => ?_⟩
          have e4 : (upd H3 p (.lst [V.str "m", V.str "n", V.str "open"])) p = some (.lst (names3.map V.str)) := upd_same
          generalize upd H3 p (.lst [V.str "m", V.str "n", V.str "open"]) = H4 at m4 nD e4
          refine lc_list (K := K) (a := p) (xs := names3.map V.str) (fun j H' => Same H4 H' ∧ H' D = some (.lst (((names3.take j).filter (fun x => !(ps.any fun q => decide (x ∈ q.tells)))).map V.str))) ⟨sNew (Same.refl H4) nD, upd_same⟩ (fun j H' _ z => .of (z.1 _ _ e4)) ?_ ?_
          · rintro j v H5 hj ⟨m5, eD⟩
            obtain ⟨x, hx, rfl⟩ := map_at hj
            have jl : j < names3.length := (List.getElem?_eq_some_iff.mp hx).1
            have jl3 : j < 3 := jl
            refine ⟨rfl, _, rfl, l, rfl, ⟨_, .of (m5 _ _ (m4 _ _ el))⟩, fun D2 nD2 => ?_⟩
            refine lc_list (K := K) (a := l) (xs := ws) (fun k H' => Same H5 H' ∧ H' D2 = some (.lst (((ps.map fun q => decide (x ∈ q.tells)).take k).map V.bl))) ⟨sNew (Same.refl H5) nD2, upd_same⟩ (fun k H' _ z => .of (z.1 _ _ (m5 _ _ (m4 _ _ el)))) ?_ ?_
            · rintro k v H6 hk ⟨m6, eD2⟩
              obtain ⟨pp, hp, t, a, b, c, d, rfl, _, e0, ea, _⟩ := ((pts.map fun v p h => h.same ((m4.trans m5).trans m6)) : Pts _ H6 ws ps).at hk
              have kl : k < ps.length := (List.getElem?_eq_some_iff.mp hp).1
              refine ⟨rfl, _, rfl, _, rfl, t, _, _, _, rfl, rfl, .of e0, atI_nat (j := 0) rfl, a, _, rfl, .inl (.of ea), rfl, flat_strs _, _, eD2, ?_, sOwn' m6 nD2, ?_⟩
              · rw [List.length_map, List.length_take]
                exact Nat.lt_of_lt_of_le (show min k _ < 8 by omega) (by decide)
              · rw [upd_same]
                show some (HO.lst (_ ++ [V.bl (inV (.str x) (pp.tells.map V.str))])) = _
                rw [in_strs, List.take_add_one, List.getElem?_map, hp, List.map_append]
                rfl
            · rintro H6 ⟨m6, eD2⟩
              rw [pts.1, List.take_of_length_le (by simp)] at eD2
              refine ⟨D2, _, rfl, .of eD2, _, rfl, ?_⟩
              have ea : (ps.map fun q => decide (x ∈ q.tells)).any id = ps.any fun q => decide (x ∈ q.tells) := by
                rw [List.any_map]
                rfl
              rw [ea]
              refine ite2 (fun c => ?_) (fun c => ?_)
              · refine ⟨_, rfl, _, m6 _ _ eD, ?_, sOwn' (m5.trans m6) nD, ?_⟩
                · rw [List.length_map]
                  have := List.length_filter_le (fun x => !(ps.any fun q => decide (x ∈ q.tells))) (names3.take j)
                  rw [List.length_take] at this
                  exact Nat.lt_of_le_of_lt (show _ ≤ 7 by omega) (by decide)
                · rw [upd_same, filter_step _ hx, if_pos c, List.map_append]
                  rfl
              · refine ⟨m5.trans m6, ?_⟩
                rw [filter_step _ hx, if_neg c, List.append_nil]
                exact m6 _ _ eD
          · rintro H5 ⟨m5, eD⟩
            refine ⟨m4.trans m5, D, names3.filter (fun x => !(ps.any fun q => decide (x ∈ q.tells))), rfl, eD, (show names3.Nodup by decide).sublist List.filter_sublist, fun x hx => (List.mem_filter.mp hx).1⟩
        · exact ⟨m4, p, names3, rfl, upd_same, by decide, fun x h => h⟩
      rintro σ H5 ⟨m5, a0, ns, rfl, ea0, nd, n3⟩
      refine ⟨_, rfl, _, rfl, S, a0, n + 2 + 30 * i, ns, rfl, s3.same m5, by omega, ea0, nd, n3, fun H6 v p k6 s6 pt gp => ?_⟩
      have el5 := m5 _ _ el
      refine ⟨fun σ H' => Same H6 H' ∧ ∃ v p, σ = [some (.ref S), some (.int (m : Nat)), some (.int (r : Nat)), some (.ref l), some (.int (0 + (i : Nat))), some (.ref a0), some v, u7, none] ∧ PtAt (fun b => H5 b = none ∧ b ≠ S) H' v p ∧ Good p, ?_, ?_⟩
      · refine ⟨_, rfl, rfl, _, rfl, ite2 (fun _ => ?_) (fun _ => ⟨Same.refl H6, v, p, rfl, pt, gp⟩)⟩
        obtain ⟨t, a, b, c, d, rfl, fr, e0, ea, eb, ec, ed⟩ := pt
        refine ⟨_, rfl, 4, rfl, t, _, rfl, .of e0, ?_, fun p1 np1 => ?_⟩
        · show ¬ ((0 : Nat) = 0 ∧ (4 : Nat) = 6)
          decide
        have n1 := sNew (o := .tup (cutV [.ref a, .ref b, .ref c, .ref d, .bl p.own, .bl p.stays] none (some 4))) (Same.refl H6) np1
        refine ⟨_, rfl, t, _, _, _, rfl, rfl, .of (n1 _ _ e0), atI_nat (j := 5) rfl, by show 2 ≤ sizeLine; decide, fun p2 np2 => ?_⟩
        have n2 := sNew (o := .tup [.bl false, .bl p.stays]) n1 np2
        have w1 : (upd (upd H6 p1 (.tup (cutV [.ref a, .ref b, .ref c, .ref d, .bl p.own, .bl p.stays] none (some 4)))) p2 (.tup [.bl false, .bl p.stays])) p1 = some (.tup [.ref a, .ref b, .ref c, .ref d]) := by
          rw [upd_ne (ne_of_none upd_same np2), upd_same]
          exact congrArg (fun z => some (HO.tup z)) (cut_to _ 4)
        refine ⟨p1, p2, _, _, rfl, rfl, .of w1, .of upd_same, (fun h => nomatch h), by show 6 ≤ sizeLine; decide, (fun h => nomatch h), fun _ p3 np3 => ?_⟩
        have n3' := sNew (o := .tup ([.ref a, .ref b, .ref c, .ref d] ++ [.bl false, .bl p.stays])) n2 np3
        refine ⟨n3', .ref p3, { p with own := false }, rfl, ⟨p3, a, b, c, d, rfl, ⟨?_, fr.2⟩, upd_same, n3' _ _ ea, n3' _ _ eb, n3' _ _ ec, n3' _ _ ed⟩, ⟨⟨gp.ok.tells, gp.ok.wants, gp.ok.asks, gp.ok.needs, gp.ok.apart⟩, gp.tells, gp.wants, gp.asks⟩⟩
        have s9 := (s6.same n2).ne np3
        exact ⟨(k6.trans n2.kp).free np3 s9, s9⟩
      rintro σ H7 ⟨m7, v, p, rfl, pt, gp⟩
      refine ⟨fun σ H' => Same H7 H' ∧ ∃ v p u7, σ = [some (.ref S), some (.int (m : Nat)), some (.int (r : Nat)), some (.ref l), some (.int (0 + (i : Nat))), some (.ref a0), some v, u7, none] ∧ PtAt (fun b => H5 b = none ∧ b ≠ S) H' v p ∧ Good p, ?_, ?_⟩
      · refine ⟨_, rfl, rfl, _, rfl, ite2 (fun _ => ?_) (fun _ => ⟨Same.refl H7, v, p, u7, rfl, pt, gp⟩)⟩
        obtain ⟨t, a, b, c, d, rfl, fr, e0, ea, eb, ec, ed⟩ := pt
        refine ⟨_, rfl, t, _, _, _, rfl, rfl, .of e0, atI_nat (j := 1) rfl, b, rfl, ⟨_, .of eb⟩, fun D nD => ?_⟩
        refine lc_list (K := K) (a := b) (xs := p.wants.map V.str) (fun j H' => Same H7 H' ∧ H' D = some (.lst (((p.wants.take j).filter (fun x => decide (x ∈ p.tells) || decide (x = "end"))).map V.str))) ⟨sNew (Same.refl H7) nD, upd_same⟩ (fun j H' _ z => .of (z.1 _ _ eb)) ?_ ?_
        · rintro j v H8 hj ⟨m8, eD⟩
          obtain ⟨x, hx, rfl⟩ := map_at hj
          have w7 := gp.ok.wants.len
          have jl : j < p.wants.length := (List.getElem?_eq_some_iff.mp hx).1
          have step : ∀ bb : Bool, bb = (decide (x ∈ p.tells) || decide (x = "end")) → if bb = true then tVar 8 [some (.ref S), some (.int (m : Nat)), some (.int (r : Nat)), some (.ref l), some (.int (0 + (i : Nat))), some (.ref a0), some (.ref t), u7, some (.str x)] H8 (fun y H4 => ∃ acc, H4 D = some (.lst acc) ∧ acc.length < sizeLine ∧ (Same H7 (upd H4 D (.lst (acc ++ [y]))) ∧ (upd H4 D (.lst (acc ++ [y]))) D = some (.lst (((p.wants.take (j + 1)).filter (fun x => decide (x ∈ p.tells) || decide (x = "end"))).map V.str)))) else (Same H7 H8 ∧ H8 D = some (.lst (((p.wants.take (j + 1)).filter (fun x => decide (x ∈ p.tells) || decide (x = "end"))).map V.str))) := by
            intro bb ebb
            refine ite2 (fun c => ?_) (fun c => ?_)
            · refine ⟨_, rfl, _, eD, ?_, sOwn' m8 nD, ?_⟩
              · rw [List.length_map]
                have := List.length_filter_le (fun x => decide (x ∈ p.tells) || decide (x = "end")) (p.wants.take j)
                rw [List.length_take] at this
                exact Nat.lt_of_le_of_lt (show _ ≤ 7 by omega) (by decide)
              · rw [upd_same, filter_step _ hx, if_pos (by rw [← ebb]; exact c), List.map_append]
                rfl
            · refine ⟨m8, ?_⟩
              rw [filter_step _ hx, if_neg (by rw [← ebb]; exact c), List.append_nil]
              exact eD
          refine ⟨rfl, _, rfl, _, rfl, t, _, _, _, rfl, rfl, .of (m8 _ _ e0), atI_nat (j := 0) rfl, a, _, rfl, .inl (.of (m8 _ _ ea)), rfl, flat_strs _, _, rfl, ?_⟩
          rw [show (if false = true then !inV (.str x) (p.tells.map V.str) else inV (.str x) (p.tells.map V.str)) = decide (x ∈ p.tells) from in_strs x p.tells]
          by_cases c : x ∈ p.tells
          · rw [decide_eq_true c]
            refine iteT ?_
            exact step true (by rw [decide_eq_true c]; rfl)
          · rw [decide_eq_false c]
            refine iteF ⟨_, rfl, rfl, _, rfl, ?_⟩
            have ex : decide (V.str x = V.str "end") = decide (x = "end") := by
              rw [decide_eq_decide]
              exact ⟨fun h => by injection h, fun h => by rw [h]⟩
            rw [ex]
            exact step _ (by rw [decide_eq_false c, Bool.false_or])
        · rintro H8 ⟨m8, eD⟩
          rw [List.length_map, List.take_of_length_le (Nat.le_refl _)] at eD
          have f0 := m8 _ _ e0
          refine ⟨_, rfl, t, _, _, _, rfl, rfl, .of f0, atI_nat (j := 0) rfl, _, rfl, Nat.zero_le _, fun c2 nc2 => ?_⟩
          have n1 := sNew (o := .lst []) m8 nc2
          have f1 := n1 _ _ e0
          refine ⟨_, rfl, t, _, _, _, rfl, rfl, .of f1, atI_nat (j := 3) rfl, _, rfl, t, _, _, _, rfl, rfl, .of f1, atI_nat (j := 5) rfl, by show 6 ≤ sizeLine; decide, fun p3 np3 => ?_⟩
          have n2 := sNew (o := .tup [.ref a, .ref D, .ref c2, .ref d, .bl true, .bl p.stays]) n1 np3
          have s7 := s6.same m7
          have D5 : H5 D = none ∧ D ≠ S := ⟨(k6.trans m7.kp).free nD (s7.ne nD), s7.ne nD⟩
          have c5 : H5 c2 = none ∧ c2 ≠ S := ⟨((k6.trans m7.kp).trans m8.kp).free nc2 ((s7.same m8).ne nc2), (s7.same m8).ne nc2⟩
          have p5 : H5 p3 = none ∧ p3 ≠ S := ⟨((k6.trans m7.kp).trans n1.kp).free np3 ((s7.same n1).ne np3), (s7.same n1).ne np3⟩
          have eD2 : (upd (upd H8 c2 (.lst [])) p3 (.tup [.ref a, .ref D, .ref c2, .ref d, .bl true, .bl p.stays])) D = some (.lst ((p.wants.filter (fun x => decide (x ∈ p.tells) || decide (x = "end"))).map V.str)) := by
            have z1 : (upd H8 c2 (.lst [])) D = some (.lst ((p.wants.filter (fun x => decide (x ∈ p.tells) || decide (x = "end"))).map V.str)) := by rw [upd_ne (ne_of_none eD nc2)]; exact eD
            rw [upd_ne (ne_of_none z1 np3)]
            exact z1
          have eC2 : (upd (upd H8 c2 (.lst [])) p3 (.tup [.ref a, .ref D, .ref c2, .ref d, .bl true, .bl p.stays])) c2 = some (.lst (([] : List Str).map V.str)) := by
            rw [upd_ne (ne_of_none upd_same np3)]
            exact upd_same
          refine ⟨n2, .ref p3, ⟨p.tells, p.wants.filter (fun x => decide (x ∈ p.tells) || decide (x = "end")), [], p.needs, true, p.stays⟩, _, rfl, ⟨p3, a, D, c2, d, rfl, ⟨p5, fr.2.1, D5, c5, fr.2.2.2.2⟩, upd_same, n2 _ _ ea, eD2, eC2, n2 _ _ ed⟩, ⟨⟨gp.ok.tells, ⟨fun x hx => gp.ok.wants.ok x (List.mem_filter.mp hx).1, gp.ok.wants.nd.sublist List.filter_sublist⟩, ⟨(fun x hx => nomatch hx), List.nodup_nil⟩, gp.ok.needs, (fun x hx => nomatch hx)⟩, gp.tells, fun x hx => gp.wants x (List.mem_filter.mp hx).1, (fun x hx => nomatch hx)⟩⟩
      rintro σ H8 ⟨m8, v, p, u7', rfl, pt, gp⟩
      have mz := m7.trans m8
      have kz : Kp S H5 H8 := k6.trans mz.kp
      have el8 : H8 l = some (.lst ws) := kz _ _ lS el5
      refine ⟨_, rfl, .inl ⟨rfl, _, .of el8⟩, _, rfl, l, ws, v, rfl, rfl, el8, ?_, ?_⟩
      · rw [pts.1, li]
        exact Nat.lt_of_lt_of_le (show i < 8 by omega) (by decide)
      · have kH : Kp S H H8 := ((k3.trans m5.kp).trans kz)
        refine ⟨kH.own zl, ((s6.same mz).upd lS).le (by omega), ⟨_, ps ++ [p], upd_same, ?_, ?_, by rw [List.length_append, li]; rfl⟩, _, _, _, _, rfl⟩
        · refine Pts.app (pts.map fun v p h => ((h.same m5).kp kz (fun a n => n.1)).push (fun a n => n.2)) (Pts.one ?_)
          refine (pt.imp (N2 := fun a => a ≠ S ∧ a ≠ l) (fun b h => ⟨h.2, (ne_of_none el5 h.1).symm⟩)).push (fun a n => n.2)
        · intro q hq
          rcases List.mem_append.mp hq with h | h
          · exact gd q h
          · rw [List.mem_singleton.mp h]
            exact gp
    · rintro σ H3 ⟨k3, s3, ⟨ws, ps, el, pts, gd, li⟩, u4, u5, u6, u7, rfl⟩
      have s3' : Spr S (n + 200) H3 := s3.le (by omega)
      refine ⟨_, rfl, S, n + 200, 6, rfl, s3', by omega, by decide, by decide, fun H4 r2 k4 s4 rl2 => ⟨rfl, _, rfl, ?_⟩⟩
      have kH := k3.trans k4
      have el4 := k4 _ _ lS el
      have pts4 : Pts (fun a => a ≠ S) H4 ws ps := pts.map fun v p h => (h.kp k4 (fun a n => n.1)).imp (fun a n => n.1)
      have np : ps ≠ [] := fun h => by
        rw [h] at li
        simp at li
        omega
      refine ite2 (fun _ => ?_) (fun _ => ?_)
      · refine ⟨_, rfl, _, rfl, 1, rfl, l, ws, rfl, .of el4, fun p1 np1 => ?_⟩
        rw [show cutV ws none (some 1) = ws.take 1 from cut_to ws 1]
        have n1 := sNew (o := .lst (ws.take 1)) (Same.refl H4) np1
        have lw : ws.length ≤ 6 := by rw [pts.1]; omega
        refine ⟨l, p1, ws, _, rfl, rfl, n1 _ _ el4, upd_same, ?_, fun p2 np2 => ?_⟩
        · rw [List.length_take]
          exact Nat.le_trans (show _ ≤ 12 by omega) (by decide)
        · have n2 := sNew (o := .lst (ws ++ ws.take 1)) n1 np2
          refine ⟨6, rfl, p2, _, rfl, .of upd_same, fun p3 np3 => ?_⟩
          rw [show cutV (ws ++ ws.take 1) none (some 6) = (ws ++ ws.take 1).take 6 from cut_to _ 6]
          have n3' := sNew (o := .lst ((ws ++ ws.take 1).take 6)) n2 np3
          have p3S : p3 ≠ S := (s4.same n2).ne np3
          refine ⟨_, rfl, q _ p3 _ ((ps ++ ps.take 1).take 6) (kH.trans n3'.kp) ((s4.same n3').le (by omega)) p3S upd_same (((pts4.app (pts4.take 1)).take 6).map fun v p h => h.same n3') ?_ ?_ ?_⟩
          · intro x hx
            rcases List.mem_append.mp (List.mem_of_mem_take hx) with h | h
            · exact gd x h
            · exact gd x (List.mem_of_mem_take h)
          · intro h
            have := congrArg List.length h
            rw [List.length_take, List.length_append, List.length_take, List.length_nil] at this
            omega
          · rw [List.length_take]
            omega
      · exact ⟨_, rfl, q H4 l ws ps kH (s4.le (by omega)) lS el4 pts4 gd np (by omega)⟩
end
end K30
set_option Elab.async false
set_option linter.all false
set_option maxRecDepth 100000
set_option maxHeartbeats 4000000
namespace K30
open PySem PySem.Spec PyProof.Rows L2
def spOwn2 : Sp := fun vs H Q _ => ∃ (Nw : Addr → Prop) (v : V) (n : Str) (p : Pt), vs = [v, .str n] ∧ PtAt Nw H v p ∧ Q (.bl (p.own && decide (n ∈ p.tells))) H
theorem LibAt.kpS {C S x : Addr} {n : Nat} {H H' : Hp} {p : Pt} (h : LibAt C H x p) (sp : Spr S n H) (m : Kp S H H') : LibAt C H' x p := by
  obtain ⟨dx, a, b, c, d, h0, h1, h2, h3, h4⟩ := h
  have nx : x ≠ S := fun z => by
    obtain ⟨i, j, k, e, _⟩ := sp
    rw [z, e] at h0
    cases h0
  exact ⟨dx, a, b, c, d, m _ _ nx h0, m _ _ (strs_ne sp h1) h1, m _ _ (strs_ne sp h2) h2, m _ _ (strs_ne sp h3) h3, m _ _ (strs_ne sp h4) h4⟩
def spLibr (C : Addr) : Sp := fun vs H Q _ => ∃ (S : Addr) (n : Nat) (v : V) (p : Pt), vs = [.ref S, v] ∧ Spr S n H ∧ n + 100 < most ∧ PtAt (fun a => a ≠ S) H v p ∧ Good p ∧
  ∀ H' x, Kp S H H' → Spr S (n + 100) H' → LibNew C H H' x p → H x = none → x ≠ S → Q (.ref x) H'
/-- three lists of words, shown -/
def ShownAt (Nw : Addr → Prop) (H : Hp) (v : V) (w : List Str) : Prop := ∃ (a : Addr) (us : List Str), v = .ref a ∧ Nw a ∧ Sq H a (us.map V.str) ∧ us.Perm w
def Shown (Nw : Addr → Prop) (H : Hp) (zs : List V) (ws : List (List Str)) : Prop := zs.length = ws.length ∧ ∀ (i : Nat) (v : V) (w : List Str), zs[i]? = some v → ws[i]? = some w → ShownAt Nw H v w
theorem ShownAt.kp {S : Addr} {Nw : Addr → Prop} {H H' : Hp} {v : V} {w : List Str} (h : ShownAt Nw H v w) (m : Kp S H H') (n : ∀ a, Nw a → a ≠ S) : ShownAt Nw H' v w := by
  obtain ⟨x, us, e, z, q, p⟩ := h
  exact ⟨x, us, e, z, q.kp m (n x z), p⟩
theorem Shown.kp {S : Addr} {Nw : Addr → Prop} {H H' : Hp} {zs : List V} {ws : List (List Str)} (h : Shown Nw H zs ws) (m : Kp S H H') (n : ∀ a, Nw a → a ≠ S) : Shown Nw H' zs ws := ⟨h.1, fun i v w a b => (h.2 i v w a b).kp m n⟩
theorem Shown.app {Nw : Addr → Prop} {H : Hp} {zs : List V} {ws : List (List Str)} {v : V} {w : List Str} (h : Shown Nw H zs ws) (g : ShownAt Nw H v w) : Shown Nw H (zs ++ [v]) (ws ++ [w]) := by
  refine ⟨by simp [h.1], fun k x r a b => ?_⟩
  by_cases c : k < zs.length
  · rw [List.getElem?_append_left c] at a
    rw [List.getElem?_append_left (by rw [← h.1]; exact c)] at b
    exact h.2 k x r a b
  · rw [List.getElem?_append_right (by omega)] at a
    rw [List.getElem?_append_right (by rw [← h.1]; omega), ← h.1] at b
    have k0 : k - zs.length = 0 := by
      cases e : k - zs.length with
      | zero => rfl
      | succ j => rw [e] at a; simp at a
    rw [k0] at a b
    simp at a b
    rw [← a, ← b]
    exact g
section
variable {P : Program} {w : World} {K : PySem.W.Frag} {mg : Str → Option Value} {base : Heap} {C : Addr}
theorem scOwn2 : FnScope ["part", "name"] ["part", "name"] (defScope sOwn2) := ⟨rfl, rfl, rfl, by decide +kernel, rfl, by decide +kernel, by decide +kernel⟩
theorem ok_own2 {f : Addr} {fd : FuncData} (F : Fun K "_law_own" "_law_own" sOwn2 f fd) (T : Txt K mg C) : FnOk P w K mg base CX0 1 f fd ["part", "name"] spOwn2 := by
  refine F.ok scOwn2 (fun vs H Q E h => ?_) (fun cdv A outer s H vs Q E hr h => ?_)
  · obtain ⟨Nw, v, n, p, rfl, _⟩ := h
    rfl
  · obtain ⟨Nw, v, n, p, rfl, ⟨t, a, b, c, d, rfl, _, e0, ea, _⟩, q⟩ := h
    refine ⟨_, pss_one (ps_ret (pe_and (pe_ix ix_tup (pv 0) pe_int (fun _ _ => rfl)) (pe_one (pe_cmpR op_in_seq (pv 1) (pe_ix ix_tup (pv 0) pe_int (fun _ _ => rfl)) (by rfl))))), ?_⟩
    refine ⟨_, rfl, t, _, _, _, rfl, rfl, .of e0, atI_nat (j := 4) rfl, _, rfl, ?_⟩
    refine ite2 (fun o => ?_) (fun o => ?_)
    · have o' : p.own = true := o
      rw [o'] at q
      refine ⟨_, rfl, _, rfl, t, _, _, _, rfl, rfl, .of e0, atI_nat (j := 0) rfl, a, _, rfl, .inl (.of ea), rfl, flat_strs _, ?_⟩
      show Q (.bl (inV (.str n) (p.tells.map V.str))) H
      rw [in_strs]
      exact q
    · have o' : p.own = false := by
        cases e : p.own
        · rfl
        · exact absurd e o
      rw [o'] at q
      exact q
def nLib : List Str := ["spring", "part", "some", "names"]
theorem scLib : FnScope nLib ["spring", "part"] (defScope sLib) := ⟨rfl, rfl, rfl, by decide +kernel, rfl, by decide +kernel, by decide +kernel⟩
theorem ok_libr {f : Addr} {fd : FuncData} (F : Fun K "_law_library" "_law_library" sLib f fd) (T : Txt K mg C) (L : Lib P w K mg base C) (cm : Cal P w K mg base 2 "_law_mixed" ["spring", "things"] spMix) (cs : Cal P w K mg base 2 "_law_shown" ["spring", "things"] spSho) : FnOk P w K mg base CX0 8 f fd ["spring", "part"] (spLibr C) := by
  obtain ⟨fm, dm, GM, gm, km, bm⟩ := cm.ex
  obtain ⟨fs, ds, GS, gs, ks, bs⟩ := cs.ex
  obtain ⟨fI, fdI, mI, GI, bI⟩ := L.init
  refine F.ok scLib (fun vs H Q E h => ?_) (fun cdv A outer s H vs Q E hr h => ?_)
  · obtain ⟨S, n, v, p, rfl, _⟩ := h
    rfl
  · obtain ⟨S, n, v, p, rfl, sp, hn, ⟨t, a, b, c, d, rfl, ⟨tS, aS, bS, cS, dS⟩, e0, ea, eb, ec, ed⟩, gp, q⟩ := h
    have hr2 : Room 2 _ := hr.mono (by decide)
    refine ⟨_, pss_cons (ps_setLc (i := 2) (own := [("names", 3)]) (g := gName 3) (tt := tYes) (te := tCall spSho [] E0 (tCons (tVar 0) (tCons (tCall spMix [] E0 (tCons (tVar 0) (tCons (tVar 3) tNil))) tNil))) rfl scLib.nd rfl rfl (sw_true rfl rfl rfl (by decide +kernel)) (pi_tup (pe_slice sl_tup (pv 1) po_none (po_some pe_int))) (blkOk_by (N := nLib) (sc := defScope sLib) (by decide +kernel))
          (fun _ _ _ _ _ => pg_name (i := 3) scLib.nd rfl (.inl rfl)) (fun _ _ _ _ _ => pts_nil) (fun _ _ _ _ _ => by exact pe_call GS hr2 rfl gs ks bs .nil pass0 (pa_cons (pv 0) (pa_cons (pe_call GM hr2 rfl gm km bm .nil pass0 (pa_cons (pv 0) (pa_cons (pv 3) pa_nil))) pa_nil))))
      (pss_one (ps_ret (pe_make mI GI hr rfl T.gC bI .nil pass0 (pa_cons (pe_ix ix_list (pv 2) pe_int (fun _ _ => rfl)) (pa_cons (pe_ix ix_list (pv 2) pe_int (fun _ _ => rfl)) (pa_cons (pe_ix ix_list (pv 2) pe_int (fun _ _ => rfl)) (pa_cons (pe_call GS hr2 rfl gs ks bs .nil pass0 (pa_cons (pv 0) (pa_cons (pe_ix ix_tup (pv 1) pe_int (fun _ _ => rfl)) pa_nil))) (pa_cons (pe_ix ix_tup (pv 1) pe_int (fun _ _ => rfl)) (pa_cons (pe_ix ix_tup (pv 1) pe_int (fun _ _ => rfl)) pa_nil))))))))), ?_⟩
    refine ⟨_, rfl, 3, rfl, t, _, rfl, .of e0, (by show ¬ ((0 : Nat) = 0 ∧ (3 : Nat) = 6); decide), fun p1 np1 => ?_⟩
    have n1 := sNew (o := .tup (cutV [.ref a, .ref b, .ref c, .ref d, .bl p.own, .bl p.stays] none (some 3))) (Same.refl H) np1
    have e1 : (upd H p1 (.tup (cutV [.ref a, .ref b, .ref c, .ref d, .bl p.own, .bl p.stays] none (some 3)))) p1 = some (.tup [.ref a, .ref b, .ref c]) := by
      rw [upd_same]
      exact congrArg (fun z => some (HO.tup z)) (cut_to _ 3)
    have p1S := sp.ne np1
    have s1 := sp.same n1
    generalize upd H p1 (.tup (cutV [.ref a, .ref b, .ref c, .ref d, .bl p.own, .bl p.stays] none (some 3))) = H1 at n1 e1 s1
    refine ⟨p1, rfl, ⟨_, .of e1⟩, fun D nD => ?_⟩
    have DS := s1.ne nD
    have nDp1 : p1 ≠ D := ne_of_none e1 nD
    have lw : ∀ (i : Nat) (x : V), ([V.ref a, V.ref b, V.ref c])[i]? = some x → ∃ (y : Addr) (u : List Str), x = .ref y ∧ ([p.tells, p.wants, p.asks] : List (List Str))[i]? = some u ∧ H1 y = some (.lst (u.map V.str)) ∧ y ≠ S ∧ Ws u := by
      intro i x hi
      match i, hi with
      | 0, hi => cases hi; exact ⟨a, _, rfl, rfl, n1 _ _ ea, aS, gp.ok.tells⟩
      | 1, hi => cases hi; exact ⟨b, _, rfl, rfl, n1 _ _ eb, bS, gp.ok.wants⟩
      | 2, hi => cases hi; exact ⟨c, _, rfl, rfl, n1 _ _ ec, cS, gp.ok.asks⟩
      | (_ + 3), hi => cases hi
    refine lc_tup (K := K) (a := p1) (xs := [.ref a, .ref b, .ref c]) (fun i H' => Kp S H1 H' ∧ Spr S (n + 10 * i) H' ∧ ∃ zs, H' D = some (.lst zs) ∧ Shown (fun a => a ≠ S ∧ a ≠ D) H' zs (([p.tells, p.wants, p.asks] : List (List Str)).take i)) ⟨(sNew (Same.refl H1) nD).kp, s1.upd DS, [], upd_same, ⟨rfl, fun k v r x _ => by simp at x⟩⟩ (fun i H' _ z => .of (z.1 _ _ p1S e1)) ?_ ?_
    · rintro i x H2 hi ⟨k2, s2, zs, eD, sh⟩
      obtain ⟨y, u, rfl, hu, ey, yS, wu⟩ := lw i x hi
      have i3 : i < 3 := (List.getElem?_eq_some_iff.mp hi).1
      have lu := wu.len
      refine ⟨rfl, _, rfl, _, rfl, _, rfl, S, y, n + 10 * i, u.map V.str, rfl, s2, by rw [List.length_map]; omega, .inl (k2 _ _ yS ey), by rw [List.length_map]; omega, fun H3 pm ys k3 s3 npm pmS em pmr => ?_⟩
      rw [List.length_map] at s3
      obtain ⟨us, rfl, pu⟩ := perm_strs pmr
      refine ⟨S, pm, n + 10 * i + u.length, us.map V.str, rfl, s3, by omega, pmS, .inl em, by rw [List.length_map, pu.length_eq]; omega, fun H4 po k4 s4 poS por eo => ?_⟩
      have kk := k3.trans k4
      have eD4 := kk _ _ DS eD
      have zl : zs.length ≤ 3 := by
        rw [sh.1, List.length_take]
        omega
      refine ⟨zs, eD4, Nat.lt_of_le_of_lt zl (by decide), ?_, (s4.upd DS).le (by omega), _, upd_same, ?_⟩
      · exact (k2.trans kk).own nD
      · have et : ([p.tells, p.wants, p.asks] : List (List Str)).take (i + 1) = ([p.tells, p.wants, p.asks] : List (List Str)).take i ++ [u] := by rw [List.take_add_one, hu]; rfl
        rw [et]
        have pmD : pm ≠ D := (ne_of_none eD npm).symm
        have poD : po ≠ D := by
          rcases por with rfl | h
          · exact pmD
          · exact (ne_of_none (k3 _ _ DS eD) h).symm
        refine ((sh.kp kk (fun a n => n.1)).kp (S := D) ((Kp.refl D H4).spr) (fun a n => n.2)).app ?_
        exact ⟨po, us, rfl, ⟨poS, poD⟩, Sq.kp (S := D) eo ((Kp.refl D H4).spr) poD, pu⟩
    · rintro H2 ⟨k2, s2, zs, eD, sh⟩
      have zl : zs.length = 3 := sh.1
      obtain ⟨z0, h0⟩ : ∃ z, zs[0]? = some z := ⟨zs[0], List.getElem?_eq_getElem (by omega)⟩
      obtain ⟨z1, h1⟩ : ∃ z, zs[1]? = some z := ⟨zs[1], List.getElem?_eq_getElem (by omega)⟩
      obtain ⟨z2, h2⟩ : ∃ z, zs[2]? = some z := ⟨zs[2], List.getElem?_eq_getElem (by omega)⟩
      obtain ⟨a0, u0, rfl, ⟨a0S, _⟩, q0, p0⟩ := sh.2 0 _ p.tells h0 rfl
      obtain ⟨a1, u1, rfl, ⟨a1S, _⟩, q1, p1'⟩ := sh.2 1 _ p.wants h1 rfl
      obtain ⟨a2, u2, rfl, ⟨a2S, _⟩, q2, p2'⟩ := sh.2 2 _ p.asks h2 rfl
      have f0 : H2 t = some (.tup [.ref a, .ref b, .ref c, .ref d, .bl p.own, .bl p.stays]) := k2 _ _ tS (n1 _ _ e0)
      have fd : H2 d = some (.lst (p.needs.map V.str)) := k2 _ _ dS (n1 _ _ ed)
      have s2' : Spr S (n + 40) H2 := s2.le (by show n + 10 * 3 ≤ n + 40; omega)
      have ln := gp.ok.needs.len
      refine ⟨_, rfl, D, _, _, _, rfl, rfl, .of eD, atI_nat (j := 0) h0, _, rfl, D, _, _, _, rfl, rfl, .of eD, atI_nat (j := 1) h1, _, rfl, D, _, _, _, rfl, rfl, .of eD, atI_nat (j := 2) h2, _, rfl, _, rfl, t, _, _, _, rfl, rfl, .of f0, atI_nat (j := 3) rfl, ?_⟩
      refine ⟨S, d, n + 40, p.needs.map V.str, rfl, s2', by omega, dS, .inl fd, by rw [List.length_map]; omega, fun H3 po k3 s3 poS _ eo => ?_⟩
      have f0' := k3 _ _ tS f0
      refine ⟨_, rfl, t, _, _, _, rfl, rfl, .of f0', atI_nat (j := 4) rfl, _, rfl, t, _, _, _, rfl, rfl, .of f0', atI_nat (j := 5) rfl, ?_⟩
      intro x dx nx ndx ndxx
      have kall : Kp S H H3 := ((Same.kp n1).trans k2).trans k3
      have xS := s3.ne nx
      have zx : H x = none := kall.free nx xS
      have mA := sNew (o := .own x) (Same.refl H3) ndx
      have nx2 : (upd H3 dx (.own x)) x = none := by rw [upd_ne ndxx.symm]; exact nx
      have mB := sNew (o := .ins C dx []) mA nx2
      have wT : Ws u0 := ⟨fun y hy => gp.ok.tells.ok y (p0.mem_iff.mp hy), p0.nodup_iff.mpr gp.ok.tells.nd⟩
      have wW : Ws u1 := ⟨fun y hy => gp.ok.wants.ok y (p1'.mem_iff.mp hy), p1'.nodup_iff.mpr gp.ok.wants.nd⟩
      have wA : Ws u2 := ⟨fun y hy => gp.ok.asks.ok y (p2'.mem_iff.mp hy), p2'.nodup_iff.mpr gp.ok.asks.nd⟩
      refine ⟨x, dx, a0, a1, a2, po, ⟨u0, u1, u2, p.needs, p.own, p.stays⟩, rfl, upd_same, (q0.kp k3 a0S).same mB, (q1.kp k3 a1S).same mB, (q2.kp k3 a2S).same mB, eo.same mB, ⟨wT, wW, wA, gp.ok.needs, fun y hy hw => gp.ok.apart y (p2'.mem_iff.mp hy) (p1'.mem_iff.mp hw)⟩, fun H' kx lbx => ⟨rfl, ?_⟩⟩
      have kfin : Kp S H H' := fun b o nb e => kx b o (ne_of_none e zx) (mB _ _ (kall b o nb e))
      have sfin : Spr S (n + 100) H' := by
        obtain ⟨i, j, k, e, r⟩ := s3.same mB
        exact Spr.le ⟨i, j, k, kx _ _ xS.symm e, r⟩ (by omega)
      refine q H' x kfin sfin ?_ zx xS
      obtain ⟨dx', A, B, C', D', ⟨y1, y2, y3, y4⟩, g0, g1, g2, g3, g4⟩ := lbx
      have old : ∀ b, (upd (upd H3 dx (.own x)) x (.ins C dx [])) b = none → H b = none := fun b z => kall.free (Same.free (mA.trans (sNew (Same.refl _) nx2)) z) (s3.ne (Same.free (mA.trans (sNew (Same.refl _) nx2)) z))
      rw [show canon u0 = canon p.tells from canon_congr fun y => p0.mem_iff] at g1
      rw [show canon u1 = canon p.wants from canon_congr fun y => p1'.mem_iff] at g2
      rw [show canon u2 = canon p.asks from canon_congr fun y => p2'.mem_iff] at g3
      exact ⟨dx', A, B, C', D', ⟨old _ y1, old _ y2, old _ y3, old _ y4⟩, g0, g1, g2, g3, g4⟩
end
end K30
set_option Elab.async false
set_option linter.all false
set_option maxRecDepth 100000
set_option maxHeartbeats 4000000
namespace K30
open PySem PySem.Spec PyProof.Rows L2
inductive Th where
  | none
  | ahead
  | behind
  | at (i : Nat)
deriving DecidableEq
def Th.v : Th → V
  | .none => .non
  | .ahead => .str "ahead"
  | .behind => .str "behind"
  | .at i => .int (i : Nat)
def firstTell (ps : List Pt) (n : Str) : Option Nat := ps.findIdx? fun p => decide (n ∈ p.tells)
def midTh (ah : Bool) (o : Option Nat) : Th := if ah = true then .ahead else match o with
  | some i => .at i
  | none => .none
def outerOf (ps : List Pt) (n : Str) (ah be : Bool) : Th := if decide (midTh ah (firstTell ps n) = .none) && be then .behind else midTh ah (firstTell ps n)
def refers (p : Pt) (n : Str) : Bool := decide (n ∈ p.wants ++ p.asks)
def owns (p : Pt) (n : Str) : Bool := p.own && decide (n ∈ p.tells)
def innerFrom (i : Nat) (n : Str) (o : Th) : List Pt → List Th
  | [] => []
  | p :: r => (if refers p n = true then [if owns p n = true then .at i else o] else []) ++ innerFrom (i + 1) n o r
theorem innerFrom_snoc (n : Str) (o : Th) : ∀ (ps : List Pt) (i : Nat) (p : Pt), innerFrom i n o (ps ++ [p]) = innerFrom i n o ps ++ (if refers p n = true then [if owns p n = true then .at (i + ps.length) else o] else [])
  | [], i, p => by simp [innerFrom]
  | q :: r, i, p => by
    show _ ++ innerFrom (i + 1) n o (r ++ [p]) = _ ++ innerFrom (i + 1) n o r ++ _
    rw [innerFrom_snoc n o r (i + 1) p, List.append_assoc]
    have e : i + 1 + r.length = i + (q :: r).length := by simp; omega
    rw [e]
theorem innerFrom_len (n : Str) (o : Th) : ∀ (ps : List Pt) (i : Nat), (innerFrom i n o ps).length ≤ ps.length
  | [], i => Nat.le_refl _
  | p :: r, i => by
    have := innerFrom_len n o r (i + 1)
    unfold innerFrom
    rw [List.length_append, List.length_cons]
    split <;> simp <;> omega
theorem first_snoc (ps : List Pt) (p : Pt) (n : Str) : firstTell (ps ++ [p]) n = match firstTell ps n with
    | some i => some i
    | none => if n ∈ p.tells then some ps.length else none := by
  unfold firstTell
  rw [List.findIdx?_append]
  cases List.findIdx? (fun p => decide (n ∈ p.tells)) ps with
  | some i => rfl
  | none =>
    by_cases c : n ∈ p.tells
    · simp [List.findIdx?_cons, c]
    · simp [List.findIdx?_cons, c]
def spThi : Sp := fun vs H Q _ => ∃ (Nw : Addr → Prop) (a : Addr) (n : Str) (ah be : Bool) (ws : List V) (ps : List Pt), vs = [.ref a, .str n, .bl ah, .bl be] ∧ H a = some (.lst ws) ∧ Pts Nw H ws ps ∧ ps.length ≤ 7 ∧ (∀ p ∈ ps, Good p) ∧
  ∀ H' t l, Same H H' → H t = none → H l = none → H' t = some (.tup [(outerOf ps n ah be).v, .ref l]) → H' l = some (.lst ((innerFrom 0 n (outerOf ps n ah be) ps).map Th.v)) → Q (.ref t) H'
def nThi : List Str := ["parts", "name", "is_ahead", "is_behind", "outer", "at", "part", "inner"]
section
variable {P : Program} {w : World} {K : PySem.W.Frag} {mg : Str → Option Value} {base : Heap} {C : Addr}
theorem scThi : FnScope nThi ["parts", "name", "is_ahead", "is_behind"] (defScope sThi) := ⟨rfl, rfl, rfl, by decide +kernel, rfl, by decide +kernel, by decide +kernel⟩
theorem ok_thi {f : Addr} {fd : FuncData} (F : Fun K "_law_things" "_law_things" sThi f fd) (T : Txt K mg C) (co : Cal P w K mg base 1 "_law_own" ["part", "name"] spOwn2) : FnOk P w K mg base CX0 2 f fd ["parts", "name", "is_ahead", "is_behind"] spThi := by
  obtain ⟨fo, do', GO, go, ko, bo⟩ := co.ex
  refine F.ok scThi (fun vs H Q E h => ?_) (fun cdv A outer s H vs Q E hr h => ?_)
  · obtain ⟨Nw, a, n, ah, be, ws, ps, rfl, _⟩ := h
    rfl
  · obtain ⟨Nw, a, n, ah, be, ws, ps, rfl, ha, pts, l7, gd, q⟩ := h
    refine ⟨_, Evl.pss_cut (ps_set (i := 4) scThi.nd rfl (.inl rfl) (pe_ifExp (pt_val (pv 2)) pe_str pe_non))
      (pss_cons (ps_for PassesOwn.never rfl (pi_enum (by rfl) T.enu (pa_cons (pv 0) pa_nil)) (pg_tup rfl (pgs_cons (pg_name (i := 5) scThi.nd rfl (.inl rfl)) (pgs_cons (pg_name (i := 6) scThi.nd rfl (.inl rfl)) pgs_nil)))
        (pss_one (ps_set (i := 4) scThi.nd rfl (.inl rfl) (pe_ifExp (PW.pt (pw_and (pt_cmpR op_isN (pv 4) pe_non (nomark _)) (pw_and1 (pt_cmpR op_in_seq (pv 1) (pe_ix ix_tup (pv 6) pe_int (fun _ _ => rfl)) (by rfl))))) (pv 5) (pv 4)))))
      (Evl.pss_cut (ps_set (i := 4) scThi.nd rfl (.inl rfl) (pe_ifExp (PW.pt (pw_and (pt_cmpR op_isN (pv 4) pe_non (nomark _)) (pw_and1 (pt_val (pv 3))))) pe_str (pv 4)))
      (pss_cons (ps_set (i := 7) scThi.nd rfl (.inl rfl) (pe_lst pa_nil))
      (pss_cons (ps_for PassesOwn.never rfl (pi_enum (by rfl) T.enu (pa_cons (pv 0) pa_nil)) (pg_tup rfl (pgs_cons (pg_name (i := 5) scThi.nd rfl (.inl rfl)) (pgs_cons (pg_name (i := 6) scThi.nd rfl (.inl rfl)) pgs_nil)))
        (pss_one (ps_if (pt_cmpR op_in_seq (pv 1) (pe_op op_cat (pe_ix ix_tup (pv 6) pe_int (fun _ _ => rfl)) (pe_ix ix_tup (pv 6) pe_int (fun _ _ => rfl))) (by rfl))
          (pss_one (ps_expr (pe_bm PySem.F.plainAttrs_list PySem.F.slot_list_append PySem.F.type_list_append mt_append (pv 7) (pa_cons (pe_ifExp (pt_val (pe_call GO hr rfl go ko bo .nil pass0 (pa_cons (pv 6) (pa_cons (pv 1) pa_nil)))) (pv 5) (pv 4)) pa_nil)))) pss_nil)))
      (pss_one (ps_ret (pe_tup (pa_cons (pv 4) (pa_cons (pv 7) pa_nil)))))))))  , ?_⟩
    have hv : ∀ o : Th, decide (o.v = V.non) = decide (o = .none) := by
      intro o
      cases o <;> rfl
    have mid_none : ∀ o, midTh ah o = .none → ah = false ∧ o = none := by
      intro o h
      unfold midTh at h
      cases ah
      · cases o with
        | none => exact ⟨rfl, rfl⟩
        | some i => cases h
      · cases h
    refine ⟨fun σ H' => H' = H ∧ σ = [some (.ref a), some (.str n), some (.bl ah), some (.bl be), some (midTh ah none).v, none, none, none], ?_, ?_⟩
    · refine ⟨_, rfl, ah, rfl, ?_⟩
      cases ah
      · exact iteF ⟨rfl, rfl⟩
      · exact iteT ⟨rfl, rfl⟩
    rintro σ H' ⟨rfl, rfl⟩
    refine ⟨_, rfl, a, ws, rfl, .of ha, ?_⟩
    refine for_it (walk_enum (K := K) (a := a) (xs := ws)) (fun i σ H1 => Same H' H1 ∧ ∃ u5 u6, σ = [some (.ref a), some (.str n), some (.bl ah), some (.bl be), some (midTh ah (firstTell (ps.take i) n)).v, u5, u6, none]) ⟨Same.refl H', none, none, rfl⟩ (fun i σ H1 _ z => .of (z.1 _ _ ha)) ?_ ?_
    · rintro i x σ H2 H3 hi ⟨m2, u5, u6, rfl⟩ ⟨T1, x1, x2, rfl, nT, rfl, f1, f2⟩
      cases f1
      obtain ⟨p, hp, t, A, B, C', D', rfl, _, e0, ea, _⟩ := ((pts.map fun v p h => h.same (sNew (o := .tup [.int (i : Nat), x2]) m2 nT)) : Pts Nw _ ws ps).at f2
      have m3 := sNew (o := .tup [.int (i : Nat), .ref t]) m2 nT
      have il : i < ps.length := (List.getElem?_eq_some_iff.mp hp).1
      have et : firstTell (ps.take (i + 1)) n = match firstTell (ps.take i) n with
        | some j => some j
        | none => if n ∈ p.tells then some i else none := by
        have e1 : ps.take (i + 1) = ps.take i ++ [p] := by rw [List.take_add_one, hp]; rfl
        rw [e1, first_snoc, List.length_take, Nat.min_eq_left (Nat.le_of_lt il)]
      refine ⟨T1, _, rfl, .of upd_same, rfl, _, _, rfl, _, _, rfl, rfl, ?_⟩
      refine ⟨_, rfl, rfl, _, rfl, ?_⟩
      rw [hv]
      by_cases h : midTh ah (firstTell (ps.take i) n) = .none
      · obtain ⟨ha0, fn⟩ := mid_none _ h
        rw [decide_eq_true h]
        rw [fn] at et
        refine iteT ⟨_, rfl, _, rfl, t, _, _, _, rfl, rfl, .of e0, atI_nat (j := 0) rfl, A, _, rfl, .inl (.of ea), rfl, flat_strs _, _, rfl, ?_⟩
        rw [show (if false = true then !inV (.str n) (p.tells.map V.str) else inV (.str n) (p.tells.map V.str)) = decide (n ∈ p.tells) from in_strs n p.tells]
        by_cases c : n ∈ p.tells
        · rw [decide_eq_true c]
          refine iteT ⟨_, rfl, m3, some (.int (i : Nat)), some (.ref t), ?_⟩
          rw [et]
          simp only [if_pos c]
          rw [ha0]
          rfl
        · rw [decide_eq_false c]
          refine iteF ⟨_, rfl, m3, some (.int (i : Nat)), some (.ref t), ?_⟩
          rw [et, fn]
          simp only [if_neg c]
          rfl
      · rw [decide_eq_false h]
        refine iteF (iteF ⟨_, rfl, m3, some (.int (i : Nat)), some (.ref t), ?_⟩)
        have : midTh ah (firstTell (ps.take (i + 1)) n) = midTh ah (firstTell (ps.take i) n) := by
          rw [et]
          cases e : firstTell (ps.take i) n with
          | some j => rfl
          | none =>
            rw [e] at h
            cases ah
            · exact absurd rfl h
            · rfl
        rw [this]
        rfl
    · rintro σ H1 ⟨m1, u5, u6, rfl⟩
      rw [pts.1, List.take_of_length_le (Nat.le_refl _)]
      refine ⟨fun σ H2 => H2 = H1 ∧ σ = [some (.ref a), some (.str n), some (.bl ah), some (.bl be), some (outerOf ps n ah be).v, u5, u6, none], ?_, ?_⟩
      · refine ⟨_, rfl, rfl, _, rfl, ?_⟩
        rw [hv]
        unfold outerOf
        by_cases h : midTh ah (firstTell ps n) = .none
        · rw [decide_eq_true h]
          refine iteT ⟨_, rfl, be, rfl, ?_⟩
          cases be
          · exact iteF ⟨_, rfl, rfl, rfl⟩
          · exact iteT ⟨rfl, rfl⟩
        · rw [decide_eq_false h]
          exact iteF (iteF ⟨_, rfl, rfl, rfl⟩)
      rintro σ H2 ⟨rfl, rfl⟩
      refine ⟨Nat.zero_le _, fun l nl => ?_⟩
      have zl := Same.free m1 nl
      have m2 := sNew (o := .lst []) m1 nl
      refine ⟨_, rfl, a, ws, rfl, .of (m2 _ _ ha), ?_⟩
      refine for_it (walk_enum (K := K) (a := a) (xs := ws)) (fun i σ H3 => Same H' H3 ∧ H3 l = some (.lst ((innerFrom 0 n (outerOf ps n ah be) (ps.take i)).map Th.v)) ∧ ∃ u5 u6, σ = [some (.ref a), some (.str n), some (.bl ah), some (.bl be), some (outerOf ps n ah be).v, u5, u6, some (.ref l)]) ⟨m2, upd_same, _, _, rfl⟩ (fun i σ H3 _ z => .of (z.1 _ _ ha)) ?_ ?_
      · rintro i x σ H3 H4 hi ⟨m3, el, v5, v6, rfl⟩ ⟨T1, x1, x2, rfl, nT, rfl, f1, f2⟩
        cases f1
        have pa := ((pts.map fun v p h => h.same (sNew (o := .tup [.int (i : Nat), x2]) m3 nT)) : Pts Nw _ ws ps).at f2
        obtain ⟨p, hp, pt⟩ := pa
        have ptt := pt
        obtain ⟨t, A, B, C', D', rfl, _, e0, ea, eb, ec, _⟩ := ptt
        have m4 := sNew (o := .tup [.int (i : Nat), .ref t]) m3 nT
        have il : i < ps.length := (List.getElem?_eq_some_iff.mp hp).1
        have el4 : (upd H3 T1 (.tup [.int (i : Nat), .ref t])) l = some (.lst ((innerFrom 0 n (outerOf ps n ah be) (ps.take i)).map Th.v)) := by rw [upd_ne (ne_of_none el nT)]; exact el
        have e1 : ps.take (i + 1) = ps.take i ++ [p] := by rw [List.take_add_one, hp]; rfl
        have en : innerFrom 0 n (outerOf ps n ah be) (ps.take (i + 1)) = innerFrom 0 n (outerOf ps n ah be) (ps.take i) ++ (if refers p n = true then [if owns p n = true then .at i else outerOf ps n ah be] else []) := by
          rw [e1, innerFrom_snoc, List.length_take, Nat.min_eq_left (Nat.le_of_lt il), Nat.zero_add]
        refine ⟨T1, _, rfl, .of upd_same, rfl, _, _, rfl, _, _, rfl, rfl, ?_⟩
        have sz : (p.wants.map V.str).length + (p.asks.map V.str).length ≤ sizeLine := by
          have g := gd p (List.mem_of_getElem? hp)
          have g1 := g.ok.wants.len
          have g2 := g.ok.asks.len
          rw [List.length_map, List.length_map]
          exact Nat.le_trans (show _ ≤ 14 by omega) (by decide)
        refine ⟨_, rfl, _, rfl, t, _, _, _, rfl, rfl, .of e0, atI_nat (j := 1) rfl, _, rfl, t, _, _, _, rfl, rfl, .of e0, atI_nat (j := 2) rfl, B, C', _, _, rfl, rfl, eb, ec, sz, fun g ng => ?_⟩
        have m5 := sNew (o := .lst (p.wants.map V.str ++ p.asks.map V.str)) m4 ng
        have eg : (upd (upd H3 T1 (.tup [.int (i : Nat), .ref t])) g (.lst (p.wants.map V.str ++ p.asks.map V.str))) g = some (.lst ((p.wants ++ p.asks).map V.str)) := by rw [upd_same, List.map_append]
        have el5 := sNew (o := .lst (p.wants.map V.str ++ p.asks.map V.str)) (Same.refl _) ng _ _ el4
        have pt5 := pt.same (sNew (o := .lst (p.wants.map V.str ++ p.asks.map V.str)) (Same.refl _) ng)
        generalize upd (upd H3 T1 (.tup [.int (i : Nat), .ref t])) g (.lst (p.wants.map V.str ++ p.asks.map V.str)) = H5 at m5 eg el5 pt5
        refine ⟨g, _, rfl, .inl (.of eg), rfl, flat_strs _, _, rfl, ?_⟩
        rw [show (if false = true then !inV (.str n) ((p.wants ++ p.asks).map V.str) else inV (.str n) ((p.wants ++ p.asks).map V.str)) = refers p n from in_strs n _]
        have ln := innerFrom_len n (outerOf ps n ah be) (ps.take i) 0
        rw [List.length_take] at ln
        have szl : ((innerFrom 0 n (outerOf ps n ah be) (ps.take i)).map Th.v).length < sizeLine := by
          rw [List.length_map]
          exact Nat.lt_of_le_of_lt (show _ ≤ 7 by omega) (by decide)
        refine ite2 (fun c => ?_) (fun c => ?_)
        · refine ⟨_, rfl, .inl ⟨rfl, _, .of el5⟩, ?_⟩
          refine ⟨_, rfl, _, rfl, Nw, .ref t, n, p, rfl, pt5, _, rfl, ?_⟩
          refine ite2 (fun o => ?_) (fun o => ?_)
          · refine ⟨_, rfl, l, _, _, rfl, rfl, el5, szl, sOwn' m5 zl, ?_, _, _, rfl⟩
            rw [upd_same, en, if_pos c, if_pos (show owns p n = true from o), List.map_append]
            rfl
          · refine ⟨_, rfl, l, _, _, rfl, rfl, el5, szl, sOwn' m5 zl, ?_, _, _, rfl⟩
            rw [upd_same, en, if_pos c, if_neg (show ¬ owns p n = true from o), List.map_append]
            rfl
        · refine ⟨m5, ?_, _, _, rfl⟩
          rw [en, if_neg c, List.append_nil]
          exact el5
      · rintro σ H3 ⟨m3, el, v5, v6, rfl⟩
        rw [pts.1, List.take_of_length_le (Nat.le_refl _)] at el
        refine ⟨_, rfl, _, rfl, by show 2 ≤ sizeLine; decide, fun t nt => ?_⟩
        exact q _ t l (sNew m3 nt) (Same.free m3 nt) zl upd_same (by rw [upd_ne (ne_of_none el nt)]; exact el)
end
end K30
set_option Elab.async false
set_option linter.all false
set_option maxRecDepth 100000
set_option maxHeartbeats 4000000
namespace K30
open PySem PySem.Spec PyProof.Rows L2
theorem owns_bi {p : Pt} (g : Good p) (n : Str) : owns p n = bi p n := by
  unfold owns bi
  rw [decide_eq_decide.mpr (canon_mem g.ok.tells.ok n).symm]
theorem any_told {ps : List Pt} (g : ∀ p ∈ ps, Good p) (n : Str) : (ps.any fun p => decide (n ∈ p.tells)) = told ps n := by
  unfold told
  rw [Bool.eq_iff_iff, List.any_eq_true, List.any_eq_true]
  constructor
  · rintro ⟨p, hp, h⟩
    exact ⟨p, hp, by rw [decide_eq_true_eq] at h ⊢; exact (canon_mem (g p hp).ok.tells.ok n).mpr h⟩
  · rintro ⟨p, hp, h⟩
    exact ⟨p, hp, by rw [decide_eq_true_eq] at h ⊢; exact (canon_mem (g p hp).ok.tells.ok n).mp h⟩
theorem refs1_sorted {p : Pt} (k : PtOk p) {ys : List Str} (h : ys.Perm (p.wants ++ p.asks)) (e : sortedS ys = true) : ys = refs1 p := by
  have w : Ws (p.wants ++ p.asks) := ⟨fun x hx => (List.mem_append.mp hx).elim (k.wants.ok x) (k.asks.ok x), List.nodup_append.mpr ⟨k.wants.nd, k.asks.nd, fun a ha b hb e => by
    subst e
    exact k.apart a hb ha⟩⟩
  rw [canon_of w h e]
  refine canon_congr fun x => ?_
  rw [List.mem_append, List.mem_append, canon_mem k.wants.ok, canon_mem k.asks.ok]
/-- what the law finds itself -/
def ownL (ps : List Pt) : List (Nat × Str) := (refsFrom 0 ps).filter (ownAt ps)
def freeL (ps : List Pt) : List (Nat × Str) := (refsFrom 0 ps).filter fun r => !ownAt ps r && told ps r.2
theorem own_told {ps : List Pt} {r : Nat × Str} (lt : r.1 < ps.length) (h : ownAt ps r = true) : told ps r.2 = true := by
  unfold ownAt at h
  rw [pAt_of (List.getElem?_eq_getElem lt)] at h
  unfold bi at h
  exact List.any_eq_true.mpr ⟨ps[r.1], List.getElem_mem lt, (Bool.and_eq_true_iff.mp h).2⟩
theorem inner_own (ps : List Pt) : (inner ps).filter (ownAt ps) = ownL ps := by
  unfold inner ownL
  rw [List.filter_filter]
  refine List.filter_congr fun r hr => ?_
  have lt := (refs_lt ps 0 r hr).2
  rw [Nat.zero_add] at lt
  cases e : ownAt ps r
  · rfl
  · rw [own_told lt e]
    rfl
theorem inner_free (ps : List Pt) : (inner ps).filter (fun r => !ownAt ps r) = freeL ps := by
  unfold inner freeL
  rw [List.filter_filter]
theorem find_own (ps : List Pt) : (refsFrom 0 ps).find? (twoAt ps) = (ownL ps).find? fun r => told (ps.take r.1) r.2 := by
  unfold ownL
  rw [List.find?_filter]
  refine congrArg (fun f => List.find? f _) (funext fun r => ?_)
  show (ownAt ps r && told (ps.take r.1) r.2) = _
  simp
def dueOf (ps : List Pt) : Bar := match (ownL ps).find? (fun r => told (ps.take r.1) r.2) with
  | some r => .two r
  | none => match ownL ps, freeL ps with
    | o :: _, t :: _ => .mixed o t
    | _, _ => .none
theorem due_bar (ps : List Pt) : dueOf ps = barOf ps := by
  unfold dueOf barOf
  rw [find_own, inner_own, inner_free]
  all_goals
    cases (ownL ps).find? (fun r => told (ps.take r.1) r.2) with
    | some r => rfl
    | none =>
      generalize ownL ps = a
      generalize freeL ps = b
      cases a <;> cases b <;> rfl
theorem lay_refs : ∀ rs : List (Nat × Str), (∀ r ∈ rs, r.2 ∈ words) → PyData.canLayAll0 (rs.map fun r => PyData.tuple [.int (r.1 : Nat), .str r.2]) = true
  | [], _ => by simp [PyData.canLayAll0]
  | n :: r, h => by simp [PyData.canLayAll0, PyData.canLay0, word_ok n.2 (h n List.mem_cons_self), lay_refs r fun x hx => h x (List.mem_cons_of_mem _ hx)]
theorem deep_refs : ∀ rs : List (Nat × Str), PyData.depthAll (rs.map fun r => PyData.tuple [.int (r.1 : Nat), .str r.2]) ≤ 3
  | [] => by simp [PyData.depthAll]
  | n :: r => by
    have := deep_refs r
    simp only [List.map_cons, PyData.depthAll, PyData.depth]
    omega
theorem shaped_refs (rs : List (Nat × Str)) (hw : ∀ r ∈ rs, r.2 ∈ words) : SeqAt.shaped (.list (rs.map fun r => PyData.tuple [.int (r.1 : Nat), .str r.2])) = true := by
  have h1 := deep_refs rs
  have h2 : PyData.depth (.list (rs.map fun r => PyData.tuple [.int (r.1 : Nat), .str r.2])) ≤ 64 := by simp only [PyData.depth]; omega
  have h3 : PyData.canLay0 (.list (rs.map fun r => PyData.tuple [.int (r.1 : Nat), .str r.2])) = true := by simp only [PyData.canLay0]; exact lay_refs rs hw
  exact Bool.and_eq_true_iff.mpr ⟨h3, decide_eq_true h2⟩
theorem dpRefs {K : PySem.W.Frag} {H : Hp} : ∀ (xs : List V) (rs : List (Nat × Str)), Rfs H xs rs → DpAll K H xs (rs.map fun r => PyData.tuple [.int (r.1 : Nat), .str r.2])
  | [], [], _ => .nil
  | [], _ :: _, h => by cases h.1
  | _ :: _, [], h => by cases h.1
  | x :: xs, r :: rs, h => by
    obtain ⟨t, rfl, e⟩ := h.2 0 x r rfl rfl
    exact .cons (.tup (.of e) (.cons (.int _) (.cons (.str _) .nil))) (dpRefs xs rs ⟨by simpa using h.1, fun k v q a b => h.2 (k + 1) v q a b⟩)
theorem neRefs {K : PySem.W.Frag} {H : Hp} {a b : Addr} {xs : List V} {rs : List (Nat × Str)} {Q : VK} (hw : ∀ r ∈ rs, r.2 ∈ words) (ha : H a = some (.lst xs)) (hr : Rfs H xs rs) (hb : H b = some (.lst [])) (q : Q (.bl (!rs.isEmpty)) H) : rNeD K (.ref a) (.ref b) H Q := by
  refine ⟨_, _, .lst (.of ha) (dpRefs xs rs hr), .lst (.of hb) .nil, shaped_refs rs hw, shaped_refs [] (fun r h => nomatch h), ?_⟩
  have e : (!PyData.eqv (.list (rs.map fun r => PyData.tuple [.int (r.1 : Nat), .str r.2])) (.list [])) = !rs.isEmpty := by
    cases rs with
    | nil => simp [PyData.eqv, PyData.eqvAll]
    | cons r l => simp [PyData.eqv, PyData.eqvAll]
  rw [e]
  exact q
/-- [name in one[0] for one in parts] -/
theorem lc_one {K : PySem.W.Frag} {Nw : Addr → Prop} {a D : Addr} {ws : List V} {ps : List Pt} {n : Str} {H1 : Hp} {σ : L2.St} {Qd : Hp → Prop} (h5 : σ[5]? = some (some (.str n))) (hl : 6 < σ.length) (h : H1 a = some (.lst ws)) (r : Pts Nw H1 ws ps) (l7 : ps.length ≤ 7) (nD : H1 D = none)
    (done : ∀ H', Same H1 H' → H' D = some (.lst ((ps.map fun p => decide (n ∈ p.tells)).map V.bl)) → Qd H') :
    ∃ W : Nat → Nat → Hp → Prop, (∃ m, W 0 m (upd H1 D (.lst []))) ∧ ∀ i m H, W i m H →
      ((Itl K a).stop i H ∧ Qd H) ∨ ((Itl K a).go i H ∧ ∃ Nx : Hp → Prop, (∀ H', Nx H' → ∃ m', m' < m ∧ W (i + 1) m' H') ∧ ∀ x H', (Itl K a).yld i H x H' → gName 6 x (wipe σ [6]) H' fun σ2 H2 => wipe σ2 [6] = wipe σ [6] ∧ tYes σ2 H2 fun b H3 =>
        if b = true then tOp (rIn K false) (tVar 5) (tOp (rIxT K) (tVar 6) (tC (.int 0))) σ2 H3 fun y H4 => ∃ acc, H4 D = some (.lst acc) ∧ acc.length < sizeLine ∧ Nx (upd H4 D (.lst (acc ++ [y]))) else Nx H3) := by
  refine lc_it (walk_list (K := K) (a := a) (xs := ws)) (fun i H' => Same H1 H' ∧ H' D = some (.lst (((ps.map fun p => decide (n ∈ p.tells)).take i).map V.bl))) ⟨sNew (Same.refl H1) nD, upd_same⟩ (fun i H' _ z => .of (z.1 _ _ h)) ?_ ?_
  · rintro i v H2 H3 hi ⟨m1, eD⟩ ⟨rfl, hv⟩
    obtain ⟨p, hp, t, A, B, C', D', rfl, _, e0, ea, _⟩ := ((r.map fun v p h => h.same m1) : Pts Nw _ ws ps).at hv
    have il : i < ps.length := (List.getElem?_eq_some_iff.mp hp).1
    refine ⟨?_, .str n, ?_, .ref t, ?_, t, _, _, _, rfl, rfl, .of e0, atI_nat (j := 0) rfl, A, _, rfl, .inl (.of ea), rfl, flat_strs _, _, eD, ?_, sOwn' m1 nD, ?_⟩
    · show ((σ.set 6 none).set 6 (some (V.ref t))).set 6 none = σ.set 6 none
      rw [List.set_set, List.set_set]
    · show ((σ.set 6 none).set 6 (some (V.ref t)))[5]? = some (some (V.str n))
      rw [List.getElem?_set_ne (by decide), List.getElem?_set_ne (by decide)]
      exact h5
    · show ((σ.set 6 none).set 6 (some (V.ref t)))[6]? = some (some (V.ref t))
      rw [List.getElem?_set_self (by rw [List.length_set]; exact hl)]
    · rw [List.length_map, List.length_take]
      exact Nat.lt_of_lt_of_le (show min i _ < 8 by omega) (by decide)
    · rw [upd_same]
      show some (HO.lst (_ ++ [V.bl (inV (.str n) (p.tells.map V.str))])) = _
      rw [in_strs, List.take_add_one, List.getElem?_map, hp, List.map_append]
      rfl
  · rintro H2 ⟨m1, eD⟩
    rw [r.1, List.take_of_length_le (by simp)] at eD
    exact done H2 m1 eD
theorem one_any (ps : List Pt) (n : Str) : (ps.map fun p => decide (n ∈ p.tells)).any id = ps.any fun p => decide (n ∈ p.tells) := by
  rw [List.any_map]
  rfl
theorem refs_words {ps : List Pt} (g : ∀ p ∈ ps, Good p) : ∀ (i : Nat), ∀ r ∈ refsFrom i ps, r.2 ∈ words := by
  induction ps with
  | nil => intro i r h; simp [refsFrom] at h
  | cons p q ih =>
    intro i r h
    simp only [refsFrom, List.mem_append, List.mem_map] at h
    rcases h with ⟨n, hn, rfl⟩ | h
    · exact order_words n (List.mem_filter.mp hn).1
    · exact ih (fun x hx => g x (List.mem_cons_of_mem _ hx)) (i + 1) r h
theorem Rfs.push {H : Hp} {xs ys zs : List V} {rs : List (Nat × Str)} {o : Addr} (h : Rfs H xs rs) (e : H o = some (.lst ys)) : Rfs (upd H o (.lst zs)) xs rs := ⟨h.1, fun k v r a b => by
  obtain ⟨t, e1, e2⟩ := h.2 k v r a b
  refine ⟨t, e1, ?_⟩
  have n : t ≠ o := fun z => by
    subst z
    rw [e] at e2
    cases e2
  rw [upd_ne n]
  exact e2⟩
theorem filter_snoc {α : Type} (f : α → Bool) (l : List α) (x : α) : (l ++ [x]).filter f = l.filter f ++ (if f x = true then [x] else []) := by
  rw [List.filter_append]
  by_cases c : f x = true
  · simp [c]
  · simp [c]
def freeAt (ps : List Pt) (r : Nat × Str) : Bool := !ownAt ps r && told ps r.2
def spDue : Sp := fun vs H Q _ => ∃ (Nw : Addr → Prop) (a : Addr) (ws : List V) (ps : List Pt), vs = [.ref a] ∧ H a = some (.lst ws) ∧ Pts Nw H ws ps ∧ ps.length ≤ 7 ∧ (∀ p ∈ ps, Good p) ∧ ∀ H' v, Same H H' → BarAt H' v (barOf ps) → Q v H'
def nDue : List Str := ["parts", "own", "free", "at", "part", "name", "one"]
section
variable {P : Program} {w : World} {K : PySem.W.Frag} {mg : Str → Option Value} {base : Heap} {C : Addr}
theorem scDue : FnScope nDue ["parts"] (defScope sDue) := ⟨rfl, rfl, rfl, by decide +kernel, rfl, by decide +kernel, by decide +kernel⟩
theorem ok_due {f : Addr} {fd : FuncData} (F : Fun K "_law_bar_due" "_law_bar_due" sDue f fd) (T : Txt K mg C) (co : Cal P w K mg base 1 "_law_own" ["part", "name"] spOwn2) : FnOk P w K mg base CX0 2 f fd ["parts"] spDue := by
  obtain ⟨fo, do', GO, go, ko, bo⟩ := co.ex
  refine F.ok scDue (fun vs H Q E h => ?_) (fun cdv A outer s H vs Q E hr h => ?_)
  · obtain ⟨Nw, a, ws, ps, rfl, _⟩ := h
    rfl
  · obtain ⟨Nw, a, ws, ps, rfl, ha, pts, l7, gd, q⟩ := h
    refine ⟨_, pss_cons (ps_par (i := 1) (j := 2) rfl scDue.nd rfl rfl (by decide) rfl rfl (pa_cons (pe_lst pa_nil) (pa_cons (pe_lst pa_nil) pa_nil)) (by rfl))
      (pss_cons (ps_for PassesOwn.never rfl (pi_enum (by rfl) T.enu (pa_cons (pv 0) pa_nil)) (pg_tup rfl (pgs_cons (pg_name (i := 3) scDue.nd rfl (.inl rfl)) (pgs_cons (pg_name (i := 4) scDue.nd rfl (.inl rfl)) pgs_nil)))
        (pss_one (ps_for PassesOwn.never rfl (pi_list (pe_callB cr_sortedS (by rfl) T.srt boot_srt (pa_cons (pe_op op_cat (pe_ix ix_tup (pv 4) pe_int (fun _ _ => rfl)) (pe_ix ix_tup (pv 4) pe_int (fun _ _ => rfl))) pa_nil))) (pg_name (i := 5) scDue.nd rfl (.inr rfl))
          (pss_one (ps_if (pt_val (pe_call GO hr rfl go ko bo .nil pass0 (pa_cons (pv 4) (pa_cons (pv 5) pa_nil))))
            (pss_one (ps_expr (pe_bm PySem.F.plainAttrs_list PySem.F.slot_list_append PySem.F.type_list_append mt_append (pv 1) (pa_cons (pe_tup (pa_cons (pv 3) (pa_cons (pv 5) pa_nil))) pa_nil))))
            (pss_one (ps_if (pt_val (pe_callB (cr_any rfl) (by rfl) T.any boot_any' (pa_cons (pe_lc (own := [("one", 6)]) (g := gName 6) (tt := tYes) (te := tOp (rIn K false) (tVar 5) (tOp (rIxT K) (tVar 6) (tC (.int 0)))) rfl scDue.nd (pi_list (pv 0)) (blkOk_by (N := nDue) (sc := defScope sDue) (by decide +kernel)) (fun _ _ _ _ _ => pg_name (i := 6) scDue.nd rfl (.inl rfl)) (fun _ _ _ _ _ => pts_nil)
                (fun _ _ _ _ _ => by exact pe_cmpR op_in_seq (pv 5) (pe_ix ix_tup (pv 6) pe_int (fun _ _ => rfl)) (by rfl))) pa_nil)))
              (pss_one (ps_expr (pe_bm PySem.F.plainAttrs_list PySem.F.slot_list_append PySem.F.type_list_append mt_append (pv 2) (pa_cons (pe_tup (pa_cons (pv 3) (pa_cons (pv 5) pa_nil))) pa_nil)))) pss_nil)))))))
      (pss_cons (ps_for PassesOwn.never rfl (pi_list (pv 1)) (pg_tup rfl (pgs_cons (pg_name (i := 3) scDue.nd rfl (.inl rfl)) (pgs_cons (pg_name (i := 5) scDue.nd rfl (.inr rfl)) pgs_nil)))
        (pss_one (ps_if (pt_val (pe_callB (cr_any rfl) (by rfl) T.any boot_any' (pa_cons (pe_lc (own := [("one", 6)]) (g := gName 6) (tt := tYes) (te := tOp (rIn K false) (tVar 5) (tOp (rIxT K) (tVar 6) (tC (.int 0)))) rfl scDue.nd (pi_list (pe_slice sl_list (pv 0) po_none (po_some (pv 3)))) (blkOk_by (N := nDue) (sc := defScope sDue) (by decide +kernel)) (fun _ _ _ _ _ => pg_name (i := 6) scDue.nd rfl (.inl rfl)) (fun _ _ _ _ _ => pts_nil)
                (fun _ _ _ _ _ => by exact pe_cmpR op_in_seq (pv 5) (pe_ix ix_tup (pv 6) pe_int (fun _ _ => rfl)) (by rfl))) pa_nil)))
          (pss_one (ps_ret (pe_tup (pa_cons pe_str (pa_cons (pv 3) (pa_cons (pv 5) pa_nil)))))) pss_nil)))
      (pss_one (ps_ret (pe_ifExp (PW.pt (pw_and (pt_cmpR (op_neD hr.units) (pv 1) (pe_lst pa_nil) (nomark _)) (pw_and1 (pt_cmpR (op_neD hr.units) (pv 2) (pe_lst pa_nil) (nomark _))))) (pe_tup (pa_cons pe_str (pa_cons (pe_ix ix_list (pv 1) pe_int (fun _ _ => rfl)) (pa_cons (pe_ix ix_list (pv 2) pe_int (fun _ _ => rfl)) pa_nil)))) pe_non))))), ?_⟩
    refine ⟨Nat.zero_le _, fun o no => ⟨Nat.zero_le _, fun g ng => ⟨_, _, rfl, ?_⟩⟩⟩
    have hm1 := sNew (o := .lst []) (Same.refl H) no
    have hm2 := sNew (o := .lst []) hm1 ng
    have zg := Same.free hm1 ng
    have og : o ≠ g := ne_of_none upd_same ng
    have eo0 : (upd (upd H o (.lst [])) g (.lst [])) o = some (.lst []) := by rw [upd_ne og]; exact upd_same
    have hm2' := hm2
    refine ⟨_, rfl, a, ws, rfl, .of (hm2 _ _ ha), ?_⟩
    refine for_it (walk_enum (K := K) (a := a) (xs := ws)) (fun i σ H' => Same H H' ∧ (∃ xs, H' o = some (.lst xs) ∧ Rfs H' xs ((refsFrom 0 (ps.take i)).filter (ownAt ps))) ∧ (∃ ys, H' g = some (.lst ys) ∧ Rfs H' ys ((refsFrom 0 (ps.take i)).filter (freeAt ps))) ∧
      ∃ u3 u4 u5, σ = [some (.ref a), some (.ref o), some (.ref g), u3, u4, u5, none]) ⟨hm2, ⟨[], eo0, Rfs.nil⟩, ⟨[], upd_same, Rfs.nil⟩, none, none, none, rfl⟩ (fun i σ H' _ z => .of (z.1 _ _ ha)) ?_ ?_
    · rintro i x σ H2 H3 hi ⟨m2, ⟨xs, eo, ro⟩, ⟨ys, eg, rg⟩, u3, u4, u5, rfl⟩ ⟨T1, x1, x2, rfl, nT, rfl, f1, f2⟩
      cases f1
      have mT := sNew (o := .tup [.int (i : Nat), x2]) (Same.refl H2) nT
      have m3 := m2.trans mT
      obtain ⟨p, hp, ptt⟩ := ((pts.map fun v p h => h.same m3) : Pts Nw _ ws ps).at f2
      have pt0 := ptt
      obtain ⟨t, A, B, C', D', rfl, _, e0, ea, eb, ec, _⟩ := pt0
      have gp := gd p (List.mem_of_getElem? hp)
      have il : i < ps.length := (List.getElem?_eq_some_iff.mp hp).1
      have ro3 := ro.same mT
      have rg3 := rg.same mT
      have eo3 := mT _ _ eo
      have eg3 := mT _ _ eg
      have w1 := gp.ok.wants.len
      have w2 := gp.ok.asks.len
      have sz : (p.wants.map V.str).length + (p.asks.map V.str).length ≤ sizeLine := by
        rw [List.length_map, List.length_map]
        exact Nat.le_trans (show _ ≤ 14 by omega) (by decide)
      refine ⟨T1, _, rfl, .of upd_same, rfl, _, _, rfl, _, _, rfl, rfl, ?_⟩
      refine ⟨_, rfl, t, _, _, _, rfl, rfl, .of e0, atI_nat (j := 1) rfl, _, rfl, t, _, _, _, rfl, rfl, .of e0, atI_nat (j := 2) rfl, B, C', _, _, rfl, rfl, eb, ec, sz, fun w3 nw3 => ?_⟩
      have mw := sNew (o := .lst (p.wants.map V.str ++ p.asks.map V.str)) (Same.refl _) nw3
      refine ⟨w3, p.wants ++ p.asks, rfl, .of (by rw [upd_same, List.map_append]), by rw [List.length_append]; omega, fun zs w4 p4 e4 nw4 => ?_⟩
      have ez := refs1_sorted gp.ok p4 e4
      subst ez
      have mx := sNew (o := .lst ((refs1 p).map V.str)) mw nw4
      have r7 := refs1_len p
      refine ⟨w4, rfl, ⟨_, .of upd_same⟩, ?_⟩
      have ow4 : o ≠ w4 := ne_of_none (mw _ _ eo3) nw4
      have gw4 : g ≠ w4 := ne_of_none (mw _ _ eg3) nw4
      have m4 := m3.trans mx
      have eo4 := mx _ _ eo3
      have eg4 := mx _ _ eg3
      have ro4 := ro3.same mx
      have rg4 := rg3.same mx
      have hw4 : (upd (upd (upd H2 T1 (.tup [.int (i : Nat), .ref t])) w3 (.lst (p.wants.map V.str ++ p.asks.map V.str))) w4 (.lst ((refs1 p).map V.str))) w4 = some (.lst ((refs1 p).map V.str)) := upd_same
      generalize upd (upd (upd H2 T1 (.tup [.int (i : Nat), .ref t])) w3 (.lst (p.wants.map V.str ++ p.asks.map V.str))) w4 (.lst ((refs1 p).map V.str)) = H4 at m4 eo4 eg4 ro4 rg4 hw4
      have bound : (refsFrom 0 (ps.take i)).length ≤ 49 := by
        have := refsFrom_len (ps.take i) 0
        rw [List.length_take] at this
        omega
      have oat : ∀ n, ownAt ps (i, n) = owns p n := fun n => by
        rw [owns_bi gp]
        unfold ownAt
        rw [pAt_of hp]
      refine for_list (K := K) (a := w4) (xs := (refs1 p).map V.str) (fun j σ H' => Same H H' ∧ H' w4 = some (.lst ((refs1 p).map V.str)) ∧ (∃ xs, H' o = some (.lst xs) ∧ Rfs H' xs ((refsFrom 0 (ps.take i) ++ ((refs1 p).take j).map fun n => (i, n)).filter (ownAt ps))) ∧ (∃ ys, H' g = some (.lst ys) ∧ Rfs H' ys ((refsFrom 0 (ps.take i) ++ ((refs1 p).take j).map fun n => (i, n)).filter (freeAt ps))) ∧
        ∃ u5, σ = [some (.ref a), some (.ref o), some (.ref g), some (.int (i : Nat)), some (.ref t), u5, none]) ⟨m4, hw4, ⟨xs, eo4, by rw [List.take_zero, List.map_nil, List.append_nil]; exact ro4⟩, ⟨ys, eg4, by rw [List.take_zero, List.map_nil, List.append_nil]; exact rg4⟩, u5, rfl⟩ (fun j σ H' _ z => .of z.2.1) ?_ ?_
      · rintro j v σ H5 hj ⟨m5, hw5, ⟨xs5, eo5, ro5⟩, ⟨ys5, eg5, rg5⟩, u5', rfl⟩
        obtain ⟨n, hn, rfl⟩ := map_at hj
        have jl : j < (refs1 p).length := (List.getElem?_eq_some_iff.mp hn).1
        have eL : refsFrom 0 (ps.take i) ++ ((refs1 p).take (j + 1)).map (fun n => (i, n)) = (refsFrom 0 (ps.take i) ++ ((refs1 p).take j).map fun n => (i, n)) ++ [(i, n)] := by
          rw [List.take_add_one, hn, List.map_append, ← List.append_assoc]
          rfl
        have lL : (refsFrom 0 (ps.take i) ++ ((refs1 p).take j).map fun n => (i, n)).length ≤ 56 := by
          rw [List.length_append, List.length_map, List.length_take]
          omega
        have pt5 : PtAt Nw H5 (.ref t) p := by
          obtain ⟨p', hp', q'⟩ := ((pts.map fun v p h => h.same m5) : Pts Nw _ ws ps).at f2
          rw [hp] at hp'
          cases hp'
          exact q'
        refine ⟨_, rfl, _, rfl, Nw, .ref t, n, p, rfl, pt5, _, rfl, ?_⟩
        refine ite2 (fun c => ?_) (fun c => ?_)
        · have c' : ownAt ps (i, n) = true := by rw [oat]; exact c
          refine ⟨_, rfl, .inl ⟨rfl, _, .of eo5⟩, _, rfl, _, rfl, by show 2 ≤ sizeLine; decide, fun tt ntt => ?_⟩
          have mt := sNew (o := .tup [.int (i : Nat), .str n]) (Same.refl H5) ntt
          refine ⟨o, xs5, .ref tt, rfl, rfl, mt _ _ eo5, ?_, ?_⟩
          · rw [ro5.1]
            exact Nat.lt_of_le_of_lt (Nat.le_trans (List.length_filter_le _ _) lL) (by decide)
          · refine ⟨sOwn' (m5.trans mt) no, by rw [upd_ne ow4.symm]; exact mt _ _ hw5, ⟨_, upd_same, ?_⟩, ⟨ys5, by rw [upd_ne og.symm]; exact mt _ _ eg5, ?_⟩, _, rfl⟩
            · rw [eL, filter_snoc, if_pos c']
              refine ((ro5.same mt).push (mt _ _ eo5)).app (Rfs.one ?_)
              have nt : tt ≠ o := (ne_of_none eo5 ntt).symm
              rw [upd_ne nt]
              exact upd_same
            · rw [eL, filter_snoc, if_neg (by unfold freeAt; rw [c']; exact Bool.noConfusion), List.append_nil]
              exact (rg5.same mt).push (mt _ _ eo5)
        · have c' : ownAt ps (i, n) = false := by
            rw [oat]
            cases e : owns p n
            · rfl
            · exact absurd e c
          refine ⟨_, rfl, a, rfl, ⟨_, .of (m5 _ _ ha)⟩, fun D nD => ?_⟩
          refine lc_one rfl (by show 6 < 7; decide) (m5 _ _ ha) ((pts.map fun v p h => h.same m5) : Pts Nw _ ws ps) l7 nD fun H6 m6 eD => ?_
          refine ⟨D, _, rfl, .of eD, _, rfl, ?_⟩
          rw [one_any, any_told gd]
          refine ite2 (fun d => ?_) (fun d => ?_)
          · have d' : freeAt ps (i, n) = true := by
              unfold freeAt
              rw [c', d]
              rfl
            have eg6 := m6 _ _ eg5
            refine ⟨_, rfl, .inl ⟨rfl, _, .of eg6⟩, _, rfl, _, rfl, by show 2 ≤ sizeLine; decide, fun tt ntt => ?_⟩
            have mt := sNew (o := .tup [.int (i : Nat), .str n]) m6 ntt
            refine ⟨g, ys5, .ref tt, rfl, rfl, mt _ _ eg5, ?_, ?_⟩
            · rw [rg5.1]
              exact Nat.lt_of_le_of_lt (Nat.le_trans (List.length_filter_le _ _) lL) (by decide)
            · refine ⟨sOwn' (m5.trans mt) zg, by rw [upd_ne gw4.symm]; exact mt _ _ hw5, ⟨xs5, by rw [upd_ne og]; exact mt _ _ eo5, ?_⟩, ⟨_, upd_same, ?_⟩, _, rfl⟩
              · rw [eL, filter_snoc, if_neg (by rw [c']; exact Bool.noConfusion), List.append_nil]
                exact (ro5.same mt).push (mt _ _ eg5)
              · rw [eL, filter_snoc, if_pos d']
                refine ((rg5.same mt).push (mt _ _ eg5)).app (Rfs.one ?_)
                have nt : tt ≠ g := (ne_of_none eg6 ntt).symm
                rw [upd_ne nt]
                exact upd_same
          · refine ⟨m5.trans m6, m6 _ _ hw5, ⟨xs5, m6 _ _ eo5, ?_⟩, ⟨ys5, m6 _ _ eg5, ?_⟩, _, rfl⟩
            · rw [eL, filter_snoc, if_neg (by rw [c']; exact Bool.noConfusion), List.append_nil]
              exact ro5.same m6
            · have d' : ¬ freeAt ps (i, n) = true := fun z => d (Bool.and_eq_true_iff.mp z).2
              rw [eL, filter_snoc, if_neg d', List.append_nil]
              exact rg5.same m6
      · rintro σ H5 ⟨m5, hw5, ⟨xs5, eo5, ro5⟩, ⟨ys5, eg5, rg5⟩, u5', rfl⟩
        rw [List.length_map, List.take_of_length_le (Nat.le_refl _)] at ro5 rg5
        have et : refsFrom 0 (ps.take (i + 1)) = refsFrom 0 (ps.take i) ++ (refs1 p).map fun n => (i, n) := by
          rw [show ps.take (i + 1) = ps.take i ++ [p] by rw [List.take_add_one, hp]; rfl, refsFrom_snoc]
          have ei : 0 + (ps.take i).length = i := by rw [List.length_take]; omega
          rw [ei]
        refine ⟨m5, ⟨xs5, eo5, by rw [et]; exact ro5⟩, ⟨ys5, eg5, by rw [et]; exact rg5⟩, _, _, _, rfl⟩
    · rintro σ H2 ⟨m2, ⟨xs, eo, ro⟩, ⟨ys, eg, rg⟩, u3, u4, u5, rfl⟩
      rw [pts.1, List.take_of_length_le (Nat.le_refl _)] at ro rg
      have ro' : Rfs H2 xs (ownL ps) := ro
      have rg' : Rfs H2 ys (freeL ps) := rg
      refine ⟨_, rfl, o, rfl, ⟨_, .of eo⟩, ?_⟩
      refine for_list (K := K) (a := o) (xs := xs) (fun k σ H' => Same H2 H' ∧ ((ownL ps).take k).find? (fun r => told (ps.take r.1) r.2) = none ∧ ∃ u3 u5, σ = [some (.ref a), some (.ref o), some (.ref g), u3, u4, u5, none]) ⟨Same.refl H2, rfl, _, _, rfl⟩ (fun k σ H' _ z => .of (z.1 _ _ eo)) ?_ ?_
      · rintro k x σ H3 hk ⟨m3, fn, v3, v5, rfl⟩
        obtain ⟨r, t, hr', rfl, et⟩ := (ro'.same m3).at hk
        have mm := m2.trans m3
        refine ⟨t, _, rfl, .of et, rfl, _, _, rfl, _, _, rfl, rfl, ?_⟩
        refine ⟨_, rfl, _, rfl, _, rfl, a, ws, rfl, .of (mm _ _ ha), fun p1 np1 => ?_⟩
        rw [cut_to]
        have mp := sNew (o := .lst (ws.take r.1)) (Same.refl H3) np1
        refine ⟨p1, rfl, ⟨_, .of upd_same⟩, fun D nD => ?_⟩
        refine lc_one (ps := ps.take r.1) rfl (by show 6 < 7; decide) upd_same (((pts.map fun v p h => h.same (mm.trans mp)) : Pts Nw _ ws ps).take r.1) (by rw [List.length_take]; omega) nD fun H4 m4 eD => ?_
        refine ⟨D, _, rfl, .of eD, _, rfl, ?_⟩
        rw [one_any, any_told (fun p hp => gd p (List.mem_of_mem_take hp))]
        refine ite2 (fun c => ?_) (fun c => ?_)
        · refine ⟨_, rfl, _, rfl, by show 3 ≤ sizeLine; decide, fun z nz => ?_⟩
          refine q _ _ (sNew ((mm.trans mp).trans m4) nz) ?_
          have eb : barOf ps = .two r := by
            rw [← due_bar]
            unfold dueOf
            rw [find_at hr' fn c]
          rw [eb]
          exact .two upd_same
        · refine ⟨(m3.trans mp).trans m4, find_step hr' fn ?_, _, _, rfl⟩
          cases e : told (ps.take r.1) r.2
          · rfl
          · exact absurd e c
      · rintro σ H3 ⟨m3, fn, v3, v5, rfl⟩
        rw [ro'.1, List.take_of_length_le (Nat.le_refl _)] at fn
        have mm := m2.trans m3
        have ro3 := ro'.same m3
        have rg3 := rg'.same m3
        have eo3 := m3 _ _ eo
        have eg3 := m3 _ _ eg
        have wo : ∀ r ∈ ownL ps, r.2 ∈ words := fun r hr => refs_words gd 0 r (List.mem_filter.mp hr).1
        have wf : ∀ r ∈ freeL ps, r.2 ∈ words := fun r hr => refs_words gd 0 r (List.mem_filter.mp hr).1
        have eb : barOf ps = match ownL ps, freeL ps with
          | o :: _, t :: _ => .mixed o t
          | _, _ => .none := by
          rw [← due_bar]
          unfold dueOf
          rw [fn]
        refine ⟨_, rfl, Nat.zero_le _, fun b1 nb1 => ?_⟩
        have n1 := sNew (o := .lst []) (Same.refl H3) nb1
        refine neRefs wo (n1 _ _ eo3) (ro3.same n1) upd_same ⟨_, rfl, ?_⟩
        cases eO : ownL ps with
        | nil =>
          rw [eO] at eb
          exact iteF (iteF (q _ _ (mm.trans n1) (by rw [eb]; exact .none)))
        | cons r1 l1 =>
          refine iteT ⟨_, rfl, Nat.zero_le _, fun b2 nb2 => ?_⟩
          have n2 := sNew (o := .lst []) n1 nb2
          refine neRefs wf (n2 _ _ eg3) (rg3.same n2) upd_same ⟨_, rfl, ?_⟩
          cases eF : freeL ps with
          | nil =>
            rw [eO, eF] at eb
            exact iteF (q _ _ (mm.trans n2) (by rw [eb]; exact .none))
          | cons r2 l2 =>
            rw [eO, eF] at eb
            rw [eO] at ro3
            rw [eF] at rg3
            obtain ⟨z0, hz0⟩ : ∃ z, xs[0]? = some z := ⟨xs[0]'(by rw [ro3.1]; simp), List.getElem?_eq_getElem _⟩
            obtain ⟨y0, hy0⟩ : ∃ z, ys[0]? = some z := ⟨ys[0]'(by rw [rg3.1]; simp), List.getElem?_eq_getElem _⟩
            refine iteT ⟨_, rfl, o, _, _, _, rfl, rfl, .of (n2 _ _ eo3), atI_nat (j := 0) hz0, _, rfl, g, _, _, _, rfl, rfl, .of (n2 _ _ eg3), atI_nat (j := 0) hy0, by show 3 ≤ sizeLine; decide, fun z nz => ?_⟩
            have n3 := sNew (o := .tup [.str "mixed", z0, y0]) n2 nz
            refine q _ _ (mm.trans n3) ?_
            rw [eb]
            obtain ⟨t1, a1, b1'⟩ := (ro3.same n3).2 0 z0 r1 hz0 rfl
            obtain ⟨t2, a2, b2'⟩ := (rg3.same n3).2 0 y0 r2 hy0 rfl
            exact .mixed upd_same ⟨t1, a1, b1'⟩ ⟨t2, a2, b2'⟩
end
end K30
set_option Elab.async false
set_option linter.all false
set_option maxRecDepth 100000
set_option maxHeartbeats 4000000
namespace K30
open PySem PySem.Spec PyProof.Rows L2
def allTells (ps : List Pt) : List Str := ps.flatMap fun p => p.tells
def farOf (ps : List Pt) (n : Str) (ah be : Bool) : Th := if ah = true then .ahead else if n ∈ allTells ps then .at 0 else if be = true then .behind else .none
def nearOf (ps : List Pt) (io : Bool) (n : Str) (ah be : Bool) : Th := if io = true ∧ n ∈ allTells ps then .at 0 else farOf ps n ah be
def test1 (o far near t : Th) : Bool := (!decide (o = .none) && decide (t = o)) == (!decide (far = .none) && decide (near = far))
def test2 (near t u : Th) : Bool := (!decide (t = .none) && decide (t = u)) == !decide (near = .none)
def okAt (ps : List Pt) (io : Bool) (n : Str) (ah be : Bool) : Bool := (innerFrom 0 n (outerOf ps n ah be) ps).all fun t => test1 (outerOf ps n ah be) (farOf ps n ah be) (nearOf ps io n ah be) t && (innerFrom 0 n (outerOf ps n ah be) ps).all fun u => test2 (nearOf ps io n ah be) t u
def sides4 : List (Bool × Bool) := [(false, false), (false, true), (true, false), (true, true)]
def standsFor (ps : List Pt) (io : Bool) : Bool := names4.all fun n => sides4.all fun s => okAt ps io n s.1 s.2
theorem th_eq (t o : Th) : decide (t.v = o.v) = decide (t = o) := by
  cases t <;> cases o <;> first | rfl | (rw [decide_eq_decide]; constructor <;> intro h) <;> first | rfl | (injection h with h; first | (have := Int.ofNat.inj h; rw [this]) | (rw [h])) | cases h
theorem th_scal (t o : Th) : scal t.v o.v = true := by
  cases t <;> cases o <;> rfl
theorem th_non (o : Th) : decide (o.v = V.non) = decide (o = .none) := by
  cases o <;> rfl
theorem and_cmp {i k m : Nat} {o t u : Th} {σ : L2.St} {H : Hp} {Q : VK} (h1 : σ[i]? = some (some o.v)) (h2 : σ[k]? = some (some t.v)) (h3 : σ[m]? = some (some u.v)) (q : Q (.bl (!decide (o = .none) && decide (t = u))) H) :
    tAndV (tOp (fun x y H Q => y = V.non ∧ Q (V.bl !decide (x = V.non)) H) (tVar i) (tC V.non)) (tOp rEq (tVar k) (tVar m)) σ H Q := by
  refine ⟨_, h1, rfl, _, rfl, ?_⟩
  rw [th_non]
  cases c : (!decide (o = .none))
  · rw [c] at q
    exact iteF q
  · rw [c] at q
    refine iteT ⟨_, h2, _, h3, th_scal t u, ?_⟩
    rw [th_eq]
    exact q
theorem bl_ne (a b : Bool) : (!decide (V.bl a = V.bl b)) = !(a == b) := by
  cases a <;> cases b <;> rfl
theorem stands_no1 {ps : List Pt} {io : Bool} {n : Str} {s : Bool × Bool} {t : Th} (hn : n ∈ names4) (hs : s ∈ sides4) (ht : t ∈ innerFrom 0 n (outerOf ps n s.1 s.2) ps) (h : test1 (outerOf ps n s.1 s.2) (farOf ps n s.1 s.2) (nearOf ps io n s.1 s.2) t = false) : standsFor ps io = false := by
  cases e : standsFor ps io with
  | false => rfl
  | true =>
    have e1 := List.all_eq_true.mp (List.all_eq_true.mp (List.all_eq_true.mp e n hn) s hs) t ht
    rw [h] at e1
    cases e1
theorem stands_no2 {ps : List Pt} {io : Bool} {n : Str} {s : Bool × Bool} {t u : Th} (hn : n ∈ names4) (hs : s ∈ sides4) (ht : t ∈ innerFrom 0 n (outerOf ps n s.1 s.2) ps) (hu : u ∈ innerFrom 0 n (outerOf ps n s.1 s.2) ps) (h : test2 (nearOf ps io n s.1 s.2) t u = false) : standsFor ps io = false := by
  cases e : standsFor ps io with
  | false => rfl
  | true =>
    have e1 := List.all_eq_true.mp (List.all_eq_true.mp (List.all_eq_true.mp e n hn) s hs) t ht
    have e2 := List.all_eq_true.mp (Bool.and_eq_true_iff.mp e1).2 u hu
    rw [h] at e2
    cases e2
theorem all_step {α : Type} {f : α → Bool} {l : List α} {i : Nat} {x : α} (e : l[i]? = some x) (h : (l.take i).all f = true) (g : f x = true) : (l.take (i + 1)).all f = true := by
  rw [List.take_add_one, e, List.all_append, h]
  simp [g]
def spSta2 : Sp := fun vs H Q _ => ∃ (Nw : Addr → Prop) (a : Addr) (io : Bool) (ws : List V) (ps : List Pt), vs = [.ref a, .bl io] ∧ H a = some (.lst ws) ∧ Pts Nw H ws ps ∧ ps.length ≤ 7 ∧ (∀ p ∈ ps, Good p) ∧ ∀ H', Same H H' → Q (.bl (standsFor ps io)) H'
def nSta : List Str := ["parts", "is_own", "names", "tells", "part", "name", "sides", "outer", "inner", "far", "near", "thing", "other"]
section
variable {P : Program} {w : World} {K : PySem.W.Frag} {mg : Str → Option Value} {base : Heap} {C : Addr}
theorem scSta2 : FnScope nSta ["parts", "is_own"] (defScope sSta2) := ⟨rfl, rfl, rfl, by decide +kernel, rfl, by decide +kernel, by decide +kernel⟩
theorem ok_sta2 {f : Addr} {fd : FuncData} (F : Fun K "_law_stands_for" "_law_stands_for" sSta2 f fd) (T : Txt K mg C) (ct : Cal P w K mg base 2 "_law_things" ["parts", "name", "is_ahead", "is_behind"] spThi) : FnOk P w K mg base CX0 3 f fd ["parts", "is_own"] spSta2 := by
  obtain ⟨fo, do', GO, go, ko, bo⟩ := ct.ex
  refine F.ok scSta2 (fun vs H Q E h => ?_) (fun cdv A outer s H vs Q E hr h => ?_)
  · obtain ⟨Nw, a, io, ws, ps, rfl, _⟩ := h
    rfl
  · obtain ⟨Nw, a, io, ws, ps, rfl, ha, pts, l7, gd, q⟩ := h
    refine ⟨_, pss_cons (ps_par (i := 2) (j := 3) rfl scSta2.nd rfl rfl (by decide) rfl rfl (pa_cons (pe_lst (pa_cons pe_str (pa_cons pe_str (pa_cons pe_str (pa_cons pe_str pa_nil))))) (pa_cons (pe_lst pa_nil) pa_nil)) (by rfl))
      (pss_cons (ps_for PassesOwn.never rfl (pi_list (pv 0)) (pg_name (i := 4) scSta2.nd rfl (.inl rfl))
        (pss_one (ps_expr (pe_bm PySem.F.plainAttrs_list PySem.F.slot_list_extend PySem.F.type_list_extend mt_extend (pv 3) (pa_cons (pe_ix ix_tup (pv 4) pe_int (fun _ _ => rfl)) pa_nil)))))
      (pss_cons (ps_for PassesOwn.never rfl (pi_list (pv 2)) (pg_name (i := 5) scSta2.nd rfl (.inl rfl))
        (pss_one (ps_for PassesOwn.never rfl (pi_tup (pe_tup (pa_cons (pe_tup (pa_cons pe_bl (pa_cons pe_bl pa_nil))) (pa_cons (pe_tup (pa_cons pe_bl (pa_cons pe_bl pa_nil))) (pa_cons (pe_tup (pa_cons pe_bl (pa_cons pe_bl pa_nil))) (pa_cons (pe_tup (pa_cons pe_bl (pa_cons pe_bl pa_nil))) pa_nil)))))) (pg_name (i := 6) scSta2.nd rfl (.inl rfl))
          (pss_cons (ps_asg (pe_call GO hr rfl go ko bo .nil pass0 (pa_cons (pv 0) (pa_cons (pv 5) (pa_cons (pe_ix ix_tup (pv 6) pe_int (fun _ _ => rfl)) (pa_cons (pe_ix ix_tup (pv 6) pe_int (fun _ _ => rfl)) pa_nil))))) (pg_tup (by rfl) (pgs_cons (pg_name (i := 7) scSta2.nd rfl (.inl rfl)) (pgs_cons (pg_name (i := 8) scSta2.nd rfl (.inl rfl)) pgs_nil))))
          (Evl.pss_cut (ps_set (i := 9) scSta2.nd rfl (.inl rfl) (pe_ifExp (pt_val (pe_ix ix_tup (pv 6) pe_int (fun _ _ => rfl))) pe_str (pe_ifExp (pt_cmpR op_in_seq (pv 5) (pv 3) (by rfl)) pe_int (pe_ifExp (pt_val (pe_ix ix_tup (pv 6) pe_int (fun _ _ => rfl))) pe_str pe_non))))
          (Evl.pss_cut (ps_set (i := 10) scSta2.nd rfl (.inl rfl) (pe_ifExp (PW.pt (pw_and (pt_val (pv 1)) (pw_and1 (pt_cmpR op_in_seq (pv 5) (pv 3) (by rfl))))) pe_int (pv 9)))
          (pss_one (ps_for PassesOwn.never rfl (pi_list (pv 8)) (pg_name (i := 11) scSta2.nd rfl (.inl rfl))
            (pss_cons (ps_if (pt_cmpR op_ne (pe_and (pe_cmpR op_notN (pv 7) pe_non (nomark _)) (pe_one (pe_cmpR op_eq (pv 11) (pv 7) (nomark _)))) (pe_and (pe_cmpR op_notN (pv 9) pe_non (nomark _)) (pe_one (pe_cmpR op_eq (pv 10) (pv 9) (nomark _)))) (nomark _)) (pss_one (ps_ret pe_bl)) pss_nil)
            (pss_one (ps_for PassesOwn.never rfl (pi_list (pv 8)) (pg_name (i := 12) scSta2.nd rfl (.inl rfl))
              (pss_one (ps_if (pt_cmpR op_ne (pe_and (pe_cmpR op_notN (pv 11) pe_non (nomark _)) (pe_one (pe_cmpR op_eq (pv 11) (pv 12) (nomark _)))) (pe_cmpR op_notN (pv 10) pe_non (nomark _)) (nomark _)) (pss_one (ps_ret pe_bl)) pss_nil)))))))))))))
      (pss_one (ps_ret pe_bl)))), ?_⟩
    refine ⟨by show 4 ≤ sizeLine; decide, fun pn npn => ⟨Nat.zero_le _, fun l nl => ⟨_, _, rfl, ?_⟩⟩⟩
    have k1 := sNew (o := .lst [V.str "m", V.str "n", V.str "open", V.str "end"]) (Same.refl H) npn
    have k2 := sNew (o := .lst []) k1 nl
    have zl := Same.free k1 nl
    have pl : pn ≠ l := ne_of_none upd_same nl
    have en0 : (upd (upd H pn (.lst [V.str "m", V.str "n", V.str "open", V.str "end"])) l (.lst [])) pn = some (.lst (names4.map V.str)) := by rw [upd_ne pl, upd_same]; rfl
    refine ⟨_, rfl, a, rfl, ⟨_, .of (k2 _ _ ha)⟩, ?_⟩
    refine for_list (K := K) (a := a) (xs := ws) (fun i σ H' => Same H H' ∧ H' pn = some (.lst (names4.map V.str)) ∧ H' l = some (.lst ((allTells (ps.take i)).map V.str)) ∧ ∃ u4, σ = [some (.ref a), some (.bl io), some (.ref pn), some (.ref l), u4, none, none, none, none, none, none, none, none]) ⟨k2, en0, upd_same, none, rfl⟩ (fun i σ H' _ z => .of (z.1 _ _ ha)) ?_ ?_
    · rintro i x σ H2 hi ⟨m2, en, el, u4, rfl⟩
      obtain ⟨p, hp, t, A, B, C', D', rfl, _, e0, ea, _⟩ := ((pts.map fun v p h => h.same m2) : Pts Nw _ ws ps).at hi
      have il : i < ps.length := (List.getElem?_eq_some_iff.mp hp).1
      have et : allTells (ps.take (i + 1)) = allTells (ps.take i) ++ p.tells := by
        unfold allTells
        rw [List.take_add_one, hp, List.flatMap_append]
        simp
      refine ⟨_, rfl, .inl ⟨rfl, _, .of el⟩, _, rfl, t, _, _, _, rfl, rfl, .of e0, atI_nat (j := 0) rfl, l, A, _, _, rfl, rfl, el, ea, ?_, sOwn' m2 zl, ?_, ?_, _, rfl⟩
      · have g := (gd p (List.mem_of_getElem? hp)).ok.tells.len
        have lt : ∀ qs : List Pt, (∀ q ∈ qs, q.tells.length ≤ 7) → (allTells qs).length ≤ 7 * qs.length := by
          intro qs
          induction qs with
          | nil => intro _; exact Nat.le_refl _
          | cons q r ih =>
            intro h
            have h1 := h q List.mem_cons_self
            have h2 := ih fun x hx => h x (List.mem_cons_of_mem _ hx)
            have e : (allTells (q :: r)).length = q.tells.length + (allTells r).length := by
              unfold allTells
              rw [List.flatMap_cons, List.length_append]
            rw [e, List.length_cons]
            omega
        have h2 := lt (ps.take i) fun q hq => (gd q (List.mem_of_mem_take hq)).ok.tells.len
        rw [List.length_take] at h2
        rw [List.length_map, List.length_map]
        exact Nat.le_trans (show _ ≤ 56 by omega) (by decide)
      · rw [upd_ne pl]
        exact en
      · rw [upd_same, et, List.map_append]
    · rintro σ H3 ⟨m3, en, el, u4, rfl⟩
      rw [pts.1, List.take_of_length_le (Nat.le_refl _)] at el
      refine ⟨_, rfl, pn, rfl, ⟨_, .of en⟩, ?_⟩
      refine for_list (K := K) (a := pn) (xs := names4.map V.str) (fun i σ H' => Same H3 H' ∧ (names4.take i).all (fun n => sides4.all fun s => okAt ps io n s.1 s.2) = true ∧ ∃ u5 u6 u7 u8 u9 u10 u11 u12, σ = [some (.ref a), some (.bl io), some (.ref pn), some (.ref l), u4, u5, u6, u7, u8, u9, u10, u11, u12]) ⟨Same.refl H3, rfl, _, _, _, _, _, _, _, _, rfl⟩ (fun i σ H' _ z => .of (z.1 _ _ en)) ?_ ?_
      · rintro i x σ H4 hi ⟨m4, al, u5, u6, u7, u8, u9, u10, u11, u12, rfl⟩
        obtain ⟨n, hn, rfl⟩ := map_at hi
        have nin := List.mem_of_getElem? hn
        refine ⟨by show 2 ≤ sizeLine; decide, fun t1 nt1 => ⟨by show 2 ≤ sizeLine; decide, fun t2 nt2 => ⟨by show 2 ≤ sizeLine; decide, fun t3 nt3 => ⟨by show 2 ≤ sizeLine; decide, fun t4 nt4 => ⟨by show 4 ≤ sizeLine; decide, fun tt ntt => ?_⟩⟩⟩⟩⟩
        have j1 := sNew (o := .tup [.bl false, .bl false]) (Same.refl H4) nt1
        have j2 := sNew (o := .tup [.bl false, .bl true]) (Same.refl _) nt2
        have j3 := sNew (o := .tup [.bl true, .bl false]) (Same.refl _) nt3
        have j4 := sNew (o := .tup [.bl true, .bl true]) (Same.refl _) nt4
        have j5 := sNew (o := .tup [.ref t1, .ref t2, .ref t3, .ref t4]) (Same.refl _) ntt
        have e1 := j5 _ _ (j4 _ _ (j3 _ _ (j2 _ _ (upd_same (H := H4) (a := t1) (o := .tup [.bl false, .bl false])))))
        have e2 := j5 _ _ (j4 _ _ (j3 _ _ (upd_same (a := t2) (o := .tup [.bl false, .bl true]))))
        have e3 := j5 _ _ (j4 _ _ (upd_same (a := t3) (o := .tup [.bl true, .bl false])))
        have e4 := j5 _ _ (upd_same (a := t4) (o := .tup [.bl true, .bl true]))
        have jj := (((j1.trans j2).trans j3).trans j4).trans j5
        have ett : (upd (upd (upd (upd (upd H4 t1 (.tup [.bl false, .bl false])) t2 (.tup [.bl false, .bl true])) t3 (.tup [.bl true, .bl false])) t4 (.tup [.bl true, .bl true])) tt (.tup [.ref t1, .ref t2, .ref t3, .ref t4])) tt = some (.tup [.ref t1, .ref t2, .ref t3, .ref t4]) := upd_same
        generalize upd (upd (upd (upd (upd H4 t1 (.tup [.bl false, .bl false])) t2 (.tup [.bl false, .bl true])) t3 (.tup [.bl true, .bl false])) t4 (.tup [.bl true, .bl true])) tt (.tup [.ref t1, .ref t2, .ref t3, .ref t4]) = H5 at e1 e2 e3 e4 jj ett
        have m5 := m4.trans jj
        refine ⟨tt, rfl, ⟨_, .of ett⟩, ?_⟩
        refine for_it (walk_tup (K := K) (a := tt) (xs := [.ref t1, .ref t2, .ref t3, .ref t4])) (fun j σ H' => Same H5 H' ∧ (sides4.take j).all (fun s => okAt ps io n s.1 s.2) = true ∧ ∃ u6 u7 u8 u9 u10 u11 u12, σ = [some (.ref a), some (.bl io), some (.ref pn), some (.ref l), u4, some (.str n), u6, u7, u8, u9, u10, u11, u12]) ⟨Same.refl H5, rfl, _, _, _, _, _, _, _, rfl⟩ (fun j σ H' _ z => .of (z.1 _ _ ett)) ?_ ?_
        · rintro j x σ H6 H6' hj ⟨m6, al2, u6, u7, u8, u9, u10, u11, u12, rfl⟩ ⟨rfl, hx⟩
          obtain ⟨tj, b1, b2, rfl, hs, ej⟩ : ∃ (tj : Addr) (b1 b2 : Bool), x = .ref tj ∧ sides4[j]? = some (b1, b2) ∧ H6' tj = some (.tup [.bl b1, .bl b2]) := by
            match j, hx with
            | 0, hx => cases hx; exact ⟨_, _, _, rfl, rfl, m6 _ _ e1⟩
            | 1, hx => cases hx; exact ⟨_, _, _, rfl, rfl, m6 _ _ e2⟩
            | 2, hx => cases hx; exact ⟨_, _, _, rfl, rfl, m6 _ _ e3⟩
            | 3, hx => cases hx; exact ⟨_, _, _, rfl, rfl, m6 _ _ e4⟩
            | (_ + 4), hx => cases hx
          have sin := List.mem_of_getElem? hs
          have m7 := (m3.trans m5).trans m6
          refine ⟨_, rfl, _, rfl, _, rfl, tj, _, _, _, rfl, rfl, .of ej, atI_nat (j := 0) rfl, _, rfl, tj, _, _, _, rfl, rfl, .of ej, atI_nat (j := 1) rfl, ?_⟩
          refine ⟨Nw, a, n, b1, b2, ws, ps, rfl, m7 _ _ ha, pts.map fun v p h => h.same m7, l7, gd, fun H7 t il m8 _ _ et ei => ?_⟩
          have m9 := m7.trans m8
          have ej7 := m8 _ _ ej
          have el7 : H7 l = some (.lst ((allTells ps).map V.str)) := m8 _ _ (m6 _ _ (m5 _ _ el))
          refine ⟨t, _, rfl, .of et, rfl, _, _, rfl, _, _, rfl, rfl, ?_⟩
          refine ⟨fun σ H' => H' = H7 ∧ ∃ u10 u11 u12, σ = [some (.ref a), some (.bl io), some (.ref pn), some (.ref l), u4, some (.str n), some (.ref tj), some (outerOf ps n b1 b2).v, some (.ref il), some (farOf ps n b1 b2).v, u10, u11, u12], ?_, ?_⟩
          · refine ⟨_, rfl, tj, _, _, _, rfl, rfl, .of ej7, atI_nat (j := 0) rfl, b1, rfl, ?_⟩
            cases b1
            · refine iteF ⟨_, rfl, _, rfl, l, _, rfl, .inl (.of el7), rfl, flat_strs _, _, rfl, ?_⟩
              rw [show (if false = true then !inV (.str n) ((allTells ps).map V.str) else inV (.str n) ((allTells ps).map V.str)) = decide (n ∈ allTells ps) from in_strs n _]
              by_cases c : n ∈ allTells ps
              · rw [decide_eq_true c]
                refine iteT ⟨rfl, u10, u11, u12, ?_⟩
                unfold farOf
                rw [if_neg (by decide), if_pos c]
                rfl
              · rw [decide_eq_false c]
                refine iteF ⟨_, rfl, tj, _, _, _, rfl, rfl, .of ej7, atI_nat (j := 1) rfl, b2, rfl, ?_⟩
                cases b2
                · refine iteF ⟨rfl, u10, u11, u12, ?_⟩
                  unfold farOf
                  rw [if_neg (by decide), if_neg c, if_neg (by decide)]
                  rfl
                · refine iteT ⟨rfl, u10, u11, u12, ?_⟩
                  unfold farOf
                  rw [if_neg (by decide), if_neg c, if_pos rfl]
                  rfl
            · exact iteT ⟨rfl, _, _, _, rfl⟩
          rintro σ H8 ⟨rfl, v10, v11, v12, rfl⟩
          refine ⟨fun σ H' => H' = H8 ∧ ∃ u11 u12, σ = [some (.ref a), some (.bl io), some (.ref pn), some (.ref l), u4, some (.str n), some (.ref tj), some (outerOf ps n b1 b2).v, some (.ref il), some (farOf ps n b1 b2).v, some (nearOf ps io n b1 b2).v, u11, u12], ?_, ?_⟩
          · refine ⟨_, rfl, io, rfl, ?_⟩
            cases io
            · refine iteF (iteF ⟨_, rfl, rfl, v11, v12, ?_⟩)
              unfold nearOf
              rw [if_neg (fun z => by cases z.1)]
              rfl
            · refine iteT ⟨_, rfl, _, rfl, l, _, rfl, .inl (.of el7), rfl, flat_strs _, _, rfl, ?_⟩
              rw [show (if false = true then !inV (.str n) ((allTells ps).map V.str) else inV (.str n) ((allTells ps).map V.str)) = decide (n ∈ allTells ps) from in_strs n _]
              by_cases c : n ∈ allTells ps
              · rw [decide_eq_true c]
                refine iteT ⟨rfl, v11, v12, ?_⟩
                unfold nearOf
                rw [if_pos ⟨rfl, c⟩]
                rfl
              · rw [decide_eq_false c]
                refine iteF ⟨_, rfl, rfl, v11, v12, ?_⟩
                unfold nearOf
                rw [if_neg (fun z => c z.2)]
                rfl
          rintro σ H9 ⟨rfl, v11, v12, rfl⟩
          refine ⟨_, rfl, il, rfl, ⟨_, .of ei⟩, ?_⟩
          refine for_list (K := K) (a := il) (xs := (innerFrom 0 n (outerOf ps n b1 b2) ps).map Th.v) (fun k σ H' => H' = H9 ∧ ((innerFrom 0 n (outerOf ps n b1 b2) ps).take k).all (fun t => test1 (outerOf ps n b1 b2) (farOf ps n b1 b2) (nearOf ps io n b1 b2) t && (innerFrom 0 n (outerOf ps n b1 b2) ps).all fun u => test2 (nearOf ps io n b1 b2) t u) = true ∧
            ∃ u11 u12, σ = [some (.ref a), some (.bl io), some (.ref pn), some (.ref l), u4, some (.str n), some (.ref tj), some (outerOf ps n b1 b2).v, some (.ref il), some (farOf ps n b1 b2).v, some (nearOf ps io n b1 b2).v, u11, u12]) ⟨rfl, rfl, _, _, rfl⟩ (fun k σ H' _ z => .of (by rw [z.1]; exact ei)) ?_ ?_
          · rintro k x σ H10 hk ⟨rfl, al3, w11, w12, rfl⟩
            obtain ⟨t0, ht0, rfl⟩ := map_at hk
            have tin := List.mem_of_getElem? ht0
            refine and_cmp (o := outerOf ps n b1 b2) (t := t0) (u := outerOf ps n b1 b2) rfl rfl rfl ?_
            refine and_cmp (o := farOf ps n b1 b2) (t := nearOf ps io n b1 b2) (u := farOf ps n b1 b2) rfl rfl rfl ?_
            refine ⟨rfl, _, rfl, ?_⟩
            rw [bl_ne]
            have e1' : ((!decide (outerOf ps n b1 b2 = .none) && decide (t0 = outerOf ps n b1 b2)) == (!decide (farOf ps n b1 b2 = .none) && decide (nearOf ps io n b1 b2 = farOf ps n b1 b2))) = test1 (outerOf ps n b1 b2) (farOf ps n b1 b2) (nearOf ps io n b1 b2) t0 := rfl
            rw [e1']
            cases c1 : test1 (outerOf ps n b1 b2) (farOf ps n b1 b2) (nearOf ps io n b1 b2) t0
            · have := stands_no1 (io := io) nin sin tin c1
              rw [this] at q
              exact iteT (q _ m9)
            · refine iteF ⟨_, rfl, il, rfl, ⟨_, .of ei⟩, ?_⟩
              refine for_list (K := K) (a := il) (xs := (innerFrom 0 n (outerOf ps n b1 b2) ps).map Th.v) (fun g σ H' => H' = H10 ∧ ((innerFrom 0 n (outerOf ps n b1 b2) ps).take g).all (fun u => test2 (nearOf ps io n b1 b2) t0 u) = true ∧
                ∃ u12, σ = [some (.ref a), some (.bl io), some (.ref pn), some (.ref l), u4, some (.str n), some (.ref tj), some (outerOf ps n b1 b2).v, some (.ref il), some (farOf ps n b1 b2).v, some (nearOf ps io n b1 b2).v, some t0.v, u12]) ⟨rfl, rfl, _, rfl⟩ (fun g σ H' _ z => .of (by rw [z.1]; exact ei)) ?_ ?_
              · rintro g x σ H11 hg ⟨rfl, al4, y12, rfl⟩
                obtain ⟨u0, hu0, rfl⟩ := map_at hg
                have uin := List.mem_of_getElem? hu0
                refine and_cmp (o := t0) (t := t0) (u := u0) rfl rfl rfl ?_
                refine ⟨_, rfl, rfl, rfl, _, rfl, ?_⟩
                rw [bl_ne, th_non]
                have e2' : ((!decide (t0 = .none) && decide (t0 = u0)) == !decide (nearOf ps io n b1 b2 = .none)) = test2 (nearOf ps io n b1 b2) t0 u0 := rfl
                rw [e2']
                cases c2 : test2 (nearOf ps io n b1 b2) t0 u0
                · have := stands_no2 (io := io) nin sin tin uin c2
                  rw [this] at q
                  exact iteT (q _ m9)
                · exact iteF ⟨rfl, all_step hu0 al4 c2, _, rfl⟩
              · rintro σ H11 ⟨rfl, al4, y12, rfl⟩
                rw [List.length_map, List.take_of_length_le (Nat.le_refl _)] at al4
                exact ⟨rfl, all_step ht0 al3 (by rw [c1, al4]; rfl), _, _, rfl⟩
          · rintro σ H10 ⟨rfl, al3, w11, w12, rfl⟩
            rw [List.length_map, List.take_of_length_le (Nat.le_refl _)] at al3
            exact ⟨m6.trans m8, all_step hs al2 al3, _, _, _, _, _, _, _, rfl⟩
        · rintro σ H6 ⟨m6, al2, u6, u7, u8, u9, u10, u11, u12, rfl⟩
          exact ⟨m5.trans m6, all_step hn al al2, _, _, _, _, _, _, _, _, rfl⟩
      · rintro σ H4 ⟨m4, al, u5, u6, u7, u8, u9, u10, u11, u12, rfl⟩
        rw [List.length_map, List.take_of_length_le (Nat.le_refl _)] at al
        have e : standsFor ps io = true := al
        rw [e] at q
        exact q _ (m3.trans m4)
end
end K30
set_option Elab.async false
set_option linter.all false
set_option maxRecDepth 100000
set_option maxHeartbeats 2000000
namespace K30
open PySem PySem.Spec PyProof.Rows L2
theorem mem_inner {n : Str} {o t : Th} : ∀ (ps : List Pt) (k : Nat), t ∈ innerFrom k n o ps ↔ ∃ i p, ps[i]? = some p ∧ refers p n = true ∧ t = if owns p n = true then .at (k + i) else o
  | [], k => by simp [innerFrom]
  | p :: r, k => by
    unfold innerFrom
    rw [List.mem_append, mem_inner r (k + 1)]
    constructor
    · rintro (h | ⟨i, q, e, h1, h2⟩)
      · by_cases c : refers p n = true
        · rw [if_pos c, List.mem_singleton] at h
          exact ⟨0, p, rfl, c, h⟩
        · rw [if_neg c] at h
          cases h
      · exact ⟨i + 1, q, e, h1, by rw [h2, show k + 1 + i = k + (i + 1) by omega]⟩
    · rintro ⟨i, q, e, h1, h2⟩
      cases i with
      | zero =>
        cases e
        left
        rw [if_pos h1, List.mem_singleton]
        exact h2
      | succ i =>
        right
        exact ⟨i, q, e, h1, by rw [h2, show k + 1 + i = k + (i + 1) by omega]⟩
theorem mem_refs {r : Nat × Str} : ∀ (ps : List Pt) (k : Nat), r ∈ refsFrom k ps ↔ ∃ i p, ps[i]? = some p ∧ r.2 ∈ refs1 p ∧ r.1 = k + i
  | [], k => by simp [refsFrom]
  | p :: q, k => by
    unfold refsFrom
    rw [List.mem_append, mem_refs q (k + 1), List.mem_map]
    constructor
    · rintro (⟨n, hn, rfl⟩ | ⟨i, p', e, h1, h2⟩)
      · exact ⟨0, p, rfl, hn, rfl⟩
      · exact ⟨i + 1, p', e, h1, by omega⟩
    · rintro ⟨i, p', e, h1, h2⟩
      cases i with
      | zero =>
        cases e
        left
        exact ⟨r.2, h1, by rw [← show r.1 = k from h2]⟩
      | succ i =>
        right
        exact ⟨i, p', e, h1, by omega⟩
theorem refs1_mem {p : Pt} (g : Good p) (n : Str) : n ∈ refs1 p ↔ refers p n = true := by
  unfold refs1 refers
  rw [decide_eq_true_eq, canon_mem, List.mem_append, List.mem_append, canon_mem g.ok.wants.ok, canon_mem g.ok.asks.ok]
  intro x hx
  rcases List.mem_append.mp hx with h | h
  · exact (canon_ws g.ok.wants.ok).ok x h
  · exact (canon_ws g.ok.asks.ok).ok x h
theorem refers_four {p : Pt} (g : Good p) {n : Str} (h : refers p n = true) : n ∈ names4 := by
  unfold refers at h
  rw [decide_eq_true_eq, List.mem_append] at h
  exact h.elim (g.wants n) (g.asks n)
theorem told_all {ps : List Pt} (g : ∀ p ∈ ps, Good p) (n : Str) : told ps n = true ↔ n ∈ allTells ps := by
  rw [← any_told g]
  unfold allTells
  rw [List.any_eq_true, List.mem_flatMap]
  constructor
  · rintro ⟨p, hp, h⟩
    exact ⟨p, hp, of_decide_eq_true h⟩
  · rintro ⟨p, hp, h⟩
    exact ⟨p, hp, decide_eq_true h⟩
theorem first_some {ps : List Pt} {n : Str} {f : Nat} (h : firstTell ps n = some f) : (∃ p, ps[f]? = some p ∧ n ∈ p.tells) ∧ ∀ j p, j < f → ps[j]? = some p → n ∉ p.tells := by
  unfold firstTell at h
  rw [List.findIdx?_eq_some_iff_getElem] at h
  obtain ⟨hl, h1, h2⟩ := h
  refine ⟨⟨ps[f], List.getElem?_eq_getElem hl, of_decide_eq_true h1⟩, fun j p hj e => ?_⟩
  have := h2 j hj
  rw [List.getElem?_eq_getElem (Nat.lt_trans hj hl)] at e
  cases e
  simpa using this
theorem first_none {ps : List Pt} {n : Str} (h : firstTell ps n = none) : n ∉ allTells ps := by
  unfold firstTell at h
  rw [List.findIdx?_eq_none_iff] at h
  unfold allTells
  rw [List.mem_flatMap]
  rintro ⟨p, hp, hn⟩
  have := h p hp
  rw [decide_eq_true hn] at this
  cases this
theorem all_of {ps : List Pt} {n : Str} {i : Nat} {p : Pt} (e : ps[i]? = some p) (h : n ∈ p.tells) : n ∈ allTells ps := by
  unfold allTells
  rw [List.mem_flatMap]
  exact ⟨p, List.mem_of_getElem? e, h⟩
theorem owns_tells {p : Pt} {n : Str} (h : owns p n = true) : n ∈ p.tells := of_decide_eq_true (Bool.and_eq_true_iff.mp h).2
theorem own_ref {ps : List Pt} (g : ∀ p ∈ ps, Good p) {i : Nat} {p : Pt} {n : Str} (e : ps[i]? = some p) : ownAt ps (i, n) = owns p n := by
  rw [owns_bi (g p (List.mem_of_getElem? e))]
  unfold ownAt
  rw [pAt_of e]
theorem ref_in {ps : List Pt} (g : ∀ p ∈ ps, Good p) {i : Nat} {p : Pt} {n : Str} (e : ps[i]? = some p) (h : refers p n = true) : (i, n) ∈ refsFrom 0 ps := (mem_refs ps 0).mpr ⟨i, p, e, (refs1_mem (g p (List.mem_of_getElem? e)) n).mpr h, by omega⟩
theorem ref_out {ps : List Pt} (g : ∀ p ∈ ps, Good p) {r : Nat × Str} (h : r ∈ refsFrom 0 ps) : ∃ p, ps[r.1]? = some p ∧ refers p r.2 = true := by
  obtain ⟨i, p, e, h1, h2⟩ := (mem_refs ps 0).mp h
  have : r.1 = i := by omega
  rw [this]
  exact ⟨p, e, (refs1_mem (g p (List.mem_of_getElem? e)) r.2).mp h1⟩
theorem own_merged {ps : List Pt} : (mergedOf ps).own = true ↔ ∃ r ∈ refsFrom 0 ps, ownAt ps r = true := by
  show (refsFrom 0 ps).any (ownAt ps) = true ↔ _
  rw [List.any_eq_true]
theorem stands_bar {ps : List Pt} (g : ∀ p ∈ ps, Good p) (h : barOf ps ≠ .none) (io : Bool) : standsFor ps io = false := by
  rw [← due_bar] at h
  unfold dueOf at h
  cases e : (ownL ps).find? (fun r => told (ps.take r.1) r.2) with
  | some r =>
    have h1 := List.find?_some e
    have hm := List.mem_of_find?_eq_some e
    obtain ⟨hr, ho⟩ := List.mem_filter.mp hm
    obtain ⟨p, ep, rf⟩ := ref_out g hr
    have ow : owns p r.2 = true := by rw [← own_ref g ep]; exact ho
    have gt : ∀ q ∈ ps.take r.1, Good q := fun q hq => g q (List.mem_of_mem_take hq)
    have hT := (told_all gt r.2).mp h1
    obtain ⟨q, hq, hn⟩ := List.mem_flatMap.mp hT
    obtain ⟨j, hj⟩ := List.getElem?_of_mem hq
    rw [List.getElem?_take] at hj
    have jr : j < r.1 := by
      by_cases c : j < r.1
      · exact c
      · rw [if_neg c] at hj
        cases hj
    rw [if_pos jr] at hj
    have nT : r.2 ∈ allTells ps := all_of hj hn
    cases ef : firstTell ps r.2 with
    | none => exact absurd nT (first_none ef)
    | some f =>
      have fj : f ≤ j := by
        rcases Nat.lt_or_ge j f with c | c
        · exact absurd hn ((first_some ef).2 j q c hj)
        · exact c
      have eo : outerOf ps r.2 false false = .at f := by
        unfold outerOf midTh
        rw [ef]
        rfl
      refine stands_no1 (n := r.2) (s := (false, false)) (t := .at r.1) (refers_four (g p (List.mem_of_getElem? ep)) rf) (by decide) ((mem_inner ps 0).mpr ⟨r.1, p, ep, rf, by rw [if_pos ow, Nat.zero_add]⟩) ?_
      have efar : farOf ps r.2 false false = .at 0 := by
        unfold farOf
        rw [if_neg (by decide), if_pos nT]
      have enear : nearOf ps io r.2 false false = .at 0 := by
        unfold nearOf
        split
        · rfl
        · exact efar
      show test1 (outerOf ps r.2 false false) (farOf ps r.2 false false) (nearOf ps io r.2 false false) (.at r.1) = false
      rw [eo, efar, enear]
      have ne : decide ((Th.at r.1) = .at f) = false := decide_eq_false fun z => by
        injection z with z
        omega
      unfold test1
      rw [ne]
      rfl
  | none =>
    rw [e] at h
    cases eO : ownL ps with
    | nil =>
      rw [eO] at h
      exact absurd rfl h
    | cons r l =>
      cases eF : freeL ps with
      | nil =>
        rw [eO, eF] at h
        exact absurd rfl h
      | cons s l2 =>
        obtain ⟨hr, ho⟩ := List.mem_filter.mp (show r ∈ ownL ps by rw [eO]; exact List.mem_cons_self)
        obtain ⟨hs, hf⟩ := List.mem_filter.mp (show s ∈ freeL ps by rw [eF]; exact List.mem_cons_self)
        obtain ⟨p, ep, rf⟩ := ref_out g hr
        obtain ⟨q, eq', sf⟩ := ref_out g hs
        have ow : owns p r.2 = true := by rw [← own_ref g ep]; exact ho
        obtain ⟨hf1, hf2⟩ := Bool.and_eq_true_iff.mp hf
        have fw : ¬ owns q s.2 = true := fun z => by
          rw [← own_ref g eq'] at z
          rw [show ownAt ps s = true from z] at hf1
          cases hf1
        cases io with
        | false =>
          refine stands_no1 (n := r.2) (s := (true, false)) (t := .at r.1) (refers_four (g p (List.mem_of_getElem? ep)) rf) (by decide) ((mem_inner ps 0).mpr ⟨r.1, p, ep, rf, by rw [if_pos ow, Nat.zero_add]⟩) ?_
          show test1 (outerOf ps r.2 true false) (farOf ps r.2 true false) (nearOf ps false r.2 true false) (.at r.1) = false
          have en : nearOf ps false r.2 true false = .ahead := by
            unfold nearOf
            rw [if_neg (fun z => by cases z.1)]
            rfl
          rw [en]
          rfl
        | true =>
          have nT := (told_all g s.2).mp hf2
          refine stands_no1 (n := s.2) (s := (true, false)) (t := .ahead) (refers_four (g q (List.mem_of_getElem? eq')) sf) (by decide) ((mem_inner ps 0).mpr ⟨s.1, q, eq', sf, by rw [if_neg fw]; rfl⟩) ?_
          show test1 (outerOf ps s.2 true false) (farOf ps s.2 true false) (nearOf ps true s.2 true false) .ahead = false
          have en : nearOf ps true s.2 true false = .at 0 := by
            unfold nearOf
            rw [if_pos ⟨rfl, nT⟩]
          rw [en]
          rfl
end K30
set_option Elab.async false
set_option linter.all false
set_option maxRecDepth 100000
set_option maxHeartbeats 2000000
namespace K30
open PySem PySem.Spec PyProof.Rows L2
/-- no bar: own references are of the first who tells, and own and free ones are not both there -/
theorem no_bar {ps : List Pt} (h : barOf ps = .none) : (∀ r ∈ ownL ps, told (ps.take r.1) r.2 = false) ∧ (ownL ps = [] ∨ freeL ps = []) := by
  rw [← due_bar] at h
  unfold dueOf at h
  cases e : (ownL ps).find? (fun r => told (ps.take r.1) r.2) with
  | some r =>
    rw [e] at h
    cases h
  | none =>
    rw [e] at h
    refine ⟨fun r hr => ?_, ?_⟩
    · have := List.find?_eq_none.mp e r hr
      cases c : told (ps.take r.1) r.2
      · rfl
      · exact absurd c this
    · cases eO : ownL ps with
      | nil => exact .inl rfl
      | cons r l =>
        cases eF : freeL ps with
        | nil => exact .inr rfl
        | cons s l2 =>
          rw [eO, eF] at h
          cases h
theorem stands_ok {ps : List Pt} (g : ∀ p ∈ ps, Good p) (h : barOf ps = .none) : standsFor ps (mergedOf ps).own = true := by
  obtain ⟨h1, h2⟩ := no_bar h
  refine List.all_eq_true.mpr fun n hn => List.all_eq_true.mpr fun s hs => ?_
  obtain ⟨ah, be⟩ := s
  show okAt ps (mergedOf ps).own n ah be = true
  -- what an own one is
  have first : ∀ i p, ps[i]? = some p → refers p n = true → owns p n = true → firstTell ps n = some i := by
    intro i p e rf ow
    have mO : (i, n) ∈ ownL ps := List.mem_filter.mpr ⟨ref_in g e rf, by rw [own_ref g e]; exact ow⟩
    have ht := h1 _ mO
    have il : i < ps.length := (List.getElem?_eq_some_iff.mp e).1
    cases ef : firstTell ps n with
    | none => exact absurd (all_of e (owns_tells ow)) (first_none ef)
    | some f =>
      obtain ⟨⟨q, eq', hq⟩, hb⟩ := first_some ef
      rcases Nat.lt_trichotomy f i with c | c | c
      · have : told (ps.take i) n = true := (told_all (fun x hx => g x (List.mem_of_mem_take hx)) n).mpr (all_of (i := f) (by rw [List.getElem?_take, if_pos c]; exact eq') hq)
        rw [show told (ps.take i) n = false from ht] at this
        cases this
      · rw [c]
      · exact absurd (owns_tells ow) (hb i p c e)
  -- all inner ones are one thing
  have key : ∀ t ∈ innerFrom 0 n (outerOf ps n ah be) ps, test1 (outerOf ps n ah be) (farOf ps n ah be) (nearOf ps (mergedOf ps).own n ah be) t = true ∧ ∀ u ∈ innerFrom 0 n (outerOf ps n ah be) ps, test2 (nearOf ps (mergedOf ps).own n ah be) t u = true := by
    by_cases nT : n ∈ allTells ps
    · cases ah with
      | false =>
        obtain ⟨f, ef⟩ : ∃ f, firstTell ps n = some f := by
          cases ef : firstTell ps n with
          | none => exact absurd nT (first_none ef)
          | some f => exact ⟨f, rfl⟩
        have eo : outerOf ps n false be = .at f := by
          unfold outerOf midTh
          rw [ef]
          rfl
        have efar : farOf ps n false be = .at 0 := by
          unfold farOf
          rw [if_neg (by decide), if_pos nT]
        have enear : nearOf ps (mergedOf ps).own n false be = .at 0 := by
          unfold nearOf
          split
          · rfl
          · exact efar
        have one : ∀ t ∈ innerFrom 0 n (outerOf ps n false be) ps, t = .at f := by
          intro t ht
          obtain ⟨i, p, e, rf, et⟩ := (mem_inner ps 0).mp ht
          by_cases c : owns p n = true
          · rw [if_pos c, Nat.zero_add] at et
            have := first i p e rf c
            rw [ef] at this
            cases this
            exact et
          · rw [if_neg c, eo] at et
            exact et
        intro t ht
        have e1 := one t ht
        subst e1
        rw [eo, efar, enear]
        refine ⟨by unfold test1; simp, fun u hu => ?_⟩
        have e2 := one u (by rw [eo]; exact hu)
        subst e2
        unfold test2
        simp
      | true =>
        have eo : outerOf ps n true be = .ahead := by
          unfold outerOf midTh
          simp
        have efar : farOf ps n true be = .ahead := rfl
        rcases h2 with h2 | h2
        · -- nothing is own
          have noOwn : (mergedOf ps).own = false := by
            cases c : (mergedOf ps).own
            · rfl
            · obtain ⟨r, hr, ho⟩ := own_merged.mp c
              have : r ∈ ownL ps := List.mem_filter.mpr ⟨hr, ho⟩
              rw [h2] at this
              cases this
          have enear : nearOf ps (mergedOf ps).own n true be = .ahead := by
            unfold nearOf
            rw [noOwn, if_neg (fun z => by cases z.1)]
            rfl
          have one : ∀ t ∈ innerFrom 0 n (outerOf ps n true be) ps, t = .ahead := by
            intro t ht
            obtain ⟨i, p, e, rf, et⟩ := (mem_inner ps 0).mp ht
            by_cases c : owns p n = true
            · have : (i, n) ∈ ownL ps := List.mem_filter.mpr ⟨ref_in g e rf, by rw [own_ref g e]; exact c⟩
              rw [h2] at this
              cases this
            · rw [if_neg c, eo] at et
              exact et
          intro t ht
          have e1 := one t ht
          subst e1
          rw [eo, efar, enear]
          refine ⟨by unfold test1; simp, fun u hu => ?_⟩
          have e2 := one u (by rw [eo]; exact hu)
          subst e2
          unfold test2
          simp
        · -- nothing told is free
          have allOwn : ∀ t ∈ innerFrom 0 n (outerOf ps n true be) ps, ∃ i, firstTell ps n = some i ∧ t = .at i ∧ (mergedOf ps).own = true := by
            intro t ht
            obtain ⟨i, p, e, rf, et⟩ := (mem_inner ps 0).mp ht
            by_cases c : owns p n = true
            · rw [if_pos c, Nat.zero_add] at et
              exact ⟨i, first i p e rf c, et, own_merged.mpr ⟨(i, n), ref_in g e rf, by rw [own_ref g e]; exact c⟩⟩
            · have : (i, n) ∈ freeL ps := List.mem_filter.mpr ⟨ref_in g e rf, by
                rw [own_ref g e, (told_all g n).mpr nT]
                cases c2 : owns p n
                · rfl
                · exact absurd c2 c⟩
              rw [h2] at this
              cases this
          intro t ht
          obtain ⟨i, ei, et, ow⟩ := allOwn t ht
          have enear : nearOf ps (mergedOf ps).own n true be = .at 0 := by
            unfold nearOf
            rw [if_pos ⟨ow, nT⟩]
          subst et
          rw [eo, efar, enear]
          refine ⟨by unfold test1; simp, fun u hu => ?_⟩
          obtain ⟨j, ej, eu, _⟩ := allOwn u (by rw [eo]; exact hu)
          rw [ei] at ej
          cases ej
          subst eu
          unfold test2
          simp
    · have ef : firstTell ps n = none := by
        cases ef : firstTell ps n with
        | none => rfl
        | some f =>
          obtain ⟨⟨q, eq', hq⟩, _⟩ := first_some ef
          exact absurd (all_of eq' hq) nT
      have eof : outerOf ps n ah be = farOf ps n ah be := by
        unfold outerOf farOf midTh
        rw [ef]
        cases ah <;> cases be <;> simp [nT]
      have enear : nearOf ps (mergedOf ps).own n ah be = farOf ps n ah be := by
        unfold nearOf
        rw [if_neg (fun z => nT z.2)]
      have one : ∀ t ∈ innerFrom 0 n (outerOf ps n ah be) ps, t = farOf ps n ah be := by
        intro t ht
        obtain ⟨i, p, e, rf, et⟩ := (mem_inner ps 0).mp ht
        by_cases c : owns p n = true
        · exact absurd (all_of e (owns_tells c)) nT
        · rw [if_neg c, eof] at et
          exact et
      intro t ht
      have e1 := one t ht
      subst e1
      rw [enear]
      refine ⟨by rw [eof]; unfold test1; simp, fun u hu => ?_⟩
      have e2 := one u hu
      rw [e2]
      unfold test2
      simp
  unfold okAt
  refine List.all_eq_true.mpr fun t ht => ?_
  obtain ⟨k1, k2⟩ := key t ht
  rw [k1]
  exact List.all_eq_true.mpr k2
end K30
set_option Elab.async false
set_option linter.all false
set_option maxRecDepth 100000
set_option maxHeartbeats 4000000
namespace K30
open PySem PySem.Spec PyProof.Rows L2
theorem Kd.isDict {H : Hp} {v : V} {s : String} (k : Kd H v s) : kitB s "dict" = some (s == "dict") := k.is.2.2.1
theorem Kd.isList {H : Hp} {v : V} {s : String} (k : Kd H v s) : kitB s "list" = some (s == "list") := k.is.1
theorem Kd.isTup {H : Hp} {v : V} {s : String} (k : Kd H v s) : kitB s "tuple" = some (s == "tuple") := k.is.2.1
theorem Kd.isBool {H : Hp} {v : V} {s : String} (k : Kd H v s) : kitB s "bool" = some (s == "bool") := k.is.2.2.2.2.1
theorem Kd.isInt {H : Hp} {v : V} {s : String} (k : Kd H v s) : kitB s "int" = some (s == "int" || s == "bool") := k.is.2.2.2.2.2
theorem kit4 {K : PySem.W.Frag} {H : Hp} {v : V} {s : String} (k : Kd H v s) (h : s = "NoneType" ∨ s = "str") : PySem.W.kitAny K (.type s) [.type "int", .type "list", .type "tuple", .type "dict"] = some false := by
  refine kitAny_cons (kit_ty k.isInt) (fun _ => kitAny_cons (kit_ty k.isList) (fun _ => kitAny_cons (kit_ty k.isTup) (fun _ => kitAny_cons (kit_ty k.isDict) (fun _ => rfl) ?_) ?_) ?_) ?_ <;> rcases h with rfl | rfl <;> decide
def leafV : V → Bool
  | .non => true | .bl _ => true | .int _ => true | .str _ => true | _ => false
/-- equal data of a depth -/
def Eq2 (H : Hp) : Nat → V → V → Prop
  | 0, x, y => x = y ∧ leafV x = true
  | n + 1, x, y => (x = y ∧ leafV x = true) ∨ ∃ a b xs ys, x = .ref a ∧ y = .ref b ∧ ((H a = some (.lst xs) ∧ H b = some (.lst ys)) ∨ (H a = some (.tup xs) ∧ H b = some (.tup ys))) ∧ xs.length = ys.length ∧ xs.length ≤ 1000 ∧
      ∀ (i : Nat) (v w : V), xs[i]? = some v → ys[i]? = some w → Eq2 H n v w
theorem Eq2.same {H H' : Hp} (m : Same H H') : ∀ (n : Nat) (x y : V), Eq2 H n x y → Eq2 H' n x y
  | 0, _, _, h => h
  | n + 1, x, y, h => by
    rcases h with h | ⟨a, b, xs, ys, e1, e2, h, l1, l2, q⟩
    · exact .inl h
    · refine .inr ⟨a, b, xs, ys, e1, e2, ?_, l1, l2, fun i v w h1 h2 => Eq2.same m n v w (q i v w h1 h2)⟩
      rcases h with ⟨h1, h2⟩ | ⟨h1, h2⟩
      · exact .inl ⟨m _ _ h1, m _ _ h2⟩
      · exact .inr ⟨m _ _ h1, m _ _ h2⟩
def spSam (n : Nat) : Sp := fun vs H Q _ => ∃ x y : V, vs = [x, y] ∧ Eq2 H n x y ∧ ∀ H', Same H H' → Q (.bl true) H'
def spSamD (n : Nat) : Sp := fun vs H Q _ => ∃ (a b : Addr) (xs ys : List V), vs = [.ref a, .ref b] ∧ ((H a = some (.lst xs) ∧ H b = some (.lst ys)) ∨ (H a = some (.tup xs) ∧ H b = some (.tup ys))) ∧ xs.length = ys.length ∧ xs.length ≤ 1000 ∧
      (∀ (i : Nat) (v w : V), xs[i]? = some v → ys[i]? = some w → Eq2 H n v w) ∧ ∀ H', Same H H' → Q (.bl true) H'
theorem FnOk.or {P : Program} {w : World} {K : PySem.W.Frag} {mg : Str → Option Value} {base : Heap} {CX : CXT} {k : Nat} {f : Addr} {fd : FuncData} {ps : List Str} {sp1 sp2 sp : Sp} (F : FnOk P w K mg base CX k f fd ps sp1) (G : FnOk P w K mg base CX k f fd ps sp2)
    (h : ∀ vs H Q E, sp vs H Q E → sp1 vs H Q E ∨ sp2 vs H Q E) : FnOk P w K mg base CX k f fd ps sp :=
  ⟨fun vs H Q E q => (h _ _ _ _ q).elim (F.len _ _ _ _) (G.len _ _ _ _), fun A outer s H args us vs Q E hr he hb hv q => (h _ _ _ _ q).elim (F.run A outer s H args us vs Q E hr he hb hv) (G.run A outer s H args us vs Q E hr he hb hv)⟩
theorem walk_zipT {K : PySem.W.Frag} {a b : Addr} {xs ys : List V} {n : Nat} (hn : n = min xs.length ys.length) : Walk (RZ.ItzT K a b) n (fun H => SqT K H a xs ∧ SqT K H b ys) (YPair (fun i => xs[i]?) (fun i => ys[i]?)) := by
  subst hn
  refine ⟨fun i _ hi q => ?_, fun _ q => ⟨xs, ys, q.1, q.2, by omega⟩, fun i H v H' _ q y => ?_⟩
  · have l1 : i < xs.length := by omega
    have l2 : i < ys.length := by omega
    exact ⟨xs, ys, xs[i], ys[i], q.1, q.2, List.getElem?_eq_getElem l1, List.getElem?_eq_getElem l2⟩
  · obtain ⟨T, x, z, e1, e2, e3, e4, e5⟩ := y
    exact ⟨T, x, z, e1, e2, e3, e4 xs q.1, e5 ys q.2⟩
section
variable {P : Program} {w : World} {K : PySem.W.Frag} {mg : Str → Option Value} {base : Heap} {C : Addr}
theorem scSam : FnScope ["found", "due", "x", "y"] ["found", "due"] (defScope sSam) := ⟨rfl, rfl, rfl, by decide +kernel, rfl, by decide +kernel, by decide +kernel⟩
theorem ok_sam0 {f : Addr} {fd : FuncData} (F : Fun K "_law_same" "_law_same" sSam f fd) (T : Txt K mg C) : FnOk P w K mg base CX0 1 f fd ["found", "due"] (spSam 0) := by
  refine F.ok scSam (fun vs H Q E h => ?_) (fun cdv A outer s H vs Q E hr h => ?_)
  · obtain ⟨x, y, rfl, _⟩ := h
    rfl
  · obtain ⟨x, y, rfl, ⟨rfl, lf⟩, q⟩ := h
    refine ⟨_, pss_cons (ps_if (pt_val (pe_callB call_isiT (by rfl) T.isi boot_isi (pa_cons (pv 1) (pa_cons (pe_tup (pa_cons (pe_bltn (v := .ty "list") (by rfl) T.list boot_list' rfl) (pa_cons (pe_bltn (v := .ty "tuple") (by rfl) T.tup boot_tuple' rfl) pa_nil))) pa_nil)))) pss_never pss_nil)
      (pss_cons (ps_if (pt_val (pe_callB call_isi (by rfl) T.isi boot_isi (pa_cons (pv 1) (pa_cons (pe_bltn (v := .ty "dict") (by rfl) T.dct boot_dict' rfl) pa_nil)))) pss_never pss_nil)
      (pss_cons (ps_if (pt_val (pe_callB call_isi (by rfl) T.isi boot_isi (pa_cons (pv 1) (pa_cons (pe_bltn (v := .ty "int") (by rfl) T.int boot_int' rfl) pa_nil))))
          (pss_one (ps_ret (pe_and (pe_callB call_isi (by rfl) T.isi boot_isi (pa_cons (pv 0) (pa_cons (pe_bltn (v := .ty "int") (by rfl) T.int boot_int' rfl) pa_nil)))
            (pe_and (pe_cmpR op_eq (pe_callB call_isi (by rfl) T.isi boot_isi (pa_cons (pv 0) (pa_cons (pe_bltn (v := .ty "bool") (by rfl) T.bool boot_bool' rfl) pa_nil))) (pe_callB call_isi (by rfl) T.isi boot_isi (pa_cons (pv 1) (pa_cons (pe_bltn (v := .ty "bool") (by rfl) T.bool boot_bool' rfl) pa_nil))) (nomark _))
              (pe_one (pe_cmpR op_eq (pv 0) (pv 1) (nomark _))))))) pss_nil)
        (pss_one (ps_ret (pe_and (pe_cmpR op_is_bl (pe_callB call_isiT (by rfl) T.isi boot_isi (pa_cons (pv 0) (pa_cons (pe_tup (pa_cons (pe_bltn (v := .ty "int") (by rfl) T.int boot_int' rfl) (pa_cons (pe_bltn (v := .ty "list") (by rfl) T.list boot_list' rfl) (pa_cons (pe_bltn (v := .ty "tuple") (by rfl) T.tup boot_tuple' rfl) (pa_cons (pe_bltn (v := .ty "dict") (by rfl) T.dct boot_dict' rfl) pa_nil))))) pa_nil))) pe_bl (nomark _))
          (pe_one (pe_cmpR op_eq (pv 0) (pv 1) (nomark _)))))))), ?_⟩
    refine ⟨_, rfl, (by show 2 ≤ sizeLine; decide), fun p hp => ?_⟩
    have m : Same H (upd H p (.tup [.ty "list", .ty "tuple"])) := sNew (Same.refl H) hp
    have ep : (upd H p (.tup [.ty "list", .ty "tuple"])) p = some (.tup [.ty "list", .ty "tuple"]) := upd_same
    generalize upd H p (.tup [.ty "list", .ty "tuple"]) = H1 at m ep
    obtain ⟨s, kx, hs⟩ : ∃ s, Kd H1 x s ∧ (s = "NoneType" ∨ s = "str" ∨ s = "int" ∨ s = "bool") := by
      cases x with
      | non => exact ⟨_, .non, .inl rfl⟩
      | bl b => exact ⟨_, .bl b, .inr (.inr (.inr rfl))⟩
      | int b => exact ⟨_, .int b, .inr (.inr (.inl rfl))⟩
      | str b => exact ⟨_, .str b, .inr (.inl rfl)⟩
      | _ => cases lf
    have sc : scal x x = true := by
      cases x with
      | non => rfl
      | bl b => rfl
      | int b => rfl
      | str b => rfl
      | _ => cases lf
    have z1 : (s == "list" || s == "tuple") = false := by rcases hs with rfl | rfl | rfl | rfl <;> decide
    have z2 : (s == "dict") = false := by rcases hs with rfl | rfl | rfl | rfl <;> decide
    have a1 := kx.any (K := K)
    have a2 := kx.isDict
    rw [z1] at a1
    rw [z2] at a2
    refine ⟨_, p, _, _, _, _, rfl, ep, .cons (.ty _) (.cons (.ty _) .nil), kx.ty, a1, _, rfl, iteF ?_⟩
    refine ⟨_, rfl, _, _, _, _, _, rfl, .ty _, kx.ty, kit_ty a2, _, rfl, iteF ?_⟩
    refine ⟨_, rfl, _, _, _, _, _, rfl, .ty _, kx.ty, kit_ty kx.isInt, _, rfl, ite2 (fun c => ?_) (fun c => ?_)⟩
    · have a3 := kx.isInt
      rw [c] at a3
      refine ⟨_, rfl, _, _, _, _, _, rfl, .ty _, kx.ty, kit_ty a3, _, rfl, iteT ?_⟩
      refine ⟨_, rfl, _, _, _, _, _, rfl, .ty _, kx.ty, kit_ty kx.isBool, _, rfl, _, _, _, _, _, rfl, .ty _, kx.ty, kit_ty kx.isBool, rfl, _, rfl, ?_⟩
      rw [decide_eq_true (show V.bl (s == "bool") = V.bl (s == "bool") from rfl)]
      refine iteT ⟨_, rfl, _, rfl, sc, ?_⟩
      rw [decide_eq_true (show x = x from rfl)]
      exact q _ m
    · have hs2 : s = "NoneType" ∨ s = "str" := by
        rcases hs with rfl | rfl | rfl | rfl
        · exact .inl rfl
        · exact .inr rfl
        · exact absurd c (by decide)
        · exact absurd c (by decide)
      refine ⟨_, rfl, (by show 4 ≤ sizeLine; decide), fun p2 hp2 => ?_⟩
      have m2 : Same H (upd H1 p2 (.tup [.ty "int", .ty "list", .ty "tuple", .ty "dict"])) := m.trans (sNew (Same.refl H1) hp2)
      have kx2 := kx.same (sNew (o := .tup [.ty "int", .ty "list", .ty "tuple", .ty "dict"]) (Same.refl H1) hp2)
      refine ⟨_, p2, _, _, _, _, rfl, upd_same, .cons (.ty _) (.cons (.ty _) (.cons (.ty _) (.cons (.ty _) .nil))), kx2.ty, kit4 kx2 hs2, _, _, rfl, rfl, _, rfl, iteT ⟨_, rfl, _, rfl, sc, ?_⟩⟩
      rw [decide_eq_true (show x = x from rfl)]
      exact q _ m2
theorem ok_samD (n k : Nat) {f : Addr} {fd : FuncData} (F : Fun K "_law_same" "_law_same" sSam f fd) (T : Txt K mg C) (ci : Cal P w K mg base k "_law_same" ["found", "due"] (spSam n)) : FnOk P w K mg base CX0 (k + 1) f fd ["found", "due"] (spSamD n) := by
  obtain ⟨fi, fdi, GI, gi, ki, bi⟩ := ci.ex
  refine F.ok scSam (fun vs H Q E h => ?_) (fun cdv A outer s H vs Q E hr h => ?_)
  · obtain ⟨a, b, xs, ys, rfl, _⟩ := h
    rfl
  · obtain ⟨a, b, xs, ys, rfl, hab, l1, l2, ev, q⟩ := h
    refine ⟨_, pss_cons (ps_if (pt_val (pe_callB call_isiT (by rfl) T.isi boot_isi (pa_cons (pv 1) (pa_cons (pe_tup (pa_cons (pe_bltn (v := .ty "list") (by rfl) T.list boot_list' rfl) (pa_cons (pe_bltn (v := .ty "tuple") (by rfl) T.tup boot_tuple' rfl) pa_nil))) pa_nil))))
        (pss_cons (ps_if (PW.pt (pw_or (pt_cmpR op_ne (pe_callB call_isi (by rfl) T.isi boot_isi (pa_cons (pv 0) (pa_cons (pe_bltn (v := .ty "list") (by rfl) T.list boot_list' rfl) pa_nil))) (pe_callB call_isi (by rfl) T.isi boot_isi (pa_cons (pv 1) (pa_cons (pe_bltn (v := .ty "list") (by rfl) T.list boot_list' rfl) pa_nil))) (nomark _))
            (pw_or1 (pt_cmpR op_ne (pe_callB call_isi (by rfl) T.isi boot_isi (pa_cons (pv 0) (pa_cons (pe_bltn (v := .ty "tuple") (by rfl) T.tup boot_tuple' rfl) pa_nil))) (pe_callB call_isi (by rfl) T.isi boot_isi (pa_cons (pv 1) (pa_cons (pe_bltn (v := .ty "tuple") (by rfl) T.tup boot_tuple' rfl) pa_nil))) (nomark _))))) pss_never pss_nil)
          (pss_one (ps_ret (pe_and (pe_cmpR op_eq (pe_callB call_lenA (by rfl) T.len PySem.boot_len (pa_cons (pv 0) pa_nil)) (pe_callB call_lenA (by rfl) T.len PySem.boot_len (pa_cons (pv 1) pa_nil)) (nomark _))
            (pe_one (pe_callB (cr_all rfl) (by rfl) T.all boot_all' (pa_cons (pe_lc (own := [("x", 2), ("y", 3)]) (g := gTup K 2 (gCons (gName 2) (gCons (gName 3) gNil))) (tt := tYes) rfl scSam.nd
              (RZ.pi_zipA (by rfl) T.zip (pa_cons (pv 0) (pa_cons (pv 1) pa_nil))) (blkOk_by (N := ["found", "due", "x", "y"]) (sc := defScope sSam) (by decide +kernel))
              (fun _ _ _ _ _ => by exact pg_tup rfl (pgs_cons (pg_name (i := 2) scSam.nd rfl (.inl rfl)) (pgs_cons (pg_name (i := 3) scSam.nd rfl (.inl rfl)) pgs_nil))) (fun _ _ _ _ _ => pts_nil)
              (fun _ _ _ _ _ => pe_call GI hr rfl gi ki bi .nil pass0 (pa_cons (pv 2) (pa_cons (pv 3) pa_nil)))) pa_nil))))))) pss_nil)
      pss_never, ?_⟩
    refine ⟨_, rfl, (by show 2 ≤ sizeLine; decide), fun p hp => ?_⟩
    have m : Same H (upd H p (.tup [.ty "list", .ty "tuple"])) := sNew (Same.refl H) hp
    have ep : (upd H p (.tup [.ty "list", .ty "tuple"])) p = some (.tup [.ty "list", .ty "tuple"]) := upd_same
    generalize upd H p (.tup [.ty "list", .ty "tuple"]) = H1 at m ep
    have tr : ∀ i, (List.replicate i true).map V.bl ++ [V.bl true] = (List.replicate (i + 1) true).map V.bl := fun i => by
      rw [List.replicate_succ', List.map_append]
      rfl
    have al : (List.replicate xs.length true).all id = true := by simp
    have dl : decide (V.int ((xs.length : Nat) : Int) = V.int ((ys.length : Nat) : Int)) = true := decide_eq_true (by rw [l1])
    rcases hab with ⟨ha, hb⟩ | ⟨ha, hb⟩
    · have kx : Kd H1 (.ref a) "list" := .lst (m _ _ ha)
      have ky : Kd H1 (.ref b) "list" := .lst (m _ _ hb)
      refine ⟨_, p, _, _, _, _, rfl, ep, .cons (.ty _) (.cons (.ty _) .nil), ky.ty, ky.any, _, rfl, iteT ?_⟩
      refine ⟨_, rfl, _, _, _, _, _, rfl, .ty _, kx.ty, kit_ty kx.isList, _, rfl, _, _, _, _, _, rfl, .ty _, ky.ty, kit_ty ky.isList, rfl, _, rfl, iteF ?_⟩
      refine ⟨_, rfl, _, _, _, _, _, rfl, .ty _, kx.ty, kit_ty kx.isTup, _, rfl, _, _, _, _, _, rfl, .ty _, ky.ty, kit_ty ky.isTup, rfl, _, rfl, iteF ?_⟩
      refine ⟨_, rfl, a, xs, rfl, .inl (.of (m _ _ ha)), _, rfl, b, ys, rfl, .inl (.of (m _ _ hb)), rfl, _, rfl, ?_⟩
      rw [dl]
      refine iteT ⟨_, rfl, _, rfl, a, b, xs, ys, rfl, .inl ⟨.of (m _ _ ha), .of (m _ _ hb), fun D nD => ?_⟩⟩
      refine lc_it ((walk_zip (K := K) (a := a) (b := b) (xs := xs) (ys := ys) (n := xs.length) (by omega)).mono (G' := fun H' => Same H H') (fun H' z => ⟨.of (z _ _ ha), .of (z _ _ hb)⟩) (fun _ _ _ _ _ _ y => y))
        (fun i H' => Same H H' ∧ H' D = some (.lst ((List.replicate i true).map V.bl))) ⟨sNew m nD, upd_same⟩ (fun i H' _ z => z.1) ?_ ?_
      · rintro i v H2 H3 hi ⟨m2, eD⟩ ⟨T1, x1, x2, rfl, nT, rfl, f1, f2⟩
        have m3 := sNew (o := .tup [x1, x2]) m2 nT
        have eD3 : (upd H2 T1 (.tup [x1, x2])) D = some (.lst ((List.replicate i true).map V.bl)) := by
          rw [upd_ne (ne_of_none eD nT)]
          exact eD
        refine ⟨T1, _, rfl, .of upd_same, rfl, _, _, rfl, _, _, rfl, rfl, rfl, _, rfl, _, rfl, x1, x2, rfl, Eq2.same m3 n _ _ (ev i x1 x2 f1 f2), fun H4 m4 => ?_⟩
        refine ⟨_, m4 _ _ eD3, ?_, sOwn' (m3.trans m4) (Same.free m nD), ?_⟩
        · rw [List.length_map, List.length_replicate]
          exact Nat.lt_of_lt_of_le (show i < 1001 by omega) (by decide)
        · rw [upd_same, tr]
      · rintro H2 ⟨m2, eD⟩
        refine ⟨D, _, rfl, .of eD, ?_⟩
        rw [al]
        exact q _ m2
    · have kx : Kd H1 (.ref a) "tuple" := .tup (m _ _ ha)
      have ky : Kd H1 (.ref b) "tuple" := .tup (m _ _ hb)
      refine ⟨_, p, _, _, _, _, rfl, ep, .cons (.ty _) (.cons (.ty _) .nil), ky.ty, ky.any, _, rfl, iteT ?_⟩
      refine ⟨_, rfl, _, _, _, _, _, rfl, .ty _, kx.ty, kit_ty kx.isList, _, rfl, _, _, _, _, _, rfl, .ty _, ky.ty, kit_ty ky.isList, rfl, _, rfl, iteF ?_⟩
      refine ⟨_, rfl, _, _, _, _, _, rfl, .ty _, kx.ty, kit_ty kx.isTup, _, rfl, _, _, _, _, _, rfl, .ty _, ky.ty, kit_ty ky.isTup, rfl, _, rfl, iteF ?_⟩
      refine ⟨_, rfl, a, xs, rfl, .inr (.of (m _ _ ha)), _, rfl, b, ys, rfl, .inr (.of (m _ _ hb)), rfl, _, rfl, ?_⟩
      rw [dl]
      refine iteT ⟨_, rfl, _, rfl, a, b, xs, ys, rfl, .inr ⟨.of (m _ _ ha), .of (m _ _ hb), fun D nD => ?_⟩⟩
      refine lc_it ((walk_zipT (K := K) (a := a) (b := b) (xs := xs) (ys := ys) (n := xs.length) (by omega)).mono (G' := fun H' => Same H H') (fun H' z => ⟨.of (z _ _ ha), .of (z _ _ hb)⟩) (fun _ _ _ _ _ _ y => y))
        (fun i H' => Same H H' ∧ H' D = some (.lst ((List.replicate i true).map V.bl))) ⟨sNew m nD, upd_same⟩ (fun i H' _ z => z.1) ?_ ?_
      · rintro i v H2 H3 hi ⟨m2, eD⟩ ⟨T1, x1, x2, rfl, nT, rfl, f1, f2⟩
        have m3 := sNew (o := .tup [x1, x2]) m2 nT
        have eD3 : (upd H2 T1 (.tup [x1, x2])) D = some (.lst ((List.replicate i true).map V.bl)) := by
          rw [upd_ne (ne_of_none eD nT)]
          exact eD
        refine ⟨T1, _, rfl, .of upd_same, rfl, _, _, rfl, _, _, rfl, rfl, rfl, _, rfl, _, rfl, x1, x2, rfl, Eq2.same m3 n _ _ (ev i x1 x2 f1 f2), fun H4 m4 => ?_⟩
        refine ⟨_, m4 _ _ eD3, ?_, sOwn' (m3.trans m4) (Same.free m nD), ?_⟩
        · rw [List.length_map, List.length_replicate]
          exact Nat.lt_of_lt_of_le (show i < 1001 by omega) (by decide)
        · rw [upd_same, tr]
      · rintro H2 ⟨m2, eD⟩
        refine ⟨D, _, rfl, .of eD, ?_⟩
        rw [al]
        exact q _ m2
theorem ok_samS (n k : Nat) {f : Addr} {fd : FuncData} (F : Fun K "_law_same" "_law_same" sSam f fd) (T : Txt K mg C) (ci : Cal P w K mg base k "_law_same" ["found", "due"] (spSam n)) : FnOk P w K mg base CX0 (k + 1) f fd ["found", "due"] (spSam (n + 1)) :=
  FnOk.or ((ok_sam0 F T).mono (Nat.succ_le_succ (Nat.zero_le k))) (ok_samD n k F T ci) fun vs H Q E h => by
    obtain ⟨x, y, rfl, e | ⟨a, b, xs, ys, rfl, rfl, hab, l1, l2, ev⟩, q⟩ := h
    · exact .inl ⟨x, y, rfl, e, q⟩
    · exact .inr ⟨a, b, xs, ys, rfl, hab, l1, l2, ev, q⟩
end
end K30
set_option Elab.async false
set_option linter.all false
set_option maxRecDepth 100000
set_option maxHeartbeats 4000000
namespace K30
open PySem PySem.Spec PyProof.Rows L2
theorem boot_set' : bootBuiltins "set" = some (.type "set") := by decide +kernel
def nRig : List Str := ["parts", "told", "is_own", "tells", "wants", "asks", "needs", "part", "word", "name", "found", "due"]
theorem addAll_new : ∀ (ws a : List Str), ws.Nodup → addAll a ws = a ++ ws.filter (fun x => decide (x ∉ a))
  | [], a, _ => by simp [addAll]
  | w :: r, a, nd => by
    obtain ⟨h1, h2⟩ := List.nodup_cons.mp nd
    show addAll (if w ∈ a then a else a ++ [w]) r = _
    by_cases c : w ∈ a
    · rw [if_pos c, addAll_new r a h2, List.filter_cons, if_neg (by simpa using c)]
    · rw [if_neg c, addAll_new r _ h2, List.filter_cons, if_pos (by simpa using c), List.append_assoc]
      congr 1
      show w :: _ = w :: _
      congr 1
      refine List.filter_congr fun x hx => ?_
      rw [decide_eq_decide, List.mem_append, List.mem_singleton]
      constructor
      · exact fun z y => z (.inl y)
      · rintro z (y | rfl)
        · exact z y
        · exact h1 hx
def allWants (ps : List Pt) : List Str := ps.flatMap fun p => p.wants
def allAsks (W : List Str) (ps : List Pt) : List Str := ps.flatMap fun p => p.asks.filter fun x => decide (x ∉ W)
theorem flat_snoc (g : Pt → List Str) {ps : List Pt} {i : Nat} {p : Pt} (h : ps[i]? = some p) : (ps.take (i + 1)).flatMap g = (ps.take i).flatMap g ++ g p := by
  rw [List.take_add_one, h, List.flatMap_append]
  simp
theorem flat_len (g : Pt → List Str) : ∀ qs : List Pt, (∀ q ∈ qs, (g q).length ≤ 7) → (qs.flatMap g).length ≤ 7 * qs.length
  | [], _ => Nat.le_refl _
  | q :: r, h => by
    have h1 := h q List.mem_cons_self
    have h2 := flat_len g r fun x hx => h x (List.mem_cons_of_mem _ hx)
    rw [List.flatMap_cons, List.length_append, List.length_cons]
    omega
theorem eq2_strs {H : Hp} {a b : Addr} {us : List Str} (h1 : H a = some (.lst (us.map V.str))) (h2 : H b = some (.lst (us.map V.str))) (l : us.length ≤ 1000) : Eq2 H 1 (.ref a) (.ref b) := by
  refine .inr ⟨a, b, _, _, rfl, rfl, .inl ⟨h1, h2⟩, rfl, by rw [List.length_map]; exact l, fun i v w e1 e2 => ?_⟩
  rw [e1] at e2
  cases e2
  obtain ⟨k, _, rfl⟩ := map_at e1
  exact ⟨rfl, rfl⟩
theorem due_names {g : Pt → List Str} {ps : List Pt} {xs l ys : List Str} {d : List Str} (dw : ∀ x ∈ d, x ∈ words) (hm : ∀ x, x ∈ xs ↔ x ∈ d) (nd : l.Nodup) (ml : ∀ x, x ∈ l ↔ x ∈ xs) (p : ys.Perm l) (s : sortedS ys = true) : ys = canon d := by
  have wl : Ws l := ⟨fun x hx => dw x ((hm x).mp ((ml x).mp hx)), nd⟩
  rw [canon_of wl p s]
  exact canon_congr fun x => (ml x).trans (hm x)
def spRig (C : Addr) : Sp := fun vs H Q _ => ∃ (Nw : Addr → Prop) (a x : Addr) (ws : List V) (ps : List Pt), vs = [.ref a, .ref x, .bl (mergedOf ps).own] ∧ H a = some (.lst ws) ∧ Pts Nw H ws ps ∧ ps.length ≤ 7 ∧ (∀ p ∈ ps, Good p) ∧ LibAt C H x (mergedOf ps) ∧ ∀ H', Same H H' → Q (.bl true) H'
section
variable {P : Program} {w : World} {K : PySem.W.Frag} {mg : Str → Option Value} {base : Heap} {C : Addr}
theorem scRig : FnScope nRig ["parts", "told", "is_own"] (defScope sRig) := ⟨rfl, rfl, rfl, by decide +kernel, rfl, by decide +kernel, by decide +kernel⟩
theorem ok_rig {f : Addr} {fd : FuncData} (F : Fun K "_law_right" "_law_right" sRig f fd) (T : Txt K mg C) (L : Lib P w K mg base C) (cs : Cal P w K mg base 3 "_law_same" ["found", "due"] (spSam 2)) : FnOk P w K mg base CX0 4 f fd ["parts", "told", "is_own"] (spRig C) := by
  obtain ⟨fs, ds, GS, gs, ks, bs⟩ := cs.ex
  obtain ⟨fT, fdT, mT, GT, bT⟩ := L.tells
  obtain ⟨fW, fdW, mW, GW, bW⟩ := L.wants
  obtain ⟨fA, fdA, mA, GA, bA⟩ := L.asks
  obtain ⟨fN, fdN, mN, GN, bN⟩ := L.needs
  obtain ⟨fO, fdO, mO, GO, bO⟩ := L.own
  obtain ⟨fY, fdY, mY, GY, bY⟩ := L.stays
  refine F.ok scRig (fun vs H Q E h => ?_) (fun cdv A outer s H vs Q E hr h => ?_)
  · obtain ⟨Nw, a, x, ws, ps, rfl, _⟩ := h
    rfl
  · obtain ⟨Nw, a, x, ws, ps, rfl, ha, pts, l7, gd, lb, q⟩ := h
    have hr1 : Room 1 _ := hr.mono (by decide)
    have hr3 : Room 3 _ := hr.mono (by decide)
    refine ⟨_, pss_cons (ps_asg (pe_tup (pa_cons (pe_lst pa_nil) (pa_cons (pe_lst pa_nil) (pa_cons (pe_lst pa_nil) (pa_cons (pe_lst pa_nil) pa_nil))))) (pg_tup (by rfl) (pgs_cons (pg_name (i := 3) scRig.nd rfl (.inl rfl)) (pgs_cons (pg_name (i := 4) scRig.nd rfl (.inr rfl)) (pgs_cons (pg_name (i := 5) scRig.nd rfl (.inl rfl)) (pgs_cons (pg_name (i := 6) scRig.nd rfl (.inr rfl)) pgs_nil))))))
      (pss_cons (ps_for PassesOwn.never rfl (pi_list (pv 0)) (pg_name (i := 7) scRig.nd rfl (.inl rfl))
        (pss_cons (ps_expr (pe_bm PySem.F.plainAttrs_list PySem.F.slot_list_extend PySem.F.type_list_extend mt_extend (pv 3) (pa_cons (pe_ix ix_tup (pv 7) pe_int (fun _ _ => rfl)) pa_nil)))
        (pss_cons (ps_expr (pe_bm PySem.F.plainAttrs_list PySem.F.slot_list_extend PySem.F.type_list_extend mt_extend (pv 4) (pa_cons (pe_ix ix_tup (pv 7) pe_int (fun _ _ => rfl)) pa_nil)))
        (pss_one (ps_expr (pe_bm PySem.F.plainAttrs_list PySem.F.slot_list_extend PySem.F.type_list_extend mt_extend (pv 6) (pa_cons (pe_lc (own := [("word", 8)]) (g := gName 8) (tt := tTest (tOp (rIn K true) (tVar 8) (tVar 6))) (te := tVar 8) rfl scRig.nd (pi_list (pe_ix ix_tup (pv 7) pe_int (fun _ _ => rfl))) (blkOk_by (N := nRig) (sc := defScope sRig) (by decide +kernel))
            (fun _ _ _ _ _ => pg_name (i := 8) scRig.nd rfl (.inl rfl)) (fun _ _ _ _ _ => by exact pts_one (pt_cmpR op_notIn_seq (pv 8) (pv 6) (by rfl))) (fun _ _ _ _ _ => pv 8)) pa_nil)))))))
      (pss_cons (ps_for PassesOwn.never rfl (pi_list (pv 0)) (pg_name (i := 7) scRig.nd rfl (.inl rfl))
        (pss_one (ps_expr (pe_bm PySem.F.plainAttrs_list PySem.F.slot_list_extend PySem.F.type_list_extend mt_extend (pv 5) (pa_cons (pe_lc (own := [("name", 9)]) (g := gName 9) (tt := tTest (tOp (rIn K true) (tVar 9) (tVar 4))) (te := tVar 9) rfl scRig.nd (pi_list (pe_ix ix_tup (pv 7) pe_int (fun _ _ => rfl))) (blkOk_by (N := nRig) (sc := defScope sRig) (by decide +kernel))
            (fun _ _ _ _ _ => pg_name (i := 9) scRig.nd rfl (.inl rfl)) (fun _ _ _ _ _ => by exact pts_one (pt_cmpR op_notIn_seq (pv 9) (pv 4) (by rfl))) (fun _ _ _ _ _ => pv 9)) pa_nil)))))
      (pss_cons (ps_set (i := 10) scRig.nd rfl (.inl rfl) (pe_lst (pa_cons (pe_meth0 (pv 1) L.ok.cl mT GT hr1 bT .nil pass0) (pa_cons (pe_meth0 (pv 1) L.ok.cl mW GW hr1 bW .nil pass0) (pa_cons (pe_meth0 (pv 1) L.ok.cl mA GA hr1 bA .nil pass0) (pa_cons (pe_meth0 (pv 1) L.ok.cl mN GN hr1 bN .nil pass0) (pa_cons (pe_meth0 (pv 1) L.ok.cl mO GO hr1 bO .nil pass0) (pa_cons (pe_meth0 (pv 1) L.ok.cl mY GY hr1 bY .nil pass0) pa_nil))))))))
      (pss_cons (ps_set (i := 11) scRig.nd rfl (.inl rfl) (pe_lst (pa_cons (pe_callB (show CallR _ (.builtin "sorted") (rSortedTx w) from cr_sortedTx rfl) (by rfl) T.srt boot_srt (pa_cons (pe_callTy (show CallR _ (.type "set") (rSetTx K w) from cr_setTx rfl) (by rfl) T.set boot_set' (pa_cons (pv 3) pa_nil)) pa_nil)) (pa_cons (pe_callB (show CallR _ (.builtin "sorted") (rSortedTx w) from cr_sortedTx rfl) (by rfl) T.srt boot_srt (pa_cons (pe_callTy (show CallR _ (.type "set") (rSetTx K w) from cr_setTx rfl) (by rfl) T.set boot_set' (pa_cons (pv 4) pa_nil)) pa_nil)) (pa_cons (pe_callB (show CallR _ (.builtin "sorted") (rSortedTx w) from cr_sortedTx rfl) (by rfl) T.srt boot_srt (pa_cons (pe_callTy (show CallR _ (.type "set") (rSetTx K w) from cr_setTx rfl) (by rfl) T.set boot_set' (pa_cons (pv 5) pa_nil)) pa_nil))
          (pa_cons (pv 6) (pa_cons (pv 2) (pa_cons (pe_callB (cr_any rfl) (by rfl) T.any boot_any' (pa_cons (pe_lc (own := [("part", 7)]) (g := gName 7) (tt := tYes) (te := tOp (rIxT K) (tVar 7) (tC (.int 5))) rfl scRig.nd (pi_list (pv 0)) (blkOk_by (N := nRig) (sc := defScope sRig) (by decide +kernel)) (fun _ _ _ _ _ => pg_name (i := 7) scRig.nd rfl (.inl rfl)) (fun _ _ _ _ _ => pts_nil) (fun _ _ _ _ _ => by exact pe_ix ix_tup (pv 7) pe_int (fun _ _ => rfl))) pa_nil)) pa_nil))))))))
      (pss_one (ps_ret (pe_and (pe_callB call_isi (by rfl) T.isi boot_isi (pa_cons (pv 1) (pa_cons (pe_glob (v := .ref C) rfl T.gC rfl) pa_nil))) (pe_one (pe_call GS hr3 rfl gs ks bs .nil pass0 (pa_cons (pv 10) (pa_cons (pv 11) pa_nil))))))))))), ?_⟩
    refine ⟨Nat.zero_le _, fun d1 n1 => ⟨Nat.zero_le _, fun d2 n2 => ⟨Nat.zero_le _, fun d3 n3 => ⟨Nat.zero_le _, fun d4 n4 => ⟨by show 4 ≤ sizeLine; decide, fun tt ntt => ?_⟩⟩⟩⟩⟩
    have hm1 := sNew (o := .lst []) (Same.refl H) n1
    have hm2 := sNew (o := .lst []) hm1 n2
    have hm3 := sNew (o := .lst []) hm2 n3
    have hm4 := sNew (o := .lst []) hm3 n4
    have hm5 := sNew (o := .tup [.ref d1, .ref d2, .ref d3, .ref d4]) hm4 ntt
    have z1 : H d1 = none := n1
    have z2 := Same.free hm1 n2
    have z3 := Same.free hm2 n3
    have z4 := Same.free hm3 n4
    have ne12 : d1 ≠ d2 := ne_of_none upd_same n2
    have ne13 : d1 ≠ d3 := ne_of_none (by rw [upd_ne ne12]; exact upd_same) n3
    have ne14 : d1 ≠ d4 := ne_of_none (by rw [upd_ne ne13, upd_ne ne12]; exact upd_same) n4
    have ne23 : d2 ≠ d3 := ne_of_none upd_same n3
    have ne24 : d2 ≠ d4 := ne_of_none (by rw [upd_ne ne23]; exact upd_same) n4
    have ne34 : d3 ≠ d4 := ne_of_none upd_same n4
    have f1 : (upd (upd (upd (upd H d1 (.lst [])) d2 (.lst [])) d3 (.lst [])) d4 (.lst [])) d1 = some (.lst []) := by rw [upd_ne ne14, upd_ne ne13, upd_ne ne12]; exact upd_same
    have f2 : (upd (upd (upd (upd H d1 (.lst [])) d2 (.lst [])) d3 (.lst [])) d4 (.lst [])) d2 = some (.lst []) := by rw [upd_ne ne24, upd_ne ne23]; exact upd_same
    have f3 : (upd (upd (upd (upd H d1 (.lst [])) d2 (.lst [])) d3 (.lst [])) d4 (.lst [])) d3 = some (.lst []) := by rw [upd_ne ne34]; exact upd_same
    have f4 : (upd (upd (upd (upd H d1 (.lst [])) d2 (.lst [])) d3 (.lst [])) d4 (.lst [])) d4 = some (.lst []) := upd_same
    generalize upd (upd (upd (upd H d1 (.lst [])) d2 (.lst [])) d3 (.lst [])) d4 (.lst []) = H5 at hm4 hm5 f1 f2 f3 f4 ntt
    refine ⟨tt, _, rfl, .of upd_same, rfl, _, _, rfl, _, _, rfl, _, _, rfl, _, _, rfl, rfl, ?_⟩
    have g1 := sNew (o := .tup [.ref d1, .ref d2, .ref d3, .ref d4]) (Same.refl H5) ntt _ _ f1
    have g2 := sNew (o := .tup [.ref d1, .ref d2, .ref d3, .ref d4]) (Same.refl H5) ntt _ _ f2
    have g3 := sNew (o := .tup [.ref d1, .ref d2, .ref d3, .ref d4]) (Same.refl H5) ntt _ _ f3
    have g4 := sNew (o := .tup [.ref d1, .ref d2, .ref d3, .ref d4]) (Same.refl H5) ntt _ _ f4
    have lenT : ∀ k, (allTells (ps.take k)).length ≤ 49 := fun k => by
      have := flat_len (fun p => p.tells) (ps.take k) fun q hq => (gd q (List.mem_of_mem_take hq)).ok.tells.len
      rw [List.length_take] at this
      exact Nat.le_trans this (by omega)
    have lenW : ∀ k, (allWants (ps.take k)).length ≤ 49 := fun k => by
      have := flat_len (fun p => p.wants) (ps.take k) fun q hq => (gd q (List.mem_of_mem_take hq)).ok.wants.len
      rw [List.length_take] at this
      exact Nat.le_trans this (by omega)
    have lenA : ∀ k, (allAsks (allWants ps) (ps.take k)).length ≤ 49 := fun k => by
      have := flat_len (fun p => p.asks.filter fun x => decide (x ∉ allWants ps)) (ps.take k) fun q hq => Nat.le_trans (List.length_filter_le _ _) (gd q (List.mem_of_mem_take hq)).ok.asks.len
      rw [List.length_take] at this
      exact Nat.le_trans this (by omega)
    have wsN : ∀ k, Ws (gather (fun p => p.needs) (ps.take k)) := fun k => ws_gather fun p hp x hx => (gd p (List.mem_of_mem_take hp)).ok.needs.ok x hx
    refine ⟨_, rfl, a, rfl, ⟨_, .of (hm5 _ _ ha)⟩, ?_⟩
    refine for_list (K := K) (a := a) (xs := ws) (fun i σ H' => Same H H' ∧ (H' d1 = some (.lst ((allTells (ps.take i)).map V.str)) ∧ H' d2 = some (.lst ((allWants (ps.take i)).map V.str)) ∧ H' d3 = some (.lst []) ∧ H' d4 = some (.lst ((gather (fun p => p.needs) (ps.take i)).map V.str))) ∧
      ∃ u7, σ = [some (.ref a), some (.ref x), some (.bl (mergedOf ps).own), some (.ref d1), some (.ref d2), some (.ref d3), some (.ref d4), u7, none, none, none, none]) ⟨hm5, ⟨g1, g2, g3, g4⟩, none, rfl⟩ (fun i σ H' _ z => .of (z.1 _ _ ha)) ?_ ?_
    · rintro i v σ H2 hi ⟨m2, ⟨f1, f2, f3, f4⟩, u7, rfl⟩
      obtain ⟨p, hp, t, A, B, C', D', rfl, _, h0, hA, hB, hC, hD⟩ := pts.at hi
      have gp := gd p (List.mem_of_getElem? hp)
      have lt1 := lenT i
      have lt2 := lenW i
      have lt3 := (wsN i).len
      have q1 := gp.ok.tells.len
      have q2 := gp.ok.wants.len
      have q3 := gp.ok.needs.len
      have l1 : ((allTells (ps.take i)).map V.str).length + (p.tells.map V.str).length ≤ sizeLine := by
        rw [List.length_map, List.length_map]
        exact Nat.le_trans (show _ ≤ 56 by omega) (by decide)
      have l2 : ((allWants (ps.take i)).map V.str).length + (p.wants.map V.str).length ≤ sizeLine := by
        rw [List.length_map, List.length_map]
        exact Nat.le_trans (show _ ≤ 56 by omega) (by decide)
      refine ⟨_, rfl, .inl ⟨rfl, _, .of f1⟩, _, rfl, t, _, _, _, rfl, rfl, .of (m2 _ _ h0), atI_nat (j := 0) rfl, d1, A, _, _, rfl, rfl, f1, m2 _ _ hA, l1, ?_⟩
      have ma := sOwn' (o := .lst ((allTells (ps.take i)).map V.str ++ p.tells.map V.str)) m2 z1
      have a1 : (upd H2 d1 (.lst ((allTells (ps.take i)).map V.str ++ p.tells.map V.str))) d1 = some (.lst ((allTells (ps.take (i + 1))).map V.str)) := by
        rw [upd_same, show allTells (ps.take (i + 1)) = allTells (ps.take i) ++ p.tells from flat_snoc _ hp, List.map_append]
      have a2 : (upd H2 d1 (.lst ((allTells (ps.take i)).map V.str ++ p.tells.map V.str))) d2 = _ := (upd_ne ne12.symm).trans f2
      have a3 : (upd H2 d1 (.lst ((allTells (ps.take i)).map V.str ++ p.tells.map V.str))) d3 = _ := (upd_ne ne13.symm).trans f3
      have a4 : (upd H2 d1 (.lst ((allTells (ps.take i)).map V.str ++ p.tells.map V.str))) d4 = _ := (upd_ne ne14.symm).trans f4
      generalize upd H2 d1 (.lst ((allTells (ps.take i)).map V.str ++ p.tells.map V.str)) = Ha at ma a1 a2 a3 a4
      refine ⟨_, rfl, .inl ⟨rfl, _, .of a2⟩, _, rfl, t, _, _, _, rfl, rfl, .of (ma _ _ h0), atI_nat (j := 1) rfl, d2, B, _, _, rfl, rfl, a2, ma _ _ hB, l2, ?_⟩
      have mb := sOwn' (o := .lst ((allWants (ps.take i)).map V.str ++ p.wants.map V.str)) ma z2
      have b2 : (upd Ha d2 (.lst ((allWants (ps.take i)).map V.str ++ p.wants.map V.str))) d2 = some (.lst ((allWants (ps.take (i + 1))).map V.str)) := by
        rw [upd_same, show allWants (ps.take (i + 1)) = allWants (ps.take i) ++ p.wants from flat_snoc _ hp, List.map_append]
      have b1 : (upd Ha d2 (.lst ((allWants (ps.take i)).map V.str ++ p.wants.map V.str))) d1 = _ := (upd_ne ne12).trans a1
      have b3 : (upd Ha d2 (.lst ((allWants (ps.take i)).map V.str ++ p.wants.map V.str))) d3 = _ := (upd_ne ne23.symm).trans a3
      have b4 : (upd Ha d2 (.lst ((allWants (ps.take i)).map V.str ++ p.wants.map V.str))) d4 = _ := (upd_ne ne24.symm).trans a4
      generalize upd Ha d2 (.lst ((allWants (ps.take i)).map V.str ++ p.wants.map V.str)) = Hb at mb b1 b2 b3 b4
      refine ⟨_, rfl, .inl ⟨rfl, _, .of b4⟩, _, rfl, t, _, _, _, rfl, rfl, .of (mb _ _ h0), atI_nat (j := 3) rfl, D', rfl, ⟨_, .of (mb _ _ hD)⟩, fun D nD => ?_⟩
      have zD : H D = none := Same.free mb nD
      refine lc_list (K := K) (a := D') (xs := p.needs.map V.str) (fun j H' => Same Hb H' ∧ H' D = some (.lst (((p.needs.take j).filter (fun y => decide (y ∉ gather (fun p => p.needs) (ps.take i)))).map V.str))) ⟨sNew (Same.refl Hb) nD, upd_same⟩ (fun j H' _ z => .of (z.1 _ _ (mb _ _ hD))) ?_ ?_
      · rintro j v Hc hj ⟨mc, eD⟩
        obtain ⟨y, hy, rfl⟩ := map_at hj
        have jl : j < p.needs.length := (List.getElem?_eq_some_iff.mp hy).1
        refine ⟨rfl, _, rfl, _, rfl, d4, _, rfl, .inl (.of (mc _ _ b4)), rfl, flat_strs _, _, rfl, ?_⟩
        rw [show (if true = true then !inV (.str y) ((gather (fun p => p.needs) (ps.take i)).map V.str) else inV (.str y) ((gather (fun p => p.needs) (ps.take i)).map V.str)) = decide (y ∉ gather (fun p => p.needs) (ps.take i)) from by
          show (!inV (.str y) ((gather (fun p => p.needs) (ps.take i)).map V.str)) = _
          rw [in_strs]
          simp]
        refine ite2 (fun c => ?_) (fun c => ?_)
        · refine ⟨_, rfl, _, eD, ?_, sOwn' mc nD, ?_⟩
          · rw [List.length_map]
            have := List.length_filter_le (fun y => decide (y ∉ gather (fun p => p.needs) (ps.take i))) (p.needs.take j)
            rw [List.length_take] at this
            exact Nat.lt_of_le_of_lt (show _ ≤ 7 by omega) (by decide)
          · rw [upd_same, filter_step _ hy, if_pos c, List.map_append]
            rfl
        · refine ⟨mc, ?_⟩
          rw [filter_step _ hy, if_neg c, List.append_nil]
          exact eD
      · rintro Hc ⟨mc, eD⟩
        rw [List.length_map, List.take_of_length_le (Nat.le_refl _)] at eD
        have l4 : ((gather (fun p => p.needs) (ps.take i)).map V.str).length + ((p.needs.filter (fun y => decide (y ∉ gather (fun p => p.needs) (ps.take i)))).map V.str).length ≤ sizeLine := by
          rw [List.length_map, List.length_map]
          have := List.length_filter_le (fun y => decide (y ∉ gather (fun p => p.needs) (ps.take i))) p.needs
          exact Nat.le_trans (show _ ≤ 56 by omega) (by decide)
        refine ⟨d4, D, _, _, rfl, rfl, mc _ _ b4, eD, l4, ?_⟩
        refine ⟨sOwn' (mb.trans mc) z4, ⟨(upd_ne ne14).trans (mc _ _ b1), (upd_ne ne24).trans (mc _ _ b2), (upd_ne ne34).trans (mc _ _ b3), ?_⟩, _, rfl⟩
        have e1 : ps.take (i + 1) = ps.take i ++ [p] := by rw [List.take_add_one, hp]; rfl
        rw [upd_same, e1, gather_snoc, addAll_new _ _ gp.ok.needs.nd, List.map_append]
    · rintro σ H2 ⟨m2, ⟨f1, f2, f3, f4⟩, u7, rfl⟩
      rw [pts.1, List.take_of_length_le (Nat.le_refl _)] at f1 f2 f4
      refine ⟨_, rfl, a, rfl, ⟨_, .of (m2 _ _ ha)⟩, ?_⟩
      refine for_list (K := K) (a := a) (xs := ws) (fun i σ H' => Same H H' ∧ (H' d1 = some (.lst ((allTells ps).map V.str)) ∧ H' d2 = some (.lst ((allWants ps).map V.str)) ∧ H' d3 = some (.lst ((allAsks (allWants ps) (ps.take i)).map V.str)) ∧ H' d4 = some (.lst ((gather (fun p => p.needs) ps).map V.str))) ∧
        ∃ u7, σ = [some (.ref a), some (.ref x), some (.bl (mergedOf ps).own), some (.ref d1), some (.ref d2), some (.ref d3), some (.ref d4), u7, none, none, none, none]) ⟨m2, ⟨f1, f2, f3, f4⟩, _, rfl⟩ (fun i σ H' _ z => .of (z.1 _ _ ha)) ?_ ?_
      · rintro i v σ H3 hi ⟨m3, ⟨f1, f2, f3, f4⟩, u7, rfl⟩
        obtain ⟨p, hp, t, A, B, C', D', rfl, _, h0, hA, hB, hC, hD⟩ := pts.at hi
        have gp := gd p (List.mem_of_getElem? hp)
        have lt3 := lenA i
        have q3 := gp.ok.asks.len
        refine ⟨_, rfl, .inl ⟨rfl, _, .of f3⟩, _, rfl, t, _, _, _, rfl, rfl, .of (m3 _ _ h0), atI_nat (j := 2) rfl, C', rfl, ⟨_, .of (m3 _ _ hC)⟩, fun D nD => ?_⟩
        refine lc_list (K := K) (a := C') (xs := p.asks.map V.str) (fun j H' => Same H3 H' ∧ H' D = some (.lst (((p.asks.take j).filter (fun y => decide (y ∉ allWants ps))).map V.str))) ⟨sNew (Same.refl H3) nD, upd_same⟩ (fun j H' _ z => .of (z.1 _ _ (m3 _ _ hC))) ?_ ?_
        · rintro j v Hc hj ⟨mc, eD⟩
          obtain ⟨y, hy, rfl⟩ := map_at hj
          have jl : j < p.asks.length := (List.getElem?_eq_some_iff.mp hy).1
          refine ⟨rfl, _, rfl, _, rfl, d2, _, rfl, .inl (.of (mc _ _ f2)), rfl, flat_strs _, _, rfl, ?_⟩
          rw [show (if true = true then !inV (.str y) ((allWants ps).map V.str) else inV (.str y) ((allWants ps).map V.str)) = decide (y ∉ allWants ps) from by
            show (!inV (.str y) ((allWants ps).map V.str)) = _
            rw [in_strs]
            simp]
          refine ite2 (fun c => ?_) (fun c => ?_)
          · refine ⟨_, rfl, _, eD, ?_, sOwn' mc nD, ?_⟩
            · rw [List.length_map]
              have := List.length_filter_le (fun y => decide (y ∉ allWants ps)) (p.asks.take j)
              rw [List.length_take] at this
              exact Nat.lt_of_le_of_lt (show _ ≤ 7 by omega) (by decide)
            · rw [upd_same, filter_step _ hy, if_pos c, List.map_append]
              rfl
          · refine ⟨mc, ?_⟩
            rw [filter_step _ hy, if_neg c, List.append_nil]
            exact eD
        · rintro Hc ⟨mc, eD⟩
          rw [List.length_map, List.take_of_length_le (Nat.le_refl _)] at eD
          have l4 : ((allAsks (allWants ps) (ps.take i)).map V.str).length + ((p.asks.filter (fun y => decide (y ∉ allWants ps))).map V.str).length ≤ sizeLine := by
            rw [List.length_map, List.length_map]
            have := List.length_filter_le (fun y => decide (y ∉ allWants ps)) p.asks
            exact Nat.le_trans (show _ ≤ 56 by omega) (by decide)
          refine ⟨d3, D, _, _, rfl, rfl, mc _ _ f3, eD, l4, ?_⟩
          refine ⟨sOwn' (m3.trans mc) z3, ⟨(upd_ne ne13).trans (mc _ _ f1), (upd_ne ne23).trans (mc _ _ f2), ?_, (upd_ne ne34.symm).trans (mc _ _ f4)⟩, _, rfl⟩
          rw [upd_same, show allAsks (allWants ps) (ps.take (i + 1)) = allAsks (allWants ps) (ps.take i) ++ _ from flat_snoc _ hp, List.map_append]
      · rintro σ H3 ⟨m3, ⟨f1, f2, f3, f4⟩, u7, rfl⟩
        rw [pts.1, List.take_of_length_le (Nat.le_refl _)] at f3
        obtain ⟨dx, fs, e0, no⟩ := lb.ins
        have w1 := (canon_len (mergedOf ps).tells)
        have w2 := (canon_len (mergedOf ps).wants)
        have w3 := (canon_len (mergedOf ps).asks)
        have wN : Ws (gather (fun p => p.needs) ps) := by
          have := wsN ps.length
          rwa [List.take_of_length_le (Nat.le_refl _)] at this
        have w4 := wN.len
        have wT := lenT ps.length
        have wW := lenW ps.length
        have wA := lenA ps.length
        rw [List.take_of_length_le (Nat.le_refl _)] at wT wW wA
        refine ⟨_, rfl, x, dx, fs, rfl, m3 _ _ e0, no _ (by decide), x, mergedOf ps, rfl, lb.same m3, fun r1 nr1 => ?_⟩
        have k1 := sNew (o := .lst ((canon (mergedOf ps).tells).map V.str)) (Same.refl H3) nr1
        have v1 : (upd H3 r1 (.lst ((canon (mergedOf ps).tells).map V.str))) r1 = _ := upd_same
        generalize upd H3 r1 (.lst ((canon (mergedOf ps).tells).map V.str)) = I1 at k1 v1
        refine ⟨_, rfl, x, dx, fs, rfl, (m3.trans k1) _ _ e0, no _ (by decide), x, mergedOf ps, rfl, lb.same (m3.trans k1), fun r2 nr2 => ?_⟩
        have k2 := sNew (o := .lst ((canon (mergedOf ps).wants).map V.str)) (Same.refl I1) nr2
        have v2 : (upd I1 r2 (.lst ((canon (mergedOf ps).wants).map V.str))) r2 = _ := upd_same
        generalize upd I1 r2 (.lst ((canon (mergedOf ps).wants).map V.str)) = I2 at k2 v2
        have j2 := k1.trans k2
        refine ⟨_, rfl, x, dx, fs, rfl, (m3.trans j2) _ _ e0, no _ (by decide), x, mergedOf ps, rfl, lb.same (m3.trans j2), fun r3 nr3 => ?_⟩
        have k3 := sNew (o := .lst ((canon (mergedOf ps).asks).map V.str)) (Same.refl I2) nr3
        have v3 : (upd I2 r3 (.lst ((canon (mergedOf ps).asks).map V.str))) r3 = _ := upd_same
        generalize upd I2 r3 (.lst ((canon (mergedOf ps).asks).map V.str)) = I3 at k3 v3
        have j3 := j2.trans k3
        refine ⟨_, rfl, x, dx, fs, rfl, (m3.trans j3) _ _ e0, no _ (by decide), x, mergedOf ps, rfl, lb.same (m3.trans j3), fun r4 nr4 => ?_⟩
        have k4 := sNew (o := .lst ((mergedOf ps).needs.map V.str)) (Same.refl I3) nr4
        have v4 : (upd I3 r4 (.lst ((mergedOf ps).needs.map V.str))) r4 = _ := upd_same
        generalize upd I3 r4 (.lst ((mergedOf ps).needs.map V.str)) = I4 at k4 v4
        have j4 := j3.trans k4
        refine ⟨_, rfl, x, dx, fs, rfl, (m3.trans j4) _ _ e0, no _ (by decide), x, mergedOf ps, rfl, lb.same (m3.trans j4), ?_⟩
        refine ⟨_, rfl, x, dx, fs, rfl, (m3.trans j4) _ _ e0, no _ (by decide), x, mergedOf ps, rfl, lb.same (m3.trans j4), ?_⟩
        refine ⟨by show 6 ≤ sizeLine; decide, fun F nF => ?_⟩
        have k5 := sNew (o := .lst [.ref r1, .ref r2, .ref r3, .ref r4, .bl (mergedOf ps).own, .bl (mergedOf ps).stays]) (Same.refl I4) nF
        have v5 : (upd I4 F (.lst [.ref r1, .ref r2, .ref r3, .ref r4, .bl (mergedOf ps).own, .bl (mergedOf ps).stays])) F = _ := upd_same
        have j5 := j4.trans k5
        generalize upd I4 F (.lst [.ref r1, .ref r2, .ref r3, .ref r4, .bl (mergedOf ps).own, .bl (mergedOf ps).stays]) = I5 at k5 v5 j5
        -- what is due
        refine ⟨_, rfl, d1, allTells ps, rfl, .of (j5 _ _ f1), by omega, fun s1 l1 nd1 ml1 ll1 ns1 => ?_⟩
        refine ⟨s1, l1, rfl, upd_same, by omega, fun y1 t1 p1 o1 nt1 => ?_⟩
        have i1 := (sNew (o := SetTx w s1 l1) (Same.refl I5) ns1).trans (sNew (o := .lst (y1.map V.str)) (Same.refl _) nt1)
        have x1 : (upd (upd I5 s1 (SetTx w s1 l1)) t1 (.lst (y1.map V.str))) t1 = _ := upd_same
        generalize upd (upd I5 s1 (SetTx w s1 l1)) t1 (.lst (y1.map V.str)) = J1 at i1 x1
        refine ⟨_, rfl, d2, allWants ps, rfl, .of ((j5.trans i1) _ _ f2), by omega, fun s2 l2 nd2 ml2 ll2 ns2 => ?_⟩
        refine ⟨s2, l2, rfl, upd_same, by omega, fun y2 t2 p2 o2 nt2 => ?_⟩
        have i2 := (sNew (o := SetTx w s2 l2) (Same.refl J1) ns2).trans (sNew (o := .lst (y2.map V.str)) (Same.refl _) nt2)
        have x2 : (upd (upd J1 s2 (SetTx w s2 l2)) t2 (.lst (y2.map V.str))) t2 = _ := upd_same
        generalize upd (upd J1 s2 (SetTx w s2 l2)) t2 (.lst (y2.map V.str)) = J2 at i2 x2
        have i12 := i1.trans i2
        refine ⟨_, rfl, d3, allAsks (allWants ps) ps, rfl, .of ((j5.trans i12) _ _ f3), by omega, fun s3 l3 nd3 ml3 ll3 ns3 => ?_⟩
        refine ⟨s3, l3, rfl, upd_same, by omega, fun y3 t3 p3 o3 nt3 => ?_⟩
        have i3 := (sNew (o := SetTx w s3 l3) (Same.refl J2) ns3).trans (sNew (o := .lst (y3.map V.str)) (Same.refl _) nt3)
        have x3 : (upd (upd J2 s3 (SetTx w s3 l3)) t3 (.lst (y3.map V.str))) t3 = _ := upd_same
        generalize upd (upd J2 s3 (SetTx w s3 l3)) t3 (.lst (y3.map V.str)) = J3 at i3 x3
        have i123 := i12.trans i3
        have m4 := m3.trans (j5.trans i123)
        refine ⟨_, rfl, _, rfl, _, rfl, a, rfl, ⟨_, .of (m4 _ _ ha)⟩, fun D nD => ?_⟩
        refine lc_list (K := K) (a := a) (xs := ws) (fun i H' => Same J3 H' ∧ H' D = some (.lst (((ps.map fun p => p.stays).take i).map V.bl))) ⟨sNew (Same.refl _) nD, upd_same⟩ (fun i H' _ z => .of (z.1 _ _ (m4 _ _ ha))) ?_ ?_
        · rintro i v H6 hi ⟨m6, eD⟩
          obtain ⟨p, hp, t, A, B, C', D', rfl, _, h0, _⟩ := pts.at hi
          have il : i < ps.length := (List.getElem?_eq_some_iff.mp hp).1
          refine ⟨rfl, _, rfl, t, _, _, _, rfl, rfl, .of (m6 _ _ (m4 _ _ h0)), atI_nat (j := 5) rfl, _, eD, ?_, sOwn' m6 nD, ?_⟩
          · rw [List.length_map, List.length_take]
            exact Nat.lt_of_lt_of_le (show min i _ < 8 by omega) (by decide)
          · rw [upd_same, List.take_add_one, List.getElem?_map, hp, List.map_append]
            rfl
        · rintro H6 ⟨m6, eD⟩
          rw [pts.1, List.take_of_length_le (by simp)] at eD
          refine ⟨D, _, rfl, .of eD, ?_⟩
          have es : ((ps.map fun p => p.stays).any id) = (mergedOf ps).stays := by
            rw [List.any_map]
            rfl
          rw [es]
          refine ⟨by show 6 ≤ sizeLine; decide, fun G nG => ?_⟩
          have kG := m6.trans (sNew (o := .lst [.ref t1, .ref t2, .ref t3, .ref d4, .bl (mergedOf ps).own, .bl (mergedOf ps).stays]) (Same.refl H6) nG)
          have vG : (upd H6 G (.lst [.ref t1, .ref t2, .ref t3, .ref d4, .bl (mergedOf ps).own, .bl (mergedOf ps).stays])) G = _ := upd_same
          generalize upd H6 G (.lst [.ref t1, .ref t2, .ref t3, .ref d4, .bl (mergedOf ps).own, .bl (mergedOf ps).stays]) = HZ at kG vG
          have m7 := m4.trans kG
          refine ⟨_, rfl, _, _, _, _, _, rfl, .own C, L.ok.ty (m7 _ _ e0), L.ok.one, _, rfl, iteT ?_⟩
          have gT : ∀ q ∈ ps, ∀ y ∈ canon q.tells, y ∈ words := fun q hq y hy => (canon_ws (gd q hq).ok.tells.ok).ok y hy
          have gW : ∀ q ∈ ps, ∀ y ∈ canon q.wants, y ∈ words := fun q hq y hy => (canon_ws (gd q hq).ok.wants.ok).ok y hy
          have gA : ∀ q ∈ ps, ∀ y ∈ canon q.asks, y ∈ words := fun q hq y hy => (canon_ws (gd q hq).ok.asks.ok).ok y hy
          have inW : ∀ y, y ∈ allWants ps ↔ y ∈ gather (fun p => canon p.wants) ps := fun y => by
            rw [mem_gather]
            unfold allWants
            rw [List.mem_flatMap]
            exact ⟨fun ⟨q, hq, h⟩ => ⟨q, hq, (canon_mem (gd q hq).ok.wants.ok y).mpr h⟩, fun ⟨q, hq, h⟩ => ⟨q, hq, (canon_mem (gd q hq).ok.wants.ok y).mp h⟩⟩
          have ey1 : y1 = canon (mergedOf ps).tells := due_names (g := fun p => p.tells) (ps := ps) (ws_gather gT).ok (fun y => by
            show y ∈ allTells ps ↔ y ∈ gather (fun p => canon p.tells) ps
            rw [mem_gather]
            unfold allTells
            rw [List.mem_flatMap]
            exact ⟨fun ⟨q, hq, h⟩ => ⟨q, hq, (canon_mem (gd q hq).ok.tells.ok y).mpr h⟩, fun ⟨q, hq, h⟩ => ⟨q, hq, (canon_mem (gd q hq).ok.tells.ok y).mp h⟩⟩) nd1 ml1 p1 o1
          have ey2 : y2 = canon (mergedOf ps).wants := due_names (g := fun p => p.wants) (ps := ps) (ws_gather gW).ok inW nd2 ml2 p2 o2
          have ey3 : y3 = canon (mergedOf ps).asks := due_names (g := fun p => p.asks) (ps := ps) (d := (mergedOf ps).asks) (fun y hy => (ws_gather gA).ok y (List.mem_filter.mp hy).1) (fun y => by
            show y ∈ allAsks (allWants ps) ps ↔ y ∈ (gather (fun p => canon p.asks) ps).filter (fun x => decide (x ∉ gather (fun p => canon p.wants) ps))
            rw [List.mem_filter, mem_gather, decide_eq_true_eq, ← inW]
            unfold allAsks
            rw [List.mem_flatMap]
            constructor
            · rintro ⟨q, hq, h⟩
              obtain ⟨h1, h2⟩ := List.mem_filter.mp h
              exact ⟨⟨q, hq, (canon_mem (gd q hq).ok.asks.ok y).mpr h1⟩, of_decide_eq_true h2⟩
            · rintro ⟨⟨q, hq, h⟩, h2⟩
              exact ⟨q, hq, List.mem_filter.mpr ⟨(canon_mem (gd q hq).ok.asks.ok y).mp h, decide_eq_true h2⟩⟩) nd3 ml3 p3 o3
          rw [ey1] at x1
          rw [ey2] at x2
          rw [ey3] at x3
          have jj := i123.trans kG
          have a1 := (k2.trans (k3.trans (k4.trans (k5.trans jj)))) _ _ v1
          have a2 := (k3.trans (k4.trans (k5.trans jj))) _ _ v2
          have a3 := (k4.trans (k5.trans jj)) _ _ v3
          have a4 := (k5.trans jj) _ _ v4
          have c1 := (i2.trans (i3.trans kG)) _ _ x1
          have c2 := (i3.trans kG) _ _ x2
          have c3 := kG _ _ x3
          have c4 := (j5.trans jj) _ _ f4
          refine ⟨_, rfl, _, rfl, .ref F, .ref G, rfl, .inr ⟨F, G, _, _, rfl, rfl, .inl ⟨jj _ _ v5, vG⟩, rfl, by show 6 ≤ 1000; decide, fun i v u h1 h2 => ?_⟩, fun H8 m8 => q H8 (m7.trans m8)⟩
          match i, h1, h2 with
          | 0, h1, h2 => cases h1; cases h2; exact eq2_strs a1 c1 (by omega)
          | 1, h1, h2 => cases h1; cases h2; exact eq2_strs a2 c2 (by omega)
          | 2, h1, h2 => cases h1; cases h2; exact eq2_strs a3 c3 (by omega)
          | 3, h1, h2 => cases h1; cases h2; exact eq2_strs a4 c4 (Nat.le_trans w4 (by decide))
          | 4, h1, h2 => cases h1; cases h2; exact .inl ⟨rfl, rfl⟩
          | 5, h1, h2 => cases h1; cases h2; exact .inl ⟨rfl, rfl⟩
          | (_ + 6), h1, h2 => cases h1
end
end K30
set_option Elab.async false
set_option linter.all false
set_option maxRecDepth 100000
set_option maxHeartbeats 4000000
namespace K30
open PySem PySem.Spec PyProof.Rows L2
/-! ### libraries made one by one, gathered at D -/
def LibOff (C D : Addr) (H : Hp) (x : Addr) (p : Pt) : Prop := x ≠ D ∧ ∃ dx a b c d, (a ≠ D ∧ b ≠ D ∧ c ≠ D ∧ d ≠ D) ∧ H x = some (.ins C dx (fieldsOf a b c d p)) ∧ H a = some (.lst ((canon p.tells).map V.str)) ∧ H b = some (.lst ((canon p.wants).map V.str)) ∧
  H c = some (.lst ((canon p.asks).map V.str)) ∧ H d = some (.lst (p.needs.map V.str))
theorem LibOff.at {C D : Addr} {H : Hp} {x : Addr} {p : Pt} (h : LibOff C D H x p) : LibAt C H x p := by
  obtain ⟨_, dx, a, b, c, d, _, r⟩ := h
  exact ⟨dx, a, b, c, d, r⟩
theorem LibOff.of {C D : Addr} {H0 H : Hp} {x : Addr} {p : Pt} {o : HO} (h : LibNew C H0 H x p) (e : H0 D = some o) (nx : H0 x = none) : LibOff C D H x p := by
  obtain ⟨dx, a, b, c, d, ⟨n1, n2, n3, n4⟩, r⟩ := h
  exact ⟨(ne_of_none e nx).symm, dx, a, b, c, d, ⟨(ne_of_none e n1).symm, (ne_of_none e n2).symm, (ne_of_none e n3).symm, (ne_of_none e n4).symm⟩, r⟩
theorem LibOff.push {C D : Addr} {H : Hp} {x : Addr} {p : Pt} {o : HO} (h : LibOff C D H x p) : LibOff C D (upd H D o) x p := by
  obtain ⟨nx, dx, a, b, c, d, ⟨n1, n2, n3, n4⟩, h0, h1, h2, h3, h4⟩ := h
  exact ⟨nx, dx, a, b, c, d, ⟨n1, n2, n3, n4⟩, (upd_ne nx).trans h0, (upd_ne n1).trans h1, (upd_ne n2).trans h2, (upd_ne n3).trans h3, (upd_ne n4).trans h4⟩
theorem LibOff.kp {C D S : Addr} {n : Nat} {H H' : Hp} {x : Addr} {p : Pt} (h : LibOff C D H x p) (sp : Spr S n H) (m : Kp S H H') : LibOff C D H' x p := by
  obtain ⟨nx, dx, a, b, c, d, ns, h0, h1, h2, h3, h4⟩ := h
  have xS : x ≠ S := fun z => by
    obtain ⟨i, j, k, e, _⟩ := sp
    rw [z, e] at h0
    cases h0
  exact ⟨nx, dx, a, b, c, d, ns, m _ _ xS h0, m _ _ (strs_ne sp h1) h1, m _ _ (strs_ne sp h2) h2, m _ _ (strs_ne sp h3) h3, m _ _ (strs_ne sp h4) h4⟩
def LibsOff (C D : Addr) (H : Hp) (xs : List V) (ps : List Pt) : Prop := xs.length = ps.length ∧ ∀ (i : Nat) (v : V) (p : Pt), xs[i]? = some v → ps[i]? = some p → ∃ x, v = .ref x ∧ LibOff C D H x p
theorem LibsOff.map {C D : Addr} {H H' : Hp} {xs : List V} {ps : List Pt} (h : LibsOff C D H xs ps) (k : ∀ x p, LibOff C D H x p → LibOff C D H' x p) : LibsOff C D H' xs ps := ⟨h.1, fun i v p a b => by
  obtain ⟨x, e, l⟩ := h.2 i v p a b
  exact ⟨x, e, k x p l⟩⟩
theorem LibsOff.libs {C D : Addr} {H : Hp} {xs : List V} {ps : List Pt} (h : LibsOff C D H xs ps) : Libs C H xs ps := ⟨h.1, fun i v p a b => by
  obtain ⟨x, e, l⟩ := h.2 i v p a b
  exact ⟨x, e, l.at⟩⟩
theorem LibsOff.app {C D : Addr} {H : Hp} {xs : List V} {ps : List Pt} {x : Addr} {p : Pt} (h : LibsOff C D H xs ps) (l : LibOff C D H x p) : LibsOff C D H (xs ++ [.ref x]) (ps ++ [p]) := by
  refine ⟨by simp [h.1], fun k v r a b => ?_⟩
  by_cases c : k < xs.length
  · rw [List.getElem?_append_left c] at a
    rw [List.getElem?_append_left (by rw [← h.1]; exact c)] at b
    exact h.2 k v r a b
  · rw [List.getElem?_append_right (by omega)] at a
    rw [List.getElem?_append_right (by rw [← h.1]; omega), ← h.1] at b
    have k0 : k - xs.length = 0 := by
      cases e : k - xs.length with
      | zero => rfl
      | succ j => rw [e] at a; simp at a
    rw [k0] at a b
    simp at a b
    rw [← a, ← b]
    exact ⟨x, rfl, l⟩
theorem lc_libs {K : PySem.W.Frag} {C S a D : Addr} {ws : List V} {ps : List Pt} {n : Nat} {σ : L2.St} {H1 : Hp} {Qd : Hp → Prop} (h2 : σ[2]? = some (some (.ref S))) (hl : 11 < σ.length) (el : H1 a = some (.lst ws)) (aS : a ≠ S) (pts : Pts (fun b => b ≠ S) H1 ws ps) (gd : ∀ p ∈ ps, Good p) (l6 : ps.length ≤ 6)
    (s1 : Spr S n H1) (room : n + 1000 < most) (nD : H1 D = none) (done : ∀ H' xs, Kp S H1 H' → Spr S (n + 1000) H' → H' D = some (.lst xs) → Libs C H' xs ps → Qd H') :
    ∃ W : Nat → Nat → Hp → Prop, (∃ m, W 0 m (upd H1 D (.lst []))) ∧ ∀ i m H, W i m H →
      ((Itl K a).stop i H ∧ Qd H) ∨ ((Itl K a).go i H ∧ ∃ Nx : Hp → Prop, (∀ H', Nx H' → ∃ m', m' < m ∧ W (i + 1) m' H') ∧ ∀ x H', (Itl K a).yld i H x H' → gName 11 x (wipe σ [11]) H' fun σ2 H2 => wipe σ2 [11] = wipe σ [11] ∧ tYes σ2 H2 fun b H3 =>
        if b = true then tCall (spLibr C) [] E0 (tCons (tVar 2) (tCons (tVar 11) tNil)) σ2 H3 fun y H4 => ∃ acc, H4 D = some (.lst acc) ∧ acc.length < sizeLine ∧ Nx (upd H4 D (.lst (acc ++ [y]))) else Nx H3) := by
  have DS : D ≠ S := s1.ne nD
  refine lc_it (walk_list (K := K) (a := a) (xs := ws)) (fun i H' => Kp S H1 H' ∧ Spr S (n + 100 * i) H' ∧ ∃ xs, H' D = some (.lst xs) ∧ LibsOff C D H' xs (ps.take i)) ⟨(sNew (Same.refl H1) nD).kp, (s1.upd DS), [], upd_same, ⟨rfl, fun k v r x _ => by simp at x⟩⟩ (fun i H' _ z => .of (z.1 _ _ aS el)) ?_ ?_
  · rintro i v H2 H3 hi ⟨k2, s2, xs, eD, lo⟩ ⟨rfl, hv⟩
    obtain ⟨p, hp, pt⟩ := ((pts.map fun v p h => h.kp k2 fun a z => z) : Pts (fun b => b ≠ S) _ ws ps).at hv
    have il : i < ps.length := (List.getElem?_eq_some_iff.mp hp).1
    refine ⟨?_, .ref S, ?_, v, ?_, S, n + 100 * i, v, p, rfl, s2, by omega, pt, gd p (List.mem_of_getElem? hp), fun H4 x k4 s4 lb nx xS => ?_⟩
    · show ((σ.set 11 none).set 11 (some v)).set 11 none = σ.set 11 none
      rw [List.set_set, List.set_set]
    · show ((σ.set 11 none).set 11 (some v))[2]? = some (some (V.ref S))
      rw [List.getElem?_set_ne (by decide), List.getElem?_set_ne (by decide)]
      exact h2
    · show ((σ.set 11 none).set 11 (some v))[11]? = some (some v)
      rw [List.getElem?_set_self (by rw [List.length_set]; exact hl)]
    · have xl : xs.length ≤ 6 := by
        rw [lo.1, List.length_take]
        omega
      have et : ps.take (i + 1) = ps.take i ++ [p] := by rw [List.take_add_one, hp]; rfl
      refine ⟨xs, k4 _ _ DS eD, Nat.lt_of_le_of_lt xl (by decide), (k2.trans k4).own nD, (s4.upd DS).le (by omega), _, upd_same, ?_⟩
      rw [et]
      exact ((lo.map fun y r l => l.kp s2 k4).app (LibOff.of lb eD nx)).map fun y r l => l.push
  · rintro H2 ⟨k2, s2, xs, eD, lo⟩
    have wl : ws.length = ps.length := pts.1
    rw [wl, List.take_of_length_le (Nat.le_refl _)] at lo
    exact done H2 xs k2 (s2.le (by omega)) eD lo.libs
/-! ### bars and truths -/
theorem ref_eq2 {H : Hp} {v u : V} {r : Nat × Str} (h1 : RefAt H v r) (h2 : RefAt H u r) : Eq2 H 1 v u := by
  obtain ⟨a, rfl, ha⟩ := h1
  obtain ⟨b, rfl, hb⟩ := h2
  refine .inr ⟨a, b, _, _, rfl, rfl, .inr ⟨ha, hb⟩, rfl, by show 2 ≤ 1000; decide, fun i v w e1 e2 => ?_⟩
  match i, e1, e2 with
  | 0, e1, e2 => cases e1; cases e2; exact ⟨rfl, rfl⟩
  | 1, e1, e2 => cases e1; cases e2; exact ⟨rfl, rfl⟩
  | (_ + 2), e1, e2 => cases e1
theorem bar_eq2 {H : Hp} {v u : V} {B : Bar} (h1 : BarAt H v B) (h2 : BarAt H u B) : Eq2 H 2 v u := by
  cases h1 with
  | none =>
    cases h2
    exact .inl ⟨rfl, rfl⟩
  | @two a r ha =>
    cases h2 with
    | @two b _ hb =>
      refine .inr ⟨a, b, _, _, rfl, rfl, .inr ⟨ha, hb⟩, rfl, by show 3 ≤ 1000; decide, fun i v w e1 e2 => ?_⟩
      match i, e1, e2 with
      | 0, e1, e2 => cases e1; cases e2; exact .inl ⟨rfl, rfl⟩
      | 1, e1, e2 => cases e1; cases e2; exact .inl ⟨rfl, rfl⟩
      | 2, e1, e2 => cases e1; cases e2; exact .inl ⟨rfl, rfl⟩
      | (_ + 3), e1, e2 => cases e1
  | @mixed a va ua r s ha r1 s1 =>
    cases h2 with
    | @mixed b vb ub _ _ hb r2 s2 =>
      refine .inr ⟨a, b, _, _, rfl, rfl, .inr ⟨ha, hb⟩, rfl, by show 3 ≤ 1000; decide, fun i v w e1 e2 => ?_⟩
      match i, e1, e2 with
      | 0, e1, e2 => cases e1; cases e2; exact .inl ⟨rfl, rfl⟩
      | 1, e1, e2 => cases e1; cases e2; exact ref_eq2 r1 r2
      | 2, e1, e2 => cases e1; cases e2; exact ref_eq2 s1 s2
      | (_ + 3), e1, e2 => cases e1
theorem BarAt.same {H H' : Hp} {v : V} {B : Bar} (h : BarAt H v B) (m : Same H H') : BarAt H' v B := by
  cases h with
  | none => exact .none
  | two h => exact .two (m _ _ h)
  | mixed h h1 h2 =>
    obtain ⟨a, rfl, ha⟩ := h1
    obtain ⟨b, rfl, hb⟩ := h2
    exact .mixed (m _ _ h) ⟨a, rfl, m _ _ ha⟩ ⟨b, rfl, m _ _ hb⟩
theorem bar_non {H : Hp} {v : V} {B : Bar} (h : BarAt H v B) (b : B ≠ .none) : decide (v = V.non) = false := by
  cases h with
  | none => exact absurd rfl b
  | two h => rfl
  | mixed h _ _ => rfl
def two : List Bool := [true, false]
theorem truths_eq {K : PySem.W.Frag} {H : Hp} {a b : Addr} {f : Bool → Bool} {Q : VK} (ha : H a = some (.lst ((two.filter f).map V.bl))) (hb : H b = some (.lst [])) (q : Q (.bl (!(f true || f false))) H) : rEqD K (.ref a) (.ref b) H Q := by
  unfold two at ha
  cases h1 : f true <;> cases h2 : f false <;> simp only [List.filter, h1, h2, List.map] at ha <;> rw [h1, h2] at q
  · exact ⟨.list [], .list [], .lst (.of ha) .nil, .lst (.of hb) .nil, by decide, by decide, q⟩
  · exact ⟨.list [.bool false], .list [], .lst (.of ha) (.cons (.bl _) .nil), .lst (.of hb) .nil, by decide, by decide, q⟩
  · exact ⟨.list [.bool true], .list [], .lst (.of ha) (.cons (.bl _) .nil), .lst (.of hb) .nil, by decide, by decide, q⟩
  · exact ⟨.list [.bool true, .bool false], .list [], .lst (.of ha) (.cons (.bl _) (.cons (.bl _) .nil)), .lst (.of hb) .nil, by decide, by decide, q⟩
theorem names_ne {K : PySem.W.Frag} {H : Hp} {a b : Addr} {ns : List Str} {Q : VK} (hw : ∀ x ∈ ns, x ∈ words) (ha : H a = some (.lst (ns.map V.str))) (hb : H b = some (.lst [])) (q : Q (.bl (!ns.isEmpty)) H) : rNeD K (.ref a) (.ref b) H Q := by
  refine ⟨_, _, .lst (.of ha) (dpStrs ns), .lst (.of hb) .nil, shaped_strs ns hw, shaped_strs [] (fun r h => nomatch h), ?_⟩
  have e : (!PyData.eqv (.list (ns.map PyData.str)) (.list [])) = !ns.isEmpty := by
    cases ns with
    | nil => simp [PyData.eqv, PyData.eqvAll]
    | cons r l => simp [PyData.eqv, PyData.eqvAll]
  rw [e]
  exact q
/-- the names of own references, as the law gathers them -/
def ownNames (ps : List Pt) : List Str := ps.flatMap fun p => (p.wants ++ p.asks).filter (owns p)
theorem own_names {ps : List Pt} (g : ∀ p ∈ ps, Good p) : (!(ownNames ps).isEmpty) = (mergedOf ps).own := by
  rw [Bool.eq_iff_iff, own_merged]
  constructor
  · intro h
    have ne : ownNames ps ≠ [] := fun z => by rw [z] at h; cases h
    obtain ⟨n, hn⟩ := List.exists_mem_of_ne_nil _ ne
    obtain ⟨p, hp, hx⟩ := List.mem_flatMap.mp hn
    obtain ⟨h1, h2⟩ := List.mem_filter.mp hx
    obtain ⟨i, hi⟩ := List.getElem?_of_mem hp
    exact ⟨(i, n), ref_in g hi (decide_eq_true h1), by rw [own_ref g hi]; exact h2⟩
  · rintro ⟨r, hr, ho⟩
    obtain ⟨p, hp, rf⟩ := ref_out g hr
    have ow : owns p r.2 = true := by rw [← own_ref g hp]; exact ho
    have m : r.2 ∈ ownNames ps := List.mem_flatMap.mpr ⟨p, List.mem_of_getElem? hp, List.mem_filter.mpr ⟨of_decide_eq_true rf, ow⟩⟩
    cases e : ownNames ps with
    | nil => rw [e] at m; cases m
    | cons x l => rfl
theorem own_words {ps : List Pt} (g : ∀ p ∈ ps, Good p) : ∀ x ∈ ownNames ps, x ∈ words := fun x hx => by
  obtain ⟨p, hp, h⟩ := List.mem_flatMap.mp hx
  exact (List.mem_append.mp (List.mem_filter.mp h).1).elim (fun z => n4_words x ((g p hp).wants x z)) fun z => n4_words x ((g p hp).asks x z)
theorem truths_in {f : Bool → Bool} {b : Bool} (h : f b = true) : inV (.bl b) ((two.filter f).map V.bl) = true := by
  unfold two
  cases b <;> cases h1 : f true <;> cases h2 : f false <;> simp only [List.filter, h1, h2, List.map] <;> first | rfl | (rw [h] at h2; cases h2) | (rw [h] at h1; cases h1)
theorem truths_flat (l : List Bool) : (l.map V.bl).all flatV = true := by
  rw [List.all_eq_true]
  intro v hv
  obtain ⟨y, _, rfl⟩ := List.mem_map.mp hv
  rfl
theorem lc_does {K : PySem.W.Frag} {Nw : Addr → Prop} {a tp D : Addr} {ws : List V} {ps : List Pt} {σ : L2.St} {H1 : Hp} {Qd : Hp → Prop} (h3 : σ[3]? = some (some (.ref a))) (hl : 12 < σ.length) (el : H1 a = some (.lst ws)) (pts : Pts Nw H1 ws ps) (gd : ∀ p ∈ ps, Good p) (l7 : ps.length ≤ 7)
    (et : H1 tp = some (.tup [.bl true, .bl false])) (nD : H1 D = none) (done : ∀ H', Same H1 H' → H' D = some (.lst ((two.filter (standsFor ps)).map V.bl)) → Qd H') :
    ∃ W : Nat → Nat → Hp → Prop, (∃ m, W 0 m (upd H1 D (.lst []))) ∧ ∀ i m H, W i m H →
      ((Itt K tp).stop i H ∧ Qd H) ∨ ((Itt K tp).go i H ∧ ∃ Nx : Hp → Prop, (∀ H', Nx H' → ∃ m', m' < m ∧ W (i + 1) m' H') ∧ ∀ x H', (Itt K tp).yld i H x H' → gName 12 x (wipe σ [12]) H' fun σ2 H2 => wipe σ2 [12] = wipe σ [12] ∧ tB (tCall spSta2 [] E0 (tCons (tVar 3) (tCons (tVar 12) tNil))) σ2 H2 fun b H3 =>
        if b = true then tVar 12 σ2 H3 fun y H4 => ∃ acc, H4 D = some (.lst acc) ∧ acc.length < sizeLine ∧ Nx (upd H4 D (.lst (acc ++ [y]))) else Nx H3) := by
  refine lc_tup (K := K) (a := tp) (xs := two.map V.bl) (fun i H' => Same H1 H' ∧ H' D = some (.lst (((two.take i).filter (standsFor ps)).map V.bl))) ⟨sNew (Same.refl H1) nD, upd_same⟩ (fun i H' _ z => .of (z.1 _ _ et)) ?_ ?_
  · rintro i v H2 hi ⟨m2, eD⟩
    obtain ⟨b, hb, rfl⟩ := map_at hi
    have il : i < two.length := (List.getElem?_eq_some_iff.mp hb).1
    have il2 : i < 2 := il
    refine ⟨?_, .ref a, ?_, .bl b, ?_, Nw, a, b, ws, ps, rfl, m2 _ _ el, pts.map fun v p h => h.same m2, l7, gd, fun H4 m4 => ⟨_, rfl, ?_⟩⟩
    · show ((σ.set 12 none).set 12 (some (V.bl b))).set 12 none = σ.set 12 none
      rw [List.set_set, List.set_set]
    · show ((σ.set 12 none).set 12 (some (V.bl b)))[3]? = some (some (V.ref a))
      rw [List.getElem?_set_ne (by decide), List.getElem?_set_ne (by decide)]
      exact h3
    · show ((σ.set 12 none).set 12 (some (V.bl b)))[12]? = some (some (V.bl b))
      rw [List.getElem?_set_self (by rw [List.length_set]; exact hl)]
    · refine ite2 (fun c => ?_) (fun c => ?_)
      · refine ⟨.bl b, ?_, _, m4 _ _ eD, ?_, sOwn' (m2.trans m4) nD, ?_⟩
        · show ((σ.set 12 none).set 12 (some (V.bl b)))[12]? = some (some (V.bl b))
          rw [List.getElem?_set_self (by rw [List.length_set]; exact hl)]
        · rw [List.length_map]
          have := List.length_filter_le (standsFor ps) (two.take i)
          rw [List.length_take] at this
          exact Nat.lt_of_le_of_lt (show _ ≤ 2 by omega) (by decide)
        · rw [upd_same, filter_step _ hb, if_pos c, List.map_append]
          rfl
      · refine ⟨m2.trans m4, ?_⟩
        rw [filter_step _ hb, if_neg c, List.append_nil]
        exact m4 _ _ eD
  · rintro H2 ⟨m2, eD⟩
    exact done H2 m2 eD
end K30
set_option Elab.async false
set_option linter.all false
set_option maxRecDepth 100000
set_option maxHeartbeats 4000000
namespace K30
open PySem PySem.Spec PyProof.Rows L2
def nLaw : List Str := ["script", "turn", "spring", "parts", "libraries", "twin", "told", "barred", "due", "does", "names", "part", "is_own", "name"]
def spLaw (K : PySem.W.Frag) : Sp := fun vs H Q _ => ∃ (a : Addr) (ns : List Int), vs = [.ref a] ∧ SqL K H a (ns.map V.int) ∧ ns.length ≤ 63 ∧ ∀ H', Q (.bl true) H'
theorem same_past {S : Addr} {H Hs H' : Hp} (m : Same H Hs) (n : H S = none) (k : Kp S Hs H') : Same H H' := fun b o e => k b o (ne_of_none e n) (m b o e)
def twinR (C : Addr) : Addr → Addr → Hp → Prop := fun a b H => ∃ p, PtOk p ∧ LibAt C H a p ∧ LibAt C H b p
section
variable {P : Program} {w : World} {K : PySem.W.Frag} {mg : Str → Option Value} {base : Heap} {C : Addr}
theorem scLaw : FnScope nLaw ["script"] (defScope sLaw) := ⟨rfl, rfl, rfl, by decide +kernel, rfl, by decide +kernel, by decide +kernel⟩
theorem ok_law {f : Addr} {fd : FuncData} (F : Fun K "law" "law" sLaw f fd) (T : Txt K mg C) (L : Lib P w K mg base C) (c0 : Cal P w K mg base 1 "_law_spring" ["script", "k"] (spSpr K)) (c1 : Cal P w K mg base 4 "_law_several" ["spring"] spSev)
    (c2 : Cal P w K mg base 8 "_law_library" ["spring", "part"] (spLibr C)) (c3 : Cal P w K mg base 2 "_law_shown" ["spring", "things"] spSho) (c4 : Cal P w K mg base 8 "merged" ["libraries"] (spMer C)) (c5 : Cal P w K mg base 3 "bar" ["libraries"] (spBar C))
    (c6 : Cal P w K mg base 2 "_law_bar_due" ["parts"] spDue) (c7 : Cal P w K mg base 3 "_law_stands_for" ["parts", "is_own"] spSta2) (c8 : Cal P w K mg base 3 "_law_same" ["found", "due"] (spSam 2)) (c9 : Cal P w K mg base 1 "_law_own" ["part", "name"] spOwn2)
    (c10 : Cal P w K mg base 4 "_law_right" ["parts", "told", "is_own"] (spRig C)) : FnOk P w K mg base CX0 9 f fd ["script"] (spLaw K) := by
  obtain ⟨f0, d0, G0, g0, k0, b0⟩ := c0.ex
  obtain ⟨f1, d1, G1, g1, k1, b1⟩ := c1.ex
  obtain ⟨f2, d2, G2, g2, k2, b2⟩ := c2.ex
  obtain ⟨f3, d3, G3, g3, k3, b3⟩ := c3.ex
  obtain ⟨f4, d4, G4, g4, k4, b4⟩ := c4.ex
  obtain ⟨f5, d5, G5, g5, k5, b5⟩ := c5.ex
  obtain ⟨f6, d6, G6, g6, k6, b6⟩ := c6.ex
  obtain ⟨f7, d7, G7, g7, k7, b7⟩ := c7.ex
  obtain ⟨f8, d8, G8, g8, k8, b8⟩ := c8.ex
  obtain ⟨f9, d9, G9, g9, k9, b9⟩ := c9.ex
  obtain ⟨fr, dr, GR, gr, kr, br⟩ := c10.ex
  obtain ⟨fe, de, eN, GE, bE⟩ := L.eq
  refine F.ok scLaw (fun vs H Q E h => ?_) (fun cdv A outer s H vs Q E hr h => ?_)
  · obtain ⟨a, ns, rfl, _⟩ := h
    rfl
  · obtain ⟨a, ns, rfl, hS, hl, q⟩ := h
    have hr1 : Room 1 _ := hr.mono (by decide)
    have hr2 : Room 2 _ := hr.mono (by decide)
    have hr3 : Room 3 _ := hr.mono (by decide)
    have hr4 : Room 4 _ := hr.mono (by decide)
    refine ⟨_, pss_cons (ps_for PassesOwn.never rfl (pi_range1 (by rfl) T.rng (pa_cons pe_int pa_nil)) (pg_name (i := 1) scLaw.nd rfl (.inl rfl))
        (pss_cons (ps_set (i := 2) scLaw.nd rfl (.inr rfl) (pe_call G0 hr1 rfl g0 k0 b0 .nil pass0 (pa_cons (pv 0) (pa_cons (pv 1) pa_nil))))
        (pss_cons (ps_set (i := 3) scLaw.nd rfl (.inr rfl) (pe_call G1 hr4 rfl g1 k1 b1 .nil pass0 (pa_cons (pv 2) pa_nil)))
        (pss_cons (ps_setLc (i := 4) (own := [("part", 11)]) (g := gName 11) (tt := tYes) (te := tCall (spLibr C) [] E0 (tCons (tVar 2) (tCons (tVar 11) tNil))) rfl scLaw.nd rfl rfl (sw_true rfl rfl rfl (by decide +kernel)) (pi_list (pv 3)) (blkOk_by (N := nLaw) (sc := defScope sLaw) (by decide +kernel))
          (fun _ _ _ _ _ => pg_name (i := 11) scLaw.nd rfl (.inl rfl)) (fun _ _ _ _ _ => pts_nil) (fun _ _ _ _ _ => by exact pe_call G2 hr rfl g2 k2 b2 .nil pass0 (pa_cons (pv 2) (pa_cons (pv 11) pa_nil))))
        (pss_cons (ps_setLc (i := 5) (own := [("part", 11)]) (g := gName 11) (tt := tYes) (te := tCall (spLibr C) [] E0 (tCons (tVar 2) (tCons (tVar 11) tNil))) rfl scLaw.nd rfl rfl (sw_true rfl rfl rfl (by decide +kernel)) (pi_list (pv 3)) (blkOk_by (N := nLaw) (sc := defScope sLaw) (by decide +kernel))
          (fun _ _ _ _ _ => pg_name (i := 11) scLaw.nd rfl (.inl rfl)) (fun _ _ _ _ _ => pts_nil) (fun _ _ _ _ _ => by exact pe_call G2 hr rfl g2 k2 b2 .nil pass0 (pa_cons (pv 2) (pa_cons (pv 11) pa_nil))))
        (pss_cons (ps_par3 (i := 6) (j := 7) (l := 8) rfl scLaw.nd rfl rfl rfl (by decide) (by decide) (by decide) rfl rfl rfl (pa_cons (pe_call G4 hr rfl g4 k4 b4 .nil pass0 (pa_cons (pe_call G3 hr2 rfl g3 k3 b3 .nil pass0 (pa_cons (pv 2) (pa_cons (pv 4) pa_nil))) pa_nil))
          (pa_cons (pe_call G5 hr3 rfl g5 k5 b5 .nil pass0 (pa_cons (pv 4) pa_nil)) (pa_cons (pe_call G6 hr2 rfl g6 k6 b6 .nil pass0 (pa_cons (pv 3) pa_nil)) pa_nil))) (by rfl))
        (pss_cons (ps_setLc (i := 9) (own := [("is_own", 12)]) (g := gName 12) (tt := tB (tCall spSta2 [] E0 (tCons (tVar 3) (tCons (tVar 12) tNil)))) (te := tVar 12) rfl scLaw.nd rfl rfl (sw_true rfl rfl rfl (by decide +kernel)) (pi_tup (pe_tup (pa_cons pe_bl (pa_cons pe_bl pa_nil)))) (blkOk_by (N := nLaw) (sc := defScope sLaw) (by decide +kernel))
          (fun _ _ _ _ _ => pg_name (i := 12) scLaw.nd rfl (.inl rfl)) (fun _ _ _ _ _ => by exact pts_one (pt_val (pe_call G7 hr3 rfl g7 k7 b7 .nil pass0 (pa_cons (pv 3) (pa_cons (pv 12) pa_nil))))) (fun _ _ _ _ _ => pv 12))
        (pss_cons (ps_if (PW.pt (pw_or (pt_cmpR op_ne (pe_cmpR op_isN (pv 6) pe_non (nomark _)) (pe_cmpR (op_eqD hr.units) (pv 9) (pe_lst pa_nil) (nomark _)) (nomark _)) (pw_or (pt_not (pt_val (pe_call G8 hr3 rfl g8 k8 b8 .nil pass0 (pa_cons (pv 7) (pa_cons (pv 8) pa_nil)))))
          (pw_or1 (pt_cmpR op_ne (pe_cmpR op_isN (pv 8) pe_non (nomark _)) (pe_cmpR op_notN (pv 6) pe_non (nomark _)) (nomark _)))))) pss_never pss_nil)
        (pss_cons (ps_if (PW.pt (pw_or (pt_cmpR (op_neIns (C := C) (R := twinR C) GE eN bE pass0 hr2) (pe_call G4 hr rfl g4 k4 b4 .nil pass0 (pa_cons (pe_callTy call_tuple_of (by rfl) T.tup boot_tuple' (pa_cons (pv 5) pa_nil)) pa_nil)) (pv 6) (nomark _))
          (pw_or1 (pt_cmpR (op_neLs (D := DIns C (twinR C)) (mon_ins (fun a b H H' e h => by obtain ⟨p, k, h1, h2⟩ := h; exact ⟨p, k, h1.same e, h2.same e⟩)) (eqG_ins GE eN.eq eN.fn bE pass0) hr2) (pv 4) (pv 5) (nomark _))))) pss_never pss_nil)
        (pss_one (ps_if (pt_cmpR op_notN (pv 6) pe_non (nomark _))
          (pss_cons (ps_set (i := 10) scLaw.nd rfl (.inl rfl) (pe_lst pa_nil))
          (pss_cons (ps_for PassesOwn.never rfl (pi_list (pv 3)) (pg_name (i := 11) scLaw.nd rfl (.inr rfl))
            (pss_one (ps_expr (pe_bm PySem.F.plainAttrs_list PySem.F.slot_list_extend PySem.F.type_list_extend mt_extend (pv 10) (pa_cons (pe_lc (own := [("name", 13)]) (g := gName 13) (tt := tB (tCall spOwn2 [] E0 (tCons (tVar 11) (tCons (tVar 13) tNil)))) (te := tVar 13) rfl scLaw.nd (pi_list (pe_op op_cat (pe_ix ix_tup (pv 11) pe_int (fun _ _ => rfl)) (pe_ix ix_tup (pv 11) pe_int (fun _ _ => rfl)))) (blkOk_by (N := nLaw) (sc := defScope sLaw) (by decide +kernel))
              (fun _ _ _ _ _ => pg_name (i := 13) scLaw.nd rfl (.inl rfl)) (fun _ _ _ _ _ => by exact pts_one (pt_val (pe_call G9 hr1 rfl g9 k9 b9 .nil pass0 (pa_cons (pv 11) (pa_cons (pv 13) pa_nil))))) (fun _ _ _ _ _ => pv 13)) pa_nil)))))
          (pss_one (ps_if (PW.pt (pw_or (pt_cmpR op_notIn_seq (pe_cmpR (op_neD hr.units) (pv 10) (pe_lst pa_nil) (nomark _)) (pv 9) (by rfl)) (pw_or1 (pt_not (pt_val (pe_call GR hr4 rfl gr kr br .nil pass0 (pa_cons (pv 3) (pa_cons (pv 6) (pa_cons (pe_cmpR (op_neD hr.units) (pv 10) (pe_lst pa_nil) (nomark _)) pa_nil))))))))) pss_never pss_nil))))
          pss_nil)))))))))))
      (pss_one (ps_ret pe_bl)), ?_⟩
    refine ⟨5, rfl, by decide, by decide, for_range (lo := 0) (n := 5) (fun i σ H' => Same H H' ∧ ∃ u1 u2 u3 u4 u5 u6 u7 u8 u9 u10 u11, σ = [some (.ref a), u1, u2, u3, u4, u5, u6, u7, u8, u9, u10, u11, none, none]) ⟨Same.refl H, none, none, none, none, none, none, none, none, none, none, none, rfl⟩ ?_ ?_⟩
    · rintro i σ H1 hi ⟨m1, u1, u2, u3, u4, u5, u6, u7, u8, u9, u10, u11, rfl⟩
      rw [Int.zero_add]
      refine ⟨_, rfl, _, rfl, a, ns, i, rfl, m1.seq hS, by omega, by omega, fun H2 S m2 nS s2 => ?_⟩
      have nS0 : H S = none := Same.free m1 nS
      have m12 := m1.trans m2
      refine ⟨_, rfl, S, 0, rfl, s2, by decide, fun H3 l ws ps k3 s3 lS el pts gd pne l6 => ?_⟩
      have pk : ∀ p ∈ ps, PtOk p := fun p hp => (gd p hp).ok
      refine ⟨_, rfl, l, rfl, ⟨_, .of el⟩, fun D nD => ?_⟩
      have DS := s3.ne nD
      refine lc_libs (K := K) (C := C) (S := S) (a := l) (n := 0 + 1000) rfl (by show 11 < 14; decide) el lS pts gd l6 s3 (by decide) nD fun H4 xs k4 s4 eD lb => ?_
      have el4 := k4 _ _ lS el
      have pts4 : Pts (fun b => b ≠ S) H4 ws ps := pts.map fun v p h => h.kp k4 fun a z => z
      refine ⟨_, rfl, l, rfl, ⟨_, .of el4⟩, fun D2 nD2 => ?_⟩
      have D2S := s4.ne nD2
      refine lc_libs (K := K) (C := C) (S := S) (a := l) (n := 0 + 1000 + 1000) rfl (by show 11 < 14; decide) el4 lS pts4 gd l6 s4 (by decide) nD2 fun H5 ys k5 s5 eD2 lb2 => ?_
      have el5 := k5 _ _ lS el4
      have pts5 : Pts (fun b => b ≠ S) H5 ws ps := pts4.map fun v p h => h.kp k5 fun a z => z
      have eD5 := k5 _ _ DS eD
      have lb5 : Libs C H5 xs ps := ⟨lb.1, fun i v p a b => by
        obtain ⟨x, e, z⟩ := lb.2 i v p a b
        exact ⟨x, e, z.kpS s4 k5⟩⟩
      have xl : xs.length ≤ 6 := by rw [lb.1]; exact l6
      refine ⟨_, rfl, _, rfl, S, D, 0 + 1000 + 1000 + 1000, xs, rfl, s5, by decide, DS, .inl eD5, by omega, fun H6 po k6 s6 poS por eo => ?_⟩
      have lb6 : Libs C H6 xs ps := ⟨lb5.1, fun i v p a b => by
        obtain ⟨x, e, z⟩ := lb5.2 i v p a b
        exact ⟨x, e, z.kpS s5 k6⟩⟩
      have el6 := k6 _ _ lS el5
      have pts6 : Pts (fun b => b ≠ S) H6 ws ps := pts5.map fun v p h => h.kp k6 fun a z => z
      have eD6 := k6 _ _ DS eD5
      have eE6 := k6 _ _ D2S eD2
      have lc6 : Libs C H6 ys ps := ⟨lb2.1, fun i v p a b => by
        obtain ⟨x, e, z⟩ := lb2.2 i v p a b
        exact ⟨x, e, z.kpS s5 k6⟩⟩
      have kk : Kp S H2 H6 := ((k3.trans k4).trans k5).trans k6
      have fin : ∀ H', Same H6 H' → Same H H' := fun H' m => same_past m12 nS0 (kk.trans m.kp)
      have gvn : Given C H6 po ps := ⟨xs, eo, lb6, pk, by omega⟩
      have gvD : ∀ H', Same H6 H' → Given C H' D ps := fun H' m => ⟨xs, .inl (m _ _ eD6), lb6.same m, pk, by omega⟩
      have ptsAt : ∀ H', Same H6 H' → Pts (fun b => b ≠ S) H' ws ps := fun H' m => pts6.map fun v p h => h.same m
      have l7 : ps.length ≤ 7 := by omega
      -- the lists of libraries are equal
      have twins : ∀ H', Same H6 H' → DList (DIns C (twinR C)) (.ref D) (.ref D2) H' := fun H' m => by
        refine ⟨D, D2, xs, ys, rfl, rfl, m _ _ eD6, m _ _ eE6, by rw [lb6.1, lc6.1], fun i v u h1 h2 => ?_⟩
        obtain ⟨p, x, hp, rfl, z⟩ := lb6.at h1
        obtain ⟨p', y, hp', rfl, z'⟩ := lc6.at h2
        rw [hp] at hp'
        cases hp'
        obtain ⟨dx, fs, e0, _⟩ := z.ins
        obtain ⟨dy, gs, e1, _⟩ := z'.ins
        exact ⟨x, y, dx, dy, fs, gs, rfl, rfl, m _ _ e0, m _ _ e1, p, pk p (List.mem_of_getElem? hp), z.same m, z'.same m⟩
      by_cases hb : barOf ps = .none
      · refine ⟨po, ps, rfl, gvn, pne, .inr ⟨hb, fun H7 x m7 nx lx => ?_⟩⟩
        refine ⟨_, rfl, D, ps, rfl, gvD H7 m7, pne, fun H8 v8 m8 bv8 => ?_⟩
        have m68 := m7.trans m8
        refine ⟨_, rfl, (fun b => b ≠ S), l, ws, ps, rfl, m68 _ _ el6, ptsAt H8 m68, l7, gd, fun H9 v9 m9 bv9 => ?_⟩
        have m69 := m68.trans m9
        refine ⟨_, _, _, rfl, ?_⟩
        rw [hb] at bv8 bv9
        cases bv8
        cases bv9
        refine ⟨by show 2 ≤ sizeLine; decide, fun tp ntp => ⟨tp, rfl, ⟨_, .of upd_same⟩, fun D3 nD3 => ?_⟩⟩
        have mt := sNew (o := .tup [.bl true, .bl false]) m69 ntp
        refine lc_does (K := K) (a := l) (Nw := fun b => b ≠ S) rfl (by show 12 < 14; decide) (mt _ _ el6) (ptsAt _ mt) gd l7 upd_same nD3 fun Ha ma eT => ?_
        have m6a := mt.trans ma
        have lxa : LibAt C Ha x (mergedOf ps) := lx.same (((m8.trans m9).trans (sNew (Same.refl _) ntp)).trans ma)
        have st := stands_ok gd hb
        have st2 : (standsFor ps true || standsFor ps false) = true := by
          cases e : (mergedOf ps).own <;> rw [e] at st <;> rw [st] <;> simp
        refine ⟨_, rfl, rfl, _, rfl, Nat.zero_le _, fun z1 nz1 => ?_⟩
        have mz := sNew (o := .lst []) (Same.refl Ha) nz1
        refine truths_eq (f := standsFor ps) (mz _ _ eT) upd_same ⟨rfl, _, rfl, ?_⟩
        rw [bl_ne, st2]
        refine iteF ?_
        refine ⟨_, rfl, _, rfl, .non, .non, rfl, .inl ⟨rfl, rfl⟩, fun Hb mb => ⟨_, rfl, iteF ?_⟩⟩
        have m6b := (m6a.trans mz).trans mb
        have lxb := lxa.same (mz.trans mb)
        refine ⟨_, rfl, rfl, _, rfl, rfl, rfl, _, rfl, iteF ?_⟩
        refine ⟨_, rfl, D2, ys, rfl, .inl ⟨.of (m6b _ _ eE6), fun tw ntw => ?_⟩⟩
        have mw := sNew (o := .tup ys) (Same.refl Hb) ntw
        refine ⟨tw, ps, rfl, ⟨ys, .inr upd_same, (lc6.same (m6b.trans mw)), pk, l7⟩, pne, .inr ⟨hb, fun Hc x2 mc nx2 lx2 => ?_⟩⟩
        have m6c := (m6b.trans mw).trans mc
        have lxc := lxb.same (mw.trans mc)
        obtain ⟨dx, fs, e0, no⟩ := lxc.ins
        obtain ⟨dy, gs, e1, no1⟩ := lx2.ins
        refine ⟨_, rfl, .inr ⟨⟨x2, x, dy, dx, gs, fs, rfl, rfl, e1, e0, mergedOf ps, merged_ok pk, lx2, lxc⟩, fun Hd ed => ⟨_, rfl, iteF ?_⟩⟩⟩
        have md : Same Hc Hd := ed
        have m6d := m6c.trans md
        refine ⟨_, rfl, _, rfl, twins Hd m6d, fun He ee => ⟨_, rfl, iteF ?_⟩⟩
        have me : Same Hd He := ee
        have m6e := m6d.trans me
        have lxe := lxc.same (md.trans me)
        have eTe : He D3 = some (.lst ((two.filter (standsFor ps)).map V.bl)) := (((((mz.trans mb).trans mw).trans mc).trans md).trans me) _ _ eT
        refine ⟨_, rfl, rfl, _, rfl, iteT ?_⟩
        refine ⟨Nat.zero_le _, fun nm nnm => ?_⟩
        have zn : H6 nm = none := Same.free m6e nnm
        have m6f := sNew (o := .lst []) m6e nnm
        refine ⟨_, rfl, l, rfl, ⟨_, .of (m6f _ _ el6)⟩, ?_⟩
        refine for_list (K := K) (a := l) (xs := ws) (fun j σ H' => Same He H' ∧ H' nm = some (.lst ((ownNames (ps.take j)).map V.str)) ∧ ∃ u11, σ = [some (.ref a), some (.int (i : Nat)), some (.ref S), some (.ref l), some (.ref D), some (.ref D2), some (.ref x), some .non, some .non, some (.ref D3), some (.ref nm), u11, none, none]) ⟨sNew (Same.refl He) nnm, upd_same, _, rfl⟩ (fun j σ H' _ z => .of (z.1 _ _ (m6e _ _ el6))) ?_ ?_
        · rintro j v σ Hf hj ⟨mf, en, u11', rfl⟩
          have m6g := m6e.trans mf
          obtain ⟨p, hp, pt0⟩ := (ptsAt Hf m6g).at hj
          have ptt := pt0
          obtain ⟨t, A, B, C', D', rfl, _, h0, hA, hB, hC, hD⟩ := pt0
          have jl : j < ps.length := (List.getElem?_eq_some_iff.mp hp).1
          have gp := gd p (List.mem_of_getElem? hp)
          have w1 := gp.ok.wants.len
          have w2 := gp.ok.asks.len
          have sz : (p.wants.map V.str).length + (p.asks.map V.str).length ≤ sizeLine := by
            rw [List.length_map, List.length_map]
            exact Nat.le_trans (show _ ≤ 14 by omega) (by decide)
          have ln : (ownNames (ps.take j)).length ≤ 14 * 7 := by
            have : ∀ qs : List Pt, (∀ q ∈ qs, Good q) → (ownNames qs).length ≤ 14 * qs.length := by
              intro qs
              induction qs with
              | nil => intro _; exact Nat.le_refl _
              | cons q r ih =>
                intro h
                have h1 := ih fun y hy => h y (List.mem_cons_of_mem _ hy)
                have h2 := List.length_filter_le (owns q) (q.wants ++ q.asks)
                have h3 := (h q List.mem_cons_self).ok.wants.len
                have h4 := (h q List.mem_cons_self).ok.asks.len
                rw [List.length_append] at h2
                have e : (ownNames (q :: r)).length = ((q.wants ++ q.asks).filter (owns q)).length + (ownNames r).length := by
                  unfold ownNames
                  rw [List.flatMap_cons, List.length_append]
                rw [e, List.length_cons]
                omega
            have := this (ps.take j) fun q hq => gd q (List.mem_of_mem_take hq)
            rw [List.length_take] at this
            omega
          refine ⟨_, rfl, .inl ⟨rfl, _, .of en⟩, _, rfl, t, _, _, _, rfl, rfl, .of h0, atI_nat (j := 1) rfl, _, rfl, t, _, _, _, rfl, rfl, .of h0, atI_nat (j := 2) rfl, B, C', _, _, rfl, rfl, hB, hC, sz, fun w3 nw3 => ⟨w3, rfl, ⟨_, .of upd_same⟩, fun Dn nDn => ?_⟩⟩
          have mw3 := sNew (o := .lst (p.wants.map V.str ++ p.asks.map V.str)) (Same.refl Hf) nw3
          have ew3 : (upd Hf w3 (.lst (p.wants.map V.str ++ p.asks.map V.str))) w3 = some (.lst ((p.wants ++ p.asks).map V.str)) := by rw [upd_same, List.map_append]
          generalize upd Hf w3 (.lst (p.wants.map V.str ++ p.asks.map V.str)) = Hg at mw3 ew3 nDn
          refine lc_list (K := K) (a := w3) (xs := (p.wants ++ p.asks).map V.str) (fun k H' => Same Hg H' ∧ H' Dn = some (.lst ((((p.wants ++ p.asks).take k).filter (owns p)).map V.str))) ⟨sNew (Same.refl Hg) nDn, upd_same⟩ (fun k H' _ z => .of (z.1 _ _ ew3)) ?_ ?_
          · rintro k v Hh hk ⟨mh, eDn⟩
            obtain ⟨y, hy, rfl⟩ := map_at hk
            have kl : k < (p.wants ++ p.asks).length := (List.getElem?_eq_some_iff.mp hy).1
            rw [List.length_append] at kl
            refine ⟨rfl, _, rfl, _, rfl, (fun b => b ≠ S), .ref t, y, p, rfl, ptt.same (mw3.trans mh), _, rfl, ?_⟩
            refine ite2 (fun c => ?_) (fun c => ?_)
            · have c' : owns p y = true := c
              refine ⟨_, rfl, _, eDn, ?_, sOwn' mh nDn, ?_⟩
              · rw [List.length_map]
                have := List.length_filter_le (owns p) ((p.wants ++ p.asks).take k)
                rw [List.length_take] at this
                exact Nat.lt_of_le_of_lt (show _ ≤ 14 by omega) (by decide)
              · rw [upd_same, filter_step _ hy, if_pos c', List.map_append]
                rfl
            · have c' : ¬ owns p y = true := c
              refine ⟨mh, ?_⟩
              rw [filter_step _ hy, if_neg c', List.append_nil]
              exact eDn
          · rintro Hh ⟨mh, eDn⟩
            rw [List.length_map, List.take_of_length_le (Nat.le_refl _)] at eDn
            have mfh := mw3.trans mh
            refine ⟨nm, Dn, _, _, rfl, rfl, mfh _ _ en, eDn, ?_, ?_, ?_, _, rfl⟩
            · rw [List.length_map, List.length_map]
              have := List.length_filter_le (owns p) (p.wants ++ p.asks)
              rw [List.length_append] at this
              exact Nat.le_trans (show _ ≤ 112 by omega) (by decide)
            · exact sOwn' (mf.trans mfh) nnm
            · rw [upd_same, show ownNames (ps.take (j + 1)) = ownNames (ps.take j) ++ _ from flat_snoc _ hp, List.map_append]
        · rintro σ Hf ⟨mf, en, u11', rfl⟩
          rw [pts.1, List.take_of_length_le (Nat.le_refl _)] at en
          have m6g := m6e.trans mf
          have lxg := lxe.same mf
          refine ⟨_, rfl, Nat.zero_le _, fun z2 nz2 => ?_⟩
          have mz2 := sNew (o := .lst []) (Same.refl Hf) nz2
          refine names_ne (own_words gd) (mz2 _ _ en) upd_same ⟨_, rfl, D3, _, rfl, .inl (.of (mz2 _ _ (mf _ _ eTe))), rfl, truths_flat _, _, rfl, ?_⟩
          rw [own_names gd, show (if true = true then !inV (.bl (mergedOf ps).own) ((two.filter (standsFor ps)).map V.bl) else inV (.bl (mergedOf ps).own) ((two.filter (standsFor ps)).map V.bl)) = false from by
            show (!inV (.bl (mergedOf ps).own) ((two.filter (standsFor ps)).map V.bl)) = false
            rw [truths_in st]
            rfl]
          refine iteF ?_
          refine ⟨_, rfl, _, rfl, _, rfl, Nat.zero_le _, fun z3 nz3 => ?_⟩
          have mz3 := sNew (o := .lst []) mz2 nz3
          refine names_ne (own_words gd) (mz3 _ _ en) upd_same ?_
          rw [own_names gd]
          refine ⟨(fun b => b ≠ S), l, x, ws, ps, rfl, (m6g.trans mz3) _ _ el6, ptsAt _ (m6g.trans mz3), l7, gd, lxg.same mz3, fun Hk mk => ⟨_, rfl, iteF ?_⟩⟩
          exact ⟨fin Hk ((m6g.trans mz3).trans mk), _, _, _, _, _, _, _, _, _, _, _, rfl⟩
      · refine ⟨po, ps, rfl, gvn, pne, .inl ⟨hb, fun H7 m7 => ?_⟩⟩
        refine ⟨_, rfl, D, ps, rfl, gvD H7 m7, pne, fun H8 v8 m8 bv8 => ?_⟩
        have m68 := m7.trans m8
        refine ⟨_, rfl, (fun b => b ≠ S), l, ws, ps, rfl, m68 _ _ el6, ptsAt H8 m68, l7, gd, fun H9 v9 m9 bv9 => ?_⟩
        have m69 := m68.trans m9
        refine ⟨_, _, _, rfl, ?_⟩
        refine ⟨by show 2 ≤ sizeLine; decide, fun tp ntp => ⟨tp, rfl, ⟨_, .of upd_same⟩, fun D3 nD3 => ?_⟩⟩
        have mt := sNew (o := .tup [.bl true, .bl false]) m69 ntp
        refine lc_does (K := K) (a := l) (Nw := fun b => b ≠ S) rfl (by show 12 < 14; decide) (mt _ _ el6) (ptsAt _ mt) gd l7 upd_same nD3 fun Ha ma eT => ?_
        have m6a := mt.trans ma
        have mxa : Same H9 Ha := (sNew (Same.refl _) ntp).trans ma
        have st2 : (standsFor ps true || standsFor ps false) = false := by rw [stands_bar gd hb true, stands_bar gd hb false]; rfl
        refine ⟨_, rfl, rfl, _, rfl, Nat.zero_le _, fun z1 nz1 => ?_⟩
        have mz := sNew (o := .lst []) (Same.refl Ha) nz1
        refine truths_eq (f := standsFor ps) (mz _ _ eT) upd_same ⟨rfl, _, rfl, ?_⟩
        rw [bl_ne, st2]
        refine iteF ?_
        refine ⟨_, rfl, _, rfl, v8, v9, rfl, bar_eq2 ((bv8.same m9).same (mxa.trans mz)) (bv9.same (mxa.trans mz)), fun Hb mb => ⟨_, rfl, iteF ?_⟩⟩
        have m6b := (m6a.trans mz).trans mb
        refine ⟨_, rfl, rfl, _, rfl, rfl, rfl, _, rfl, ?_⟩
        rw [bl_ne, bar_non bv9 hb]
        refine iteF ?_
        refine ⟨_, rfl, D2, ys, rfl, .inl ⟨.of (m6b _ _ eE6), fun tw ntw => ?_⟩⟩
        have mw := sNew (o := .tup ys) (Same.refl Hb) ntw
        refine ⟨tw, ps, rfl, ⟨ys, .inr upd_same, (lc6.same (m6b.trans mw)), pk, l7⟩, pne, .inl ⟨hb, fun Hc mc => ?_⟩⟩
        have m6c := (m6b.trans mw).trans mc
        refine ⟨_, rfl, .inl ⟨rfl, _, rfl, iteF ?_⟩⟩
        refine ⟨_, rfl, _, rfl, twins Hc m6c, fun He ee => ⟨_, rfl, iteF ?_⟩⟩
        have me : Same Hc He := ee
        refine ⟨_, rfl, rfl, _, rfl, iteF ?_⟩
        exact ⟨fin He (m6c.trans me), _, _, _, _, _, _, _, _, _, _, _, rfl⟩
    · rintro σ H1 ⟨m1, u1, u2, u3, u4, u5, u6, u7, u8, u9, u10, u11, rfl⟩
      exact q H1
end
end K30
set_option Elab.async false
set_option linter.all false
set_option maxRecDepth 100000
set_option maxHeartbeats 4000000
namespace K30
open PySem PySem.Spec PyProof.Rows L2
theorem empty_drop (its : List Value) (h : its.length = 5) : its.drop 5 = [] := List.drop_of_length_le (by omega)
theorem all_mk {l : PySem.W.OpenLaw} {w : World} {K : PySem.W.Frag} {h : Heap} {mg : Str → Option Value} {fa C fI T0 e1 e2 e3 f1 f2 f3 f4 f5 f6 f7 f8 f10 f11 f12 f13 f14 f15 f16 f17 f18 f19 f20 f21 f22 f23 f24 f25 f26 f27 f28 f29 f30 m1 m2 m3 m4 m5 m6 m7 : Addr} (X : K.In h) (G : h.Ns mainGlobals mg) (hfa : mg "law" = some (.ref fa))
    {odI anI od1 an1 od2 an2 od3 an3 od4 an4 od5 an5 od6 an6 od7 an7 od8 an8 od10 an10 od11 an11 od12 an12 od13 an13 od14 an14 od15 an15 od16 an16 od17 an17 od18 an18 od19 an19 od20 an20 od21 an21 od22 an22 od23 an23 od24 an24 od25 an25 od26 an26 od27 an27 od28 an28 od29 an29 od30 an30 odM1 anM1 odM2 anM2 odM3 anM3 odM4 anM4 odM5 anM5 odM6 anM6 odM7 anM7 : Option Addr} {slI sl1 sl2 sl3 sl4 sl5 sl6 sl7 sl8 sl10 sl11 sl12 sl13 sl14 sl15 sl16 sl17 sl18 sl19 sl20 sl21 sl22 sl23 sl24 sl25 sl26 sl27 sl28 sl29 sl30 slM1 slM2 slM3 slM4 slM5 slM6 slM7 : Array (Option Value)} {ocI kVI dcI pmI cdI ctI oc1 kV1 dc1 pm1 cd1 ct1 oc2 kV2 dc2 pm2 cd2 ct2 oc3 kV3 dc3 pm3 cd3 ct3 oc4 kV4 dc4 pm4 cd4 ct4 oc5 kV5 dc5 pm5 cd5 ct5 oc6 kV6 dc6 pm6 cd6 ct6 oc7 kV7 dc7 pm7 cd7 ct7 oc8 kV8 dc8 pm8 cd8 ct8 oc10 kV10 dc10 pm10 cd10 ct10 oc11 kV11 dc11 pm11 cd11 ct11 oc12 kV12 dc12 pm12 cd12 ct12 oc13 kV13 dc13 pm13 cd13 ct13 oc14 kV14 dc14 pm14 cd14 ct14 oc15 kV15 dc15 pm15 cd15 ct15 oc16 kV16 dc16 pm16 cd16 ct16 oc17 kV17 dc17 pm17 cd17 ct17 oc18 kV18 dc18 pm18 cd18 ct18 oc19 kV19 dc19 pm19 cd19 ct19 oc20 kV20 dc20 pm20 cd20 ct20 oc21 kV21 dc21 pm21 cd21 ct21 oc22 kV22 dc22 pm22 cd22 ct22 oc23 kV23 dc23 pm23 cd23 ct23 oc24 kV24 dc24 pm24 cd24 ct24 oc25 kV25 dc25 pm25 cd25 ct25 oc26 kV26 dc26 pm26 cd26 ct26 oc27 kV27 dc27 pm27 cd27 ct27 oc28 kV28 dc28 pm28 cd28 ct28 oc29 kV29 dc29 pm29 cd29 ct29 oc30 kV30 dc30 pm30 cd30 ct30 ocM1 kVM1 dcM1 pmM1 cdM1 ctM1 ocM2 kVM2 dcM2 pmM2 cdM2 ctM2 ocM3 kVM3 dcM3 pmM3 cdM3 ctM3 ocM4 kVM4 dcM4 pmM4 cdM4 ctM4 ocM5 kVM5 dcM5 pmM5 cdM5 ctM5 ocM6 kVM6 dcM6 pmM6 cdM6 ctM6 ocM7 kVM7 dcM7 pmM7 cdM7 ctM7 : Value} {odT : Option Addr} {slT : Array (Option Value)} {ocT : Value} {nT : Nat} {tL : Tok}
    (aC : PySem.W.nsIn K mainGlobals "Library" = some (some (.ref C)))
    (aL : PySem.W.nsIn K mainGlobals "LETTERS" = some (some (.str letters tL)))
    (pg : PySem.W.plainGet K C Str.empty = true)
    (hd : PySem.W.hasDictIn K C = true)
    (po : PySem.W.plainOver K C = true)
    (sa : PySem.W.findIn K (.ref C) "__setattr__" = some (some (.builtin "object.__setattr__")))
    (mk : PySem.W.makesIn K C = true)
    (kc : PySem.W.keepIn K (.ref C) = true)
    (n1 : PySem.W.findIn K (.ref C) "_tells" = some none)
    (n2 : PySem.W.findIn K (.ref C) "_wants" = some none)
    (n3 : PySem.W.findIn K (.ref C) "_asks" = some none)
    (n4 : PySem.W.findIn K (.ref C) "_needs" = some none)
    (n5 : PySem.W.findIn K (.ref C) "_own_first" = some none)
    (n6 : PySem.W.findIn K (.ref C) "_stays" = some none)
    (gc : PySem.W.findIn K (.ref C) "__class__" = some (some (.builtin "object.__class__")))
    (gg : PySem.W.specialIn K (.builtin "object.__class__") "__get__" = some (some (.builtin "getset_descriptor.__get__")))
    (gt : PySem.W.takesIn K (.builtin "object.__class__") = some true)
    (go : PySem.W.mroIn K C (.type "object") = some true)
    (g1 : PySem.W.kitOne K (.ref C) (.ref C) = some true)
    (ge : PySem.W.findIn K (.ref C) "__ne__" = some (some (.builtin "object.__ne__")))
    (aI : PySem.W.findIn K (.ref C) "__init__" = some (some (.ref fI)))
    (iI : PySem.W.isFn K (.ref fI) = true)
    (lI : K.lookup fI = some ⟨ocI, odI, .func (PySem.W.fnOf "__init__" "Library.__init__" (defArgs sIni) (defBody sIni) (defScope sIni) (.ref T0) kVI dcI pmI anI cdI ctI), slI⟩)
    (cI : PySem.W.codeIn K cdI "Library.__init__" = true)
    (kI : PySem.W.keepIn K (.ref fI) = true)
    (lT : K.lookup T0 = some ⟨ocT, odT, .seq [Value.ref e1, Value.ref e2, Value.ref e3, Value.bool false, Value.bool false].toArray nT, slT⟩)
    (aM1 : PySem.W.findIn K (.ref C) "__eq__" = some (some (.ref m1)))
    (iM1 : PySem.W.isFn K (.ref m1) = true)
    (lM1 : K.lookup m1 = some ⟨ocM1, odM1, .func (PySem.W.fnOf "__eq__" "Library.__eq__" (defArgs sEq) (defBody sEq) (defScope sEq) .none kVM1 dcM1 pmM1 anM1 cdM1 ctM1), slM1⟩)
    (cM1 : PySem.W.codeIn K cdM1 "Library.__eq__" = true)
    (kM1 : PySem.W.keepIn K (.ref m1) = true)
    (aM2 : PySem.W.findIn K (.ref C) "tells" = some (some (.ref m2)))
    (iM2 : PySem.W.isFn K (.ref m2) = true)
    (lM2 : K.lookup m2 = some ⟨ocM2, odM2, .func (PySem.W.fnOf "tells" "Library.tells" (defArgs sTel) (defBody sTel) (defScope sTel) .none kVM2 dcM2 pmM2 anM2 cdM2 ctM2), slM2⟩)
    (cM2 : PySem.W.codeIn K cdM2 "Library.tells" = true)
    (kM2 : PySem.W.keepIn K (.ref m2) = true)
    (aM3 : PySem.W.findIn K (.ref C) "wants" = some (some (.ref m3)))
    (iM3 : PySem.W.isFn K (.ref m3) = true)
    (lM3 : K.lookup m3 = some ⟨ocM3, odM3, .func (PySem.W.fnOf "wants" "Library.wants" (defArgs sWan) (defBody sWan) (defScope sWan) .none kVM3 dcM3 pmM3 anM3 cdM3 ctM3), slM3⟩)
    (cM3 : PySem.W.codeIn K cdM3 "Library.wants" = true)
    (kM3 : PySem.W.keepIn K (.ref m3) = true)
    (aM4 : PySem.W.findIn K (.ref C) "asks" = some (some (.ref m4)))
    (iM4 : PySem.W.isFn K (.ref m4) = true)
    (lM4 : K.lookup m4 = some ⟨ocM4, odM4, .func (PySem.W.fnOf "asks" "Library.asks" (defArgs sAsk) (defBody sAsk) (defScope sAsk) .none kVM4 dcM4 pmM4 anM4 cdM4 ctM4), slM4⟩)
    (cM4 : PySem.W.codeIn K cdM4 "Library.asks" = true)
    (kM4 : PySem.W.keepIn K (.ref m4) = true)
    (aM5 : PySem.W.findIn K (.ref C) "needs" = some (some (.ref m5)))
    (iM5 : PySem.W.isFn K (.ref m5) = true)
    (lM5 : K.lookup m5 = some ⟨ocM5, odM5, .func (PySem.W.fnOf "needs" "Library.needs" (defArgs sNee) (defBody sNee) (defScope sNee) .none kVM5 dcM5 pmM5 anM5 cdM5 ctM5), slM5⟩)
    (cM5 : PySem.W.codeIn K cdM5 "Library.needs" = true)
    (kM5 : PySem.W.keepIn K (.ref m5) = true)
    (aM6 : PySem.W.findIn K (.ref C) "own_first" = some (some (.ref m6)))
    (iM6 : PySem.W.isFn K (.ref m6) = true)
    (lM6 : K.lookup m6 = some ⟨ocM6, odM6, .func (PySem.W.fnOf "own_first" "Library.own_first" (defArgs sOwn) (defBody sOwn) (defScope sOwn) .none kVM6 dcM6 pmM6 anM6 cdM6 ctM6), slM6⟩)
    (cM6 : PySem.W.codeIn K cdM6 "Library.own_first" = true)
    (kM6 : PySem.W.keepIn K (.ref m6) = true)
    (aM7 : PySem.W.findIn K (.ref C) "stays" = some (some (.ref m7)))
    (iM7 : PySem.W.isFn K (.ref m7) = true)
    (lM7 : K.lookup m7 = some ⟨ocM7, odM7, .func (PySem.W.fnOf "stays" "Library.stays" (defArgs sSta) (defBody sSta) (defScope sSta) .none kVM7 dcM7 pmM7 anM7 cdM7 ctM7), slM7⟩)
    (cM7 : PySem.W.codeIn K cdM7 "Library.stays" = true)
    (kM7 : PySem.W.keepIn K (.ref m7) = true)
    (a1 : PySem.W.nsIn K mainGlobals "is_list" = some (some (.ref f1)))
    (l1 : K.lookup f1 = some ⟨oc1, od1, .func (PySem.W.fnOf "is_list" "is_list" (defArgs sLst) (defBody sLst) (defScope sLst) .none kV1 dc1 pm1 an1 cd1 ct1), sl1⟩)
    (c1 : PySem.W.codeIn K cd1 "is_list" = true)
    (k1 : PySem.W.keepIn K (.ref f1) = true)
    (a2 : PySem.W.nsIn K mainGlobals "is_written_in" = some (some (.ref f2)))
    (l2 : K.lookup f2 = some ⟨oc2, od2, .func (PySem.W.fnOf "is_written_in" "is_written_in" (defArgs sWri) (defBody sWri) (defScope sWri) .none kV2 dc2 pm2 an2 cd2 ct2), sl2⟩)
    (c2 : PySem.W.codeIn K cd2 "is_written_in" = true)
    (k2 : PySem.W.keepIn K (.ref f2) = true)
    (a3 : PySem.W.nsIn K mainGlobals "is_word" = some (some (.ref f3)))
    (l3 : K.lookup f3 = some ⟨oc3, od3, .func (PySem.W.fnOf "is_word" "is_word" (defArgs sWrd) (defBody sWrd) (defScope sWrd) .none kV3 dc3 pm3 an3 cd3 ct3), sl3⟩)
    (c3 : PySem.W.codeIn K cd3 "is_word" = true)
    (k3 : PySem.W.keepIn K (.ref f3) = true)
    (a4 : PySem.W.nsIn K mainGlobals "first_bad_word" = some (some (.ref f4)))
    (l4 : K.lookup f4 = some ⟨oc4, od4, .func (PySem.W.fnOf "first_bad_word" "first_bad_word" (defArgs sBad) (defBody sBad) (defScope sBad) .none kV4 dc4 pm4 an4 cd4 ct4), sl4⟩)
    (c4 : PySem.W.codeIn K cd4 "first_bad_word" = true)
    (k4 : PySem.W.keepIn K (.ref f4) = true)
    (a5 : PySem.W.nsIn K mainGlobals "check_wants" = some (some (.ref f5)))
    (l5 : K.lookup f5 = some ⟨oc5, od5, .func (PySem.W.fnOf "check_wants" "check_wants" (defArgs sChW) (defBody sChW) (defScope sChW) .none kV5 dc5 pm5 an5 cd5 ct5), sl5⟩)
    (c5 : PySem.W.codeIn K cd5 "check_wants" = true)
    (k5 : PySem.W.keepIn K (.ref f5) = true)
    (a6 : PySem.W.nsIn K mainGlobals "check_asks" = some (some (.ref f6)))
    (l6 : K.lookup f6 = some ⟨oc6, od6, .func (PySem.W.fnOf "check_asks" "check_asks" (defArgs sChA) (defBody sChA) (defScope sChA) .none kV6 dc6 pm6 an6 cd6 ct6), sl6⟩)
    (c6 : PySem.W.codeIn K cd6 "check_asks" = true)
    (k6 : PySem.W.keepIn K (.ref f6) = true)
    (a7 : PySem.W.nsIn K mainGlobals "check_library" = some (some (.ref f7)))
    (l7 : K.lookup f7 = some ⟨oc7, od7, .func (PySem.W.fnOf "check_library" "check_library" (defArgs sChL) (defBody sChL) (defScope sChL) .none kV7 dc7 pm7 an7 cd7 ct7), sl7⟩)
    (c7 : PySem.W.codeIn K cd7 "check_library" = true)
    (k7 : PySem.W.keepIn K (.ref f7) = true)
    (a8 : PySem.W.nsIn K mainGlobals "check_mark" = some (some (.ref f8)))
    (l8 : K.lookup f8 = some ⟨oc8, od8, .func (PySem.W.fnOf "check_mark" "check_mark" (defArgs sChM) (defBody sChM) (defScope sChM) .none kV8 dc8 pm8 an8 cd8 ct8), sl8⟩)
    (c8 : PySem.W.codeIn K cd8 "check_mark" = true)
    (k8 : PySem.W.keepIn K (.ref f8) = true)
    (a10 : PySem.W.nsIn K mainGlobals "check_libraries" = some (some (.ref f10)))
    (l10 : K.lookup f10 = some ⟨oc10, od10, .func (PySem.W.fnOf "check_libraries" "check_libraries" (defArgs sChB) (defBody sChB) (defScope sChB) .none kV10 dc10 pm10 an10 cd10 ct10), sl10⟩)
    (c10 : PySem.W.codeIn K cd10 "check_libraries" = true)
    (k10 : PySem.W.keepIn K (.ref f10) = true)
    (a11 : PySem.W.nsIn K mainGlobals "references_of" = some (some (.ref f11)))
    (l11 : K.lookup f11 = some ⟨oc11, od11, .func (PySem.W.fnOf "references_of" "references_of" (defArgs sRef) (defBody sRef) (defScope sRef) .none kV11 dc11 pm11 an11 cd11 ct11), sl11⟩)
    (c11 : PySem.W.codeIn K cd11 "references_of" = true)
    (k11 : PySem.W.keepIn K (.ref f11) = true)
    (a12 : PySem.W.nsIn K mainGlobals "binds_itself" = some (some (.ref f12)))
    (l12 : K.lookup f12 = some ⟨oc12, od12, .func (PySem.W.fnOf "binds_itself" "binds_itself" (defArgs sBin) (defBody sBin) (defScope sBin) .none kV12 dc12 pm12 an12 cd12 ct12), sl12⟩)
    (c12 : PySem.W.codeIn K cd12 "binds_itself" = true)
    (k12 : PySem.W.keepIn K (.ref f12) = true)
    (a13 : PySem.W.nsIn K mainGlobals "tells_one" = some (some (.ref f13)))
    (l13 : K.lookup f13 = some ⟨oc13, od13, .func (PySem.W.fnOf "tells_one" "tells_one" (defArgs sOne') (defBody sOne') (defScope sOne') .none kV13 dc13 pm13 an13 cd13 ct13), sl13⟩)
    (c13 : PySem.W.codeIn K cd13 "tells_one" = true)
    (k13 : PySem.W.keepIn K (.ref f13) = true)
    (a14 : PySem.W.nsIn K mainGlobals "bar" = some (some (.ref f14)))
    (l14 : K.lookup f14 = some ⟨oc14, od14, .func (PySem.W.fnOf "bar" "bar" (defArgs sBar) (defBody sBar) (defScope sBar) .none kV14 dc14 pm14 an14 cd14 ct14), sl14⟩)
    (c14 : PySem.W.codeIn K cd14 "bar" = true)
    (k14 : PySem.W.keepIn K (.ref f14) = true)
    (a15 : PySem.W.nsIn K mainGlobals "merged" = some (some (.ref f15)))
    (l15 : K.lookup f15 = some ⟨oc15, od15, .func (PySem.W.fnOf "merged" "merged" (defArgs sMer) (defBody sMer) (defScope sMer) .none kV15 dc15 pm15 an15 cd15 ct15), sl15⟩)
    (c15 : PySem.W.codeIn K cd15 "merged" = true)
    (k15 : PySem.W.keepIn K (.ref f15) = true)
    (a16 : PySem.W.nsIn K mainGlobals "_law_spring" = some (some (.ref f16)))
    (l16 : K.lookup f16 = some ⟨oc16, od16, .func (PySem.W.fnOf "_law_spring" "_law_spring" (defArgs sSpr) (defBody sSpr) (defScope sSpr) .none kV16 dc16 pm16 an16 cd16 ct16), sl16⟩)
    (c16 : PySem.W.codeIn K cd16 "_law_spring" = true)
    (k16 : PySem.W.keepIn K (.ref f16) = true)
    (a17 : PySem.W.nsIn K mainGlobals "_law_take" = some (some (.ref f17)))
    (l17 : K.lookup f17 = some ⟨oc17, od17, .func (PySem.W.fnOf "_law_take" "_law_take" (defArgs sTak) (defBody sTak) (defScope sTak) .none kV17 dc17 pm17 an17 cd17 ct17), sl17⟩)
    (c17 : PySem.W.codeIn K cd17 "_law_take" = true)
    (k17 : PySem.W.keepIn K (.ref f17) = true)
    (a18 : PySem.W.nsIn K mainGlobals "_law_one" = some (some (.ref f18)))
    (l18 : K.lookup f18 = some ⟨oc18, od18, .func (PySem.W.fnOf "_law_one" "_law_one" (defArgs sOne) (defBody sOne) (defScope sOne) .none kV18 dc18 pm18 an18 cd18 ct18), sl18⟩)
    (c18 : PySem.W.codeIn K cd18 "_law_one" = true)
    (k18 : PySem.W.keepIn K (.ref f18) = true)
    (a19 : PySem.W.nsIn K mainGlobals "_law_mixed" = some (some (.ref f19)))
    (l19 : K.lookup f19 = some ⟨oc19, od19, .func (PySem.W.fnOf "_law_mixed" "_law_mixed" (defArgs sMix) (defBody sMix) (defScope sMix) .none kV19 dc19 pm19 an19 cd19 ct19), sl19⟩)
    (c19 : PySem.W.codeIn K cd19 "_law_mixed" = true)
    (k19 : PySem.W.keepIn K (.ref f19) = true)
    (a20 : PySem.W.nsIn K mainGlobals "_law_same" = some (some (.ref f20)))
    (l20 : K.lookup f20 = some ⟨oc20, od20, .func (PySem.W.fnOf "_law_same" "_law_same" (defArgs sSam) (defBody sSam) (defScope sSam) .none kV20 dc20 pm20 an20 cd20 ct20), sl20⟩)
    (c20 : PySem.W.codeIn K cd20 "_law_same" = true)
    (k20 : PySem.W.keepIn K (.ref f20) = true)
    (a21 : PySem.W.nsIn K mainGlobals "_law_shown" = some (some (.ref f21)))
    (l21 : K.lookup f21 = some ⟨oc21, od21, .func (PySem.W.fnOf "_law_shown" "_law_shown" (defArgs sSho) (defBody sSho) (defScope sSho) .none kV21 dc21 pm21 an21 cd21 ct21), sl21⟩)
    (c21 : PySem.W.codeIn K cd21 "_law_shown" = true)
    (k21 : PySem.W.keepIn K (.ref f21) = true)
    (a22 : PySem.W.nsIn K mainGlobals "_law_drawn" = some (some (.ref f22)))
    (l22 : K.lookup f22 = some ⟨oc22, od22, .func (PySem.W.fnOf "_law_drawn" "_law_drawn" (defArgs sDrw) (defBody sDrw) (defScope sDrw) .none kV22 dc22 pm22 an22 cd22 ct22), sl22⟩)
    (c22 : PySem.W.codeIn K cd22 "_law_drawn" = true)
    (k22 : PySem.W.keepIn K (.ref f22) = true)
    (a23 : PySem.W.nsIn K mainGlobals "_law_several" = some (some (.ref f23)))
    (l23 : K.lookup f23 = some ⟨oc23, od23, .func (PySem.W.fnOf "_law_several" "_law_several" (defArgs sSev) (defBody sSev) (defScope sSev) .none kV23 dc23 pm23 an23 cd23 ct23), sl23⟩)
    (c23 : PySem.W.codeIn K cd23 "_law_several" = true)
    (k23 : PySem.W.keepIn K (.ref f23) = true)
    (a24 : PySem.W.nsIn K mainGlobals "_law_own" = some (some (.ref f24)))
    (l24 : K.lookup f24 = some ⟨oc24, od24, .func (PySem.W.fnOf "_law_own" "_law_own" (defArgs sOwn2) (defBody sOwn2) (defScope sOwn2) .none kV24 dc24 pm24 an24 cd24 ct24), sl24⟩)
    (c24 : PySem.W.codeIn K cd24 "_law_own" = true)
    (k24 : PySem.W.keepIn K (.ref f24) = true)
    (a25 : PySem.W.nsIn K mainGlobals "_law_things" = some (some (.ref f25)))
    (l25 : K.lookup f25 = some ⟨oc25, od25, .func (PySem.W.fnOf "_law_things" "_law_things" (defArgs sThi) (defBody sThi) (defScope sThi) .none kV25 dc25 pm25 an25 cd25 ct25), sl25⟩)
    (c25 : PySem.W.codeIn K cd25 "_law_things" = true)
    (k25 : PySem.W.keepIn K (.ref f25) = true)
    (a26 : PySem.W.nsIn K mainGlobals "_law_stands_for" = some (some (.ref f26)))
    (l26 : K.lookup f26 = some ⟨oc26, od26, .func (PySem.W.fnOf "_law_stands_for" "_law_stands_for" (defArgs sSta2) (defBody sSta2) (defScope sSta2) .none kV26 dc26 pm26 an26 cd26 ct26), sl26⟩)
    (c26 : PySem.W.codeIn K cd26 "_law_stands_for" = true)
    (k26 : PySem.W.keepIn K (.ref f26) = true)
    (a27 : PySem.W.nsIn K mainGlobals "_law_bar_due" = some (some (.ref f27)))
    (l27 : K.lookup f27 = some ⟨oc27, od27, .func (PySem.W.fnOf "_law_bar_due" "_law_bar_due" (defArgs sDue) (defBody sDue) (defScope sDue) .none kV27 dc27 pm27 an27 cd27 ct27), sl27⟩)
    (c27 : PySem.W.codeIn K cd27 "_law_bar_due" = true)
    (k27 : PySem.W.keepIn K (.ref f27) = true)
    (a28 : PySem.W.nsIn K mainGlobals "_law_library" = some (some (.ref f28)))
    (l28 : K.lookup f28 = some ⟨oc28, od28, .func (PySem.W.fnOf "_law_library" "_law_library" (defArgs sLib) (defBody sLib) (defScope sLib) .none kV28 dc28 pm28 an28 cd28 ct28), sl28⟩)
    (c28 : PySem.W.codeIn K cd28 "_law_library" = true)
    (k28 : PySem.W.keepIn K (.ref f28) = true)
    (a29 : PySem.W.nsIn K mainGlobals "_law_right" = some (some (.ref f29)))
    (l29 : K.lookup f29 = some ⟨oc29, od29, .func (PySem.W.fnOf "_law_right" "_law_right" (defArgs sRig) (defBody sRig) (defScope sRig) .none kV29 dc29 pm29 an29 cd29 ct29), sl29⟩)
    (c29 : PySem.W.codeIn K cd29 "_law_right" = true)
    (k29 : PySem.W.keepIn K (.ref f29) = true)
    (a30 : PySem.W.nsIn K mainGlobals "law" = some (some (.ref f30)))
    (l30 : K.lookup f30 = some ⟨oc30, od30, .func (PySem.W.fnOf "law" "law" (defArgs sLaw) (defBody sLaw) (defScope sLaw) .none kV30 dc30 pm30 an30 cd30 ct30), sl30⟩)
    (c30 : PySem.W.codeIn K cd30 "law" = true)
    (k30 : PySem.W.keepIn K (.ref f30) = true)
    (z0 : PySem.W.nsIn K mainGlobals "isinstance" = some none)
    (z1 : PySem.W.nsIn K mainGlobals "int" = some none)
    (z2 : PySem.W.nsIn K mainGlobals "bool" = some none)
    (z3 : PySem.W.nsIn K mainGlobals "list" = some none)
    (z4 : PySem.W.nsIn K mainGlobals "tuple" = some none)
    (z5 : PySem.W.nsIn K mainGlobals "dict" = some none)
    (z6 : PySem.W.nsIn K mainGlobals "str" = some none)
    (z7 : PySem.W.nsIn K mainGlobals "len" = some none)
    (z8 : PySem.W.nsIn K mainGlobals "enumerate" = some none)
    (z9 : PySem.W.nsIn K mainGlobals "sorted" = some none)
    (z10 : PySem.W.nsIn K mainGlobals "range" = some none)
    (z11 : PySem.W.nsIn K mainGlobals "abs" = some none)
    (z12 : PySem.W.nsIn K mainGlobals "sum" = some none)
    (z13 : PySem.W.nsIn K mainGlobals "all" = some none)
    (z14 : PySem.W.nsIn K mainGlobals "any" = some none)
    (z15 : PySem.W.nsIn K mainGlobals "zip" = some none)
    (z16 : PySem.W.nsIn K mainGlobals "set" = some none)
    : ∃ fd : FuncData, (∀ (s : Shared) (v : Value), BindsTo s fd ⟨[v], []⟩ [("script", v)]) ∧ ∀ base : Heap, K.In base → base.Ns mainGlobals mg → FnOk l.prog w K mg base CX0 9 fa fd ["script"] (spLaw K) := by
  have e := hfa.symm.trans (PySem.W.mg_of X G a30)
  cases e
  have T : Txt K mg C := ⟨PySem.W.mg_none_of X G z0, PySem.W.mg_none_of X G z1, PySem.W.mg_none_of X G z2, PySem.W.mg_none_of X G z3, PySem.W.mg_none_of X G z4, PySem.W.mg_none_of X G z5, PySem.W.mg_none_of X G z6, PySem.W.mg_none_of X G z7, PySem.W.mg_none_of X G z8, PySem.W.mg_none_of X G z9, PySem.W.mg_none_of X G z10, PySem.W.mg_none_of X G z11, PySem.W.mg_none_of X G z12, PySem.W.mg_none_of X G z13, PySem.W.mg_none_of X G z14, PySem.W.mg_none_of X G z15, PySem.W.mg_none_of X G z16, ⟨tL, PySem.W.mg_of X G aL⟩, ⟨pg, hd, po, sa⟩, PySem.W.mg_of X G aC⟩
  have O : ClsOk K C := ⟨⟨pg, hd, po, sa⟩, n1, n2, n3, n4, n5, n6, gc, gg, gt, go, g1⟩
  have FI : FunD K "__init__" "Library.__init__" (defArgs sIni) (defBody sIni) (defScope sIni) [.ref e1, .ref e2, .ref e3, .bl false, .bl false] [] fI (PySem.W.fnOf "__init__" "Library.__init__" (defArgs sIni) (defBody sIni) (defScope sIni) (.ref T0) kVI dcI pmI anI cdI ctI) :=
    ⟨⟨_, _, _, _, _, _, _, _, _, _, rfl, lI, cI, .inr ⟨by simp, T0, _, _, _, rfl, lT, rfl, .cons rfl (.cons rfl (.cons rfl (.cons rfl (.cons rfl .nil))))⟩, .inl rfl⟩, kI⟩
  have bI : Binds K (PySem.W.fnOf "__init__" "Library.__init__" (defArgs sIni) (defBody sIni) (defScope sIni) (.ref T0) kVI dcI pmI anI cdI ctI) nIni [] := by
    obtain ⟨ds, hv, hb⟩ := FI.binds1 (ps := nIni) 7 5 (by simp) rfl fun T kV doc pm an cdv ct us its h1 h2 => by
      match us, its, h1, h2 with
      | [_, _, _, _, _, _, _], [_, _, _, _, _], _, _ => exact ⟨_, rfl, rfl⟩
    cases hv
    exact hb
  have FM1 := fun_mk (st := sEq) lM1 cM1 kM1
  have bM1 := FM1.binds (ps := ["self", "other"]) fun _ _ _ _ _ _ us hl => match us, hl with | [_, _], _ => rfl
  have FM2 := fun_mk (st := sTel) lM2 cM2 kM2
  have bM2 := FM2.binds (ps := ["self"]) fun _ _ _ _ _ _ us hl => match us, hl with | [_], _ => rfl
  have FM3 := fun_mk (st := sWan) lM3 cM3 kM3
  have bM3 := FM3.binds (ps := ["self"]) fun _ _ _ _ _ _ us hl => match us, hl with | [_], _ => rfl
  have FM4 := fun_mk (st := sAsk) lM4 cM4 kM4
  have bM4 := FM4.binds (ps := ["self"]) fun _ _ _ _ _ _ us hl => match us, hl with | [_], _ => rfl
  have FM5 := fun_mk (st := sNee) lM5 cM5 kM5
  have bM5 := FM5.binds (ps := ["self"]) fun _ _ _ _ _ _ us hl => match us, hl with | [_], _ => rfl
  have FM6 := fun_mk (st := sOwn) lM6 cM6 kM6
  have bM6 := FM6.binds (ps := ["self"]) fun _ _ _ _ _ _ us hl => match us, hl with | [_], _ => rfl
  have FM7 := fun_mk (st := sSta) lM7 cM7 kM7
  have bM7 := FM7.binds (ps := ["self"]) fun _ _ _ _ _ _ us hl => match us, hl with | [_], _ => rfl
  have F1 := fun_mk (st := sLst) l1 c1 k1
  have b1 := F1.binds (ps := ["thing"]) fun _ _ _ _ _ _ us hl => match us, hl with | [_], _ => rfl
  have F2 := fun_mk (st := sWri) l2 c2 k2
  have b2 := F2.binds (ps := ["signs", "most", "thing"]) fun _ _ _ _ _ _ us hl => match us, hl with | [_, _, _], _ => rfl
  have F3 := fun_mk (st := sWrd) l3 c3 k3
  have b3 := F3.binds (ps := ["thing"]) fun _ _ _ _ _ _ us hl => match us, hl with | [_], _ => rfl
  have F4 := fun_mk (st := sBad) l4 c4 k4
  have b4 := F4.binds (ps := ["things", "barred"]) fun _ _ _ _ _ _ us hl => match us, hl with | [_, _], _ => rfl
  have F5 := fun_mk (st := sChW) l5 c5 k5
  have b5 := F5.binds (ps := ["wants", "told"]) fun _ _ _ _ _ _ us hl => match us, hl with | [_, _], _ => rfl
  have F6 := fun_mk (st := sChA) l6 c6 k6
  have b6 := F6.binds (ps := ["asks", "told", "wants"]) fun _ _ _ _ _ _ us hl => match us, hl with | [_, _, _], _ => rfl
  have F7 := fun_mk (st := sChL) l7 c7 k7
  have b7 := F7.binds (ps := ["tells", "wants", "asks", "needs"]) fun _ _ _ _ _ _ us hl => match us, hl with | [_, _, _, _], _ => rfl
  have F8 := fun_mk (st := sChM) l8 c8 k8
  have b8 := F8.binds (ps := ["thing"]) fun _ _ _ _ _ _ us hl => match us, hl with | [_], _ => rfl
  have F10 := fun_mk (st := sChB) l10 c10 k10
  have b10 := F10.binds (ps := ["libraries"]) fun _ _ _ _ _ _ us hl => match us, hl with | [_], _ => rfl
  have F11 := fun_mk (st := sRef) l11 c11 k11
  have b11 := F11.binds (ps := ["libraries"]) fun _ _ _ _ _ _ us hl => match us, hl with | [_], _ => rfl
  have F12 := fun_mk (st := sBin) l12 c12 k12
  have b12 := F12.binds (ps := ["library", "name"]) fun _ _ _ _ _ _ us hl => match us, hl with | [_, _], _ => rfl
  have F13 := fun_mk (st := sOne') l13 c13 k13
  have b13 := F13.binds (ps := ["libraries", "name"]) fun _ _ _ _ _ _ us hl => match us, hl with | [_, _], _ => rfl
  have F14 := fun_mk (st := sBar) l14 c14 k14
  have b14 := F14.binds (ps := ["libraries"]) fun _ _ _ _ _ _ us hl => match us, hl with | [_], _ => rfl
  have F15 := fun_mk (st := sMer) l15 c15 k15
  have b15 := F15.binds (ps := ["libraries"]) fun _ _ _ _ _ _ us hl => match us, hl with | [_], _ => rfl
  have F16 := fun_mk (st := sSpr) l16 c16 k16
  have b16 := F16.binds (ps := ["script", "k"]) fun _ _ _ _ _ _ us hl => match us, hl with | [_, _], _ => rfl
  have F17 := fun_mk (st := sTak) l17 c17 k17
  have b17 := F17.binds (ps := ["spring", "many"]) fun _ _ _ _ _ _ us hl => match us, hl with | [_, _], _ => rfl
  have F18 := fun_mk (st := sOne) l18 c18 k18
  have b18 := F18.binds (ps := ["spring", "things"]) fun _ _ _ _ _ _ us hl => match us, hl with | [_, _], _ => rfl
  have F19 := fun_mk (st := sMix) l19 c19 k19
  have b19 := F19.binds (ps := ["spring", "things"]) fun _ _ _ _ _ _ us hl => match us, hl with | [_, _], _ => rfl
  have F20 := fun_mk (st := sSam) l20 c20 k20
  have b20 := F20.binds (ps := ["found", "due"]) fun _ _ _ _ _ _ us hl => match us, hl with | [_, _], _ => rfl
  have F21 := fun_mk (st := sSho) l21 c21 k21
  have b21 := F21.binds (ps := ["spring", "things"]) fun _ _ _ _ _ _ us hl => match us, hl with | [_, _], _ => rfl
  have F22 := fun_mk (st := sDrw) l22 c22 k22
  have b22 := F22.binds (ps := ["spring", "names"]) fun _ _ _ _ _ _ us hl => match us, hl with | [_, _], _ => rfl
  have F23 := fun_mk (st := sSev) l23 c23 k23
  have b23 := F23.binds (ps := ["spring"]) fun _ _ _ _ _ _ us hl => match us, hl with | [_], _ => rfl
  have F24 := fun_mk (st := sOwn2) l24 c24 k24
  have b24 := F24.binds (ps := ["part", "name"]) fun _ _ _ _ _ _ us hl => match us, hl with | [_, _], _ => rfl
  have F25 := fun_mk (st := sThi) l25 c25 k25
  have b25 := F25.binds (ps := ["parts", "name", "is_ahead", "is_behind"]) fun _ _ _ _ _ _ us hl => match us, hl with | [_, _, _, _], _ => rfl
  have F26 := fun_mk (st := sSta2) l26 c26 k26
  have b26 := F26.binds (ps := ["parts", "is_own"]) fun _ _ _ _ _ _ us hl => match us, hl with | [_, _], _ => rfl
  have F27 := fun_mk (st := sDue) l27 c27 k27
  have b27 := F27.binds (ps := ["parts"]) fun _ _ _ _ _ _ us hl => match us, hl with | [_], _ => rfl
  have F28 := fun_mk (st := sLib) l28 c28 k28
  have b28 := F28.binds (ps := ["spring", "part"]) fun _ _ _ _ _ _ us hl => match us, hl with | [_, _], _ => rfl
  have F29 := fun_mk (st := sRig) l29 c29 k29
  have b29 := F29.binds (ps := ["parts", "told", "is_own"]) fun _ _ _ _ _ _ us hl => match us, hl with | [_, _, _], _ => rfl
  have F30 := fun_mk (st := sLaw) l30 c30 k30
  refine ⟨PySem.W.fnOf "law" "law" (defArgs sLaw) (defBody sLaw) (defScope sLaw) .none kV30 dc30 pm30 an30 cd30 ct30, fun s v => .of_eq rfl, fun base _ _ => ?_⟩
  have q1 : Cal l.prog w K mg base 1 "is_list" ["thing"] spLst := ⟨_, _, ok_lst F1 T, PySem.W.mg_of X G a1, k1, b1⟩
  have q2 : Cal l.prog w K mg base 1 "is_written_in" ["signs", "most", "thing"] spWri := ⟨_, _, ok_wri F2 T, PySem.W.mg_of X G a2, k2, b2⟩
  have q3 : Cal l.prog w K mg base 2 "is_word" ["thing"] spWrd := ⟨_, _, ok_wrd F3 T q2, PySem.W.mg_of X G a3, k3, b3⟩
  have q4 : Cal l.prog w K mg base 3 "first_bad_word" ["things", "barred"] spBad := ⟨_, _, ok_bad F4 T q1 q3, PySem.W.mg_of X G a4, k4, b4⟩
  have q5 : Cal l.prog w K mg base 4 "check_wants" ["wants", "told"] spChW := ⟨_, _, ok_chw F5 T q4, PySem.W.mg_of X G a5, k5, b5⟩
  have q6 : Cal l.prog w K mg base 4 "check_asks" ["asks", "told", "wants"] spChA := ⟨_, _, ok_cha F6 T q4, PySem.W.mg_of X G a6, k6, b6⟩
  have q7 : Cal l.prog w K mg base 5 "check_library" ["tells", "wants", "asks", "needs"] spChL := ⟨_, _, ok_chl F7 T q4 q5 q6, PySem.W.mg_of X G a7, k7, b7⟩
  have q8 : Cal l.prog w K mg base 1 "check_mark" ["thing"] spChM := ⟨_, _, ok_chm F8 T, PySem.W.mg_of X G a8, k8, b8⟩
  have L : Lib l.prog w K mg base C := ⟨O, ⟨_, _, ⟨aM2, iM2, kM2⟩, ok_tel FM2 T O, bM2⟩, ⟨_, _, ⟨aM3, iM3, kM3⟩, ok_wan FM3 T O, bM3⟩, ⟨_, _, ⟨aM4, iM4, kM4⟩, ok_ask FM4 T O, bM4⟩, ⟨_, _, ⟨aM5, iM5, kM5⟩, ok_nee FM5 T O, bM5⟩, ⟨_, _, ⟨aM6, iM6, kM6⟩, ok_own FM6 T O, bM6⟩, ⟨_, _, ⟨aM7, iM7, kM7⟩, ok_sta FM7 T O, bM7⟩, ⟨_, _, ⟨aM1, ge, iM1, go⟩, ok_eq FM1 T O, bM1⟩, ⟨_, _, ⟨mk, aI, iI, kc⟩, ok_ini FI T O q7 q8, bI⟩⟩
  have q10 : Cal l.prog w K mg base 2 "check_libraries" ["libraries"] (spChB C) := ⟨_, _, ok_chb F10 T L q1, PySem.W.mg_of X G a10, k10, b10⟩
  have q11 : Cal l.prog w K mg base 2 "references_of" ["libraries"] (spRef C) := ⟨_, _, ok_ref F11 T L, PySem.W.mg_of X G a11, k11, b11⟩
  have q12 : Cal l.prog w K mg base 2 "binds_itself" ["library", "name"] (spBin C) := ⟨_, _, ok_bin F12 T L, PySem.W.mg_of X G a12, k12, b12⟩
  have q13 : Cal l.prog w K mg base 2 "tells_one" ["libraries", "name"] (spOneT C) := ⟨_, _, ok_onet F13 T L, PySem.W.mg_of X G a13, k13, b13⟩
  have q14 : Cal l.prog w K mg base 3 "bar" ["libraries"] (spBar C) := ⟨_, _, ok_bar F14 T q10 q11 q12 q13, PySem.W.mg_of X G a14, k14, b14⟩
  have q15 : Cal l.prog w K mg base 8 "merged" ["libraries"] (spMer C) := ⟨_, _, ok_mer F15 T L q14 q11 q12, PySem.W.mg_of X G a15, k15, b15⟩
  have q16 : Cal l.prog w K mg base 1 "_law_spring" ["script", "k"] (spSpr K) := ⟨_, _, ok_spr F16 T, PySem.W.mg_of X G a16, k16, b16⟩
  have q17 : Cal l.prog w K mg base 1 "_law_take" ["spring", "many"] spTak := ⟨_, _, ok_tak F17 T, PySem.W.mg_of X G a17, k17, b17⟩
  have q18 : Cal l.prog w K mg base 2 "_law_one" ["spring", "things"] spOne := ⟨_, _, ok_one F18 T q17, PySem.W.mg_of X G a18, k18, b18⟩
  have q19 : Cal l.prog w K mg base 2 "_law_mixed" ["spring", "things"] spMix := ⟨_, _, ok_mix F19 T q17, PySem.W.mg_of X G a19, k19, b19⟩
  have q20 : Cal l.prog w K mg base 1 "_law_same" ["found", "due"] (spSam 0) := ⟨_, _, ok_sam0 F20 T, PySem.W.mg_of X G a20, k20, b20⟩
  have qS1 : Cal l.prog w K mg base 2 "_law_same" ["found", "due"] (spSam 1) := ⟨_, _, ok_samS 0 1 F20 T q20, PySem.W.mg_of X G a20, k20, b20⟩
  have qS2 : Cal l.prog w K mg base 3 "_law_same" ["found", "due"] (spSam 2) := ⟨_, _, ok_samS 1 2 F20 T qS1, PySem.W.mg_of X G a20, k20, b20⟩
  have q21 : Cal l.prog w K mg base 2 "_law_shown" ["spring", "things"] spSho := ⟨_, _, ok_sho F21 T q17, PySem.W.mg_of X G a21, k21, b21⟩
  have q22 : Cal l.prog w K mg base 3 "_law_drawn" ["spring", "names"] spDrw := ⟨_, _, ok_drw F22 T q17 q18 q19, PySem.W.mg_of X G a22, k22, b22⟩
  have q23 : Cal l.prog w K mg base 4 "_law_several" ["spring"] spSev := ⟨_, _, ok_sev F23 T q17 q18 q22, PySem.W.mg_of X G a23, k23, b23⟩
  have q24 : Cal l.prog w K mg base 1 "_law_own" ["part", "name"] spOwn2 := ⟨_, _, ok_own2 F24 T, PySem.W.mg_of X G a24, k24, b24⟩
  have q25 : Cal l.prog w K mg base 2 "_law_things" ["parts", "name", "is_ahead", "is_behind"] spThi := ⟨_, _, ok_thi F25 T q24, PySem.W.mg_of X G a25, k25, b25⟩
  have q26 : Cal l.prog w K mg base 3 "_law_stands_for" ["parts", "is_own"] spSta2 := ⟨_, _, ok_sta2 F26 T q25, PySem.W.mg_of X G a26, k26, b26⟩
  have q27 : Cal l.prog w K mg base 2 "_law_bar_due" ["parts"] spDue := ⟨_, _, ok_due F27 T q24, PySem.W.mg_of X G a27, k27, b27⟩
  have q28 : Cal l.prog w K mg base 8 "_law_library" ["spring", "part"] (spLibr C) := ⟨_, _, ok_libr F28 T L q19 q21, PySem.W.mg_of X G a28, k28, b28⟩
  have q29 : Cal l.prog w K mg base 4 "_law_right" ["parts", "told", "is_own"] (spRig C) := ⟨_, _, ok_rig F29 T L qS2, PySem.W.mg_of X G a29, k29, b29⟩
  exact ok_law F30 T L q16 q23 q28 q21 q15 q14 q27 q26 qS2 q24 q29
theorem walk {l : PySem.W.OpenLaw} {q : Program} {loose : List Str} {XP : (Str → Option Value) → Heap → Prop} {YP : World → Heap → Prop} {d : DefRec} {K : Params → PySem.W.Frag} (hn : l.most = some 63) (hdf : d.params.defaults = [])
    (hY : ∀ (w : World) (h : Heap), YP w h → (K w.params).In h)
    (F : ∀ (w : World) (mg : Str → Option Value) (fa : Addr) (h : Heap), (K w.params).In h → h.Ns mainGlobals mg → mg d.name = some (.ref fa) →
      ∃ fd : FuncData, (∀ (s : Shared) (u : Value), BindsTo s fd ⟨[u], []⟩ [("script", u)]) ∧ ∀ base : Heap, (K w.params).In base → base.Ns mainGlobals mg → FnOk l.prog w (K w.params) mg base CX0 9 fa fd ["script"] (spLaw (K w.params))) :
    PySem.W.WalkO q loose XP YP l.row.toRowW d [] (fun f vs => PySem.call f vs) :=
  L2.walk_of (n := 63) (k := 9) (x := "script") (CX := fun _ => CX0) (sp := fun w => spLaw (K w.params)) hn (by decide) hdf ⟨rfl, by decide, by decide⟩ hY F (fun _ _ a ns hl _ hS => ⟨a, ns, rfl, hS, hl, fun _ => rfl⟩) fun _ _ _ _ _ z => z
end K30
set_option Elab.async false
open PySem PySem.W PyProof.Rows in
set_option maxRecDepth 100000 in
set_option maxHeartbeats 0 in
theorem PySem.Challenge.cw_linklines_k30_whole_one_for_several_holds : PySem.Challenge.rw_linklines_k30_whole_one_for_several.Holds := by
  w_on; o_law; k_head; (case hw => w_witness2)
  k_fill
  refine K30.walk (l := PySem.Challenge.rw_linklines_k30_whole_one_for_several) rfl rfl (fun w h Y => PySem.W.kIn_of Y) ?F
  case F =>
    intro w mg fa h KX G hmg
    refine' K30.all_mk KX G hmg ?aC ?aL ?pg ?hd ?po ?sa ?mk ?kc ?n1 ?n2 ?n3 ?n4 ?n5 ?n6 ?gc ?gg ?gt ?go ?g1 ?ge ?aI ?iI ?lI ?cI ?kI ?lT ?aM1 ?iM1 ?lM1 ?cM1 ?kM1 ?aM2 ?iM2 ?lM2 ?cM2 ?kM2 ?aM3 ?iM3 ?lM3 ?cM3 ?kM3 ?aM4 ?iM4 ?lM4 ?cM4 ?kM4 ?aM5 ?iM5 ?lM5 ?cM5 ?kM5 ?aM6 ?iM6 ?lM6 ?cM6 ?kM6 ?aM7 ?iM7 ?lM7 ?cM7 ?kM7 ?a1 ?l1 ?c1 ?k1 ?a2 ?l2 ?c2 ?k2 ?a3 ?l3 ?c3 ?k3 ?a4 ?l4 ?c4 ?k4 ?a5 ?l5 ?c5 ?k5 ?a6 ?l6 ?c6 ?k6 ?a7 ?l7 ?c7 ?k7 ?a8 ?l8 ?c8 ?k8 ?a10 ?l10 ?c10 ?k10 ?a11 ?l11 ?c11 ?k11 ?a12 ?l12 ?c12 ?k12 ?a13 ?l13 ?c13 ?k13 ?a14 ?l14 ?c14 ?k14 ?a15 ?l15 ?c15 ?k15 ?a16 ?l16 ?c16 ?k16 ?a17 ?l17 ?c17 ?k17 ?a18 ?l18 ?c18 ?k18 ?a19 ?l19 ?c19 ?k19 ?a20 ?l20 ?c20 ?k20 ?a21 ?l21 ?c21 ?k21 ?a22 ?l22 ?c22 ?k22 ?a23 ?l23 ?c23 ?k23 ?a24 ?l24 ?c24 ?k24 ?a25 ?l25 ?c25 ?k25 ?a26 ?l26 ?c26 ?k26 ?a27 ?l27 ?c27 ?k27 ?a28 ?l28 ?c28 ?k28 ?a29 ?l29 ?c29 ?k29 ?a30 ?l30 ?c30 ?k30 ?z0 ?z1 ?z2 ?z3 ?z4 ?z5 ?z6 ?z7 ?z8 ?z9 ?z10 ?z11 ?z12 ?z13 ?z14 ?z15 ?z16
    (case aC => k_is)
    (case aL => k_is)
    (case pg => k_is)
    (case hd => k_is)
    (case po => k_is)
    (case sa => k_is)
    (case mk => k_is)
    (case kc => k_is)
    (case n1 => k_is)
    (case n2 => k_is)
    (case n3 => k_is)
    (case n4 => k_is)
    (case n5 => k_is)
    (case n6 => k_is)
    (case gc => k_is)
    (case gg => k_is)
    (case gt => k_is)
    (case go => k_is)
    (case g1 => first | rfl | k_is)
    (case ge => k_is)
    (case aI => k_is)
    (case iI => k_is)
    (case lI => k_is)
    (case cI => k_is)
    (case kI => k_is)
    (case lT => first | rfl | k_is)
    (case aM1 => k_is)
    (case iM1 => k_is)
    (case lM1 => k_is)
    (case cM1 => k_is)
    (case kM1 => k_is)
    (case aM2 => k_is)
    (case iM2 => k_is)
    (case lM2 => k_is)
    (case cM2 => k_is)
    (case kM2 => k_is)
    (case aM3 => k_is)
    (case iM3 => k_is)
    (case lM3 => k_is)
    (case cM3 => k_is)
    (case kM3 => k_is)
    (case aM4 => k_is)
    (case iM4 => k_is)
    (case lM4 => k_is)
    (case cM4 => k_is)
    (case kM4 => k_is)
    (case aM5 => k_is)
    (case iM5 => k_is)
    (case lM5 => k_is)
    (case cM5 => k_is)
    (case kM5 => k_is)
    (case aM6 => k_is)
    (case iM6 => k_is)
    (case lM6 => k_is)
    (case cM6 => k_is)
    (case kM6 => k_is)
    (case aM7 => k_is)
    (case iM7 => k_is)
    (case lM7 => k_is)
    (case cM7 => k_is)
    (case kM7 => k_is)
    (case a1 => k_is)
    (case l1 => k_is)
    (case c1 => k_is)
    (case k1 => k_is)
    (case a2 => k_is)
    (case l2 => k_is)
    (case c2 => k_is)
    (case k2 => k_is)
    (case a3 => k_is)
    (case l3 => k_is)
    (case c3 => k_is)
    (case k3 => k_is)
    (case a4 => k_is)
    (case l4 => k_is)
    (case c4 => k_is)
    (case k4 => k_is)
    (case a5 => k_is)
    (case l5 => k_is)
    (case c5 => k_is)
    (case k5 => k_is)
    (case a6 => k_is)
    (case l6 => k_is)
    (case c6 => k_is)
    (case k6 => k_is)
    (case a7 => k_is)
    (case l7 => k_is)
    (case c7 => k_is)
    (case k7 => k_is)
    (case a8 => k_is)
    (case l8 => k_is)
    (case c8 => k_is)
    (case k8 => k_is)
    (case a10 => k_is)
    (case l10 => k_is)
    (case c10 => k_is)
    (case k10 => k_is)
    (case a11 => k_is)
    (case l11 => k_is)
    (case c11 => k_is)
    (case k11 => k_is)
    (case a12 => k_is)
    (case l12 => k_is)
    (case c12 => k_is)
    (case k12 => k_is)
    (case a13 => k_is)
    (case l13 => k_is)
    (case c13 => k_is)
    (case k13 => k_is)
    (case a14 => k_is)
    (case l14 => k_is)
    (case c14 => k_is)
    (case k14 => k_is)
    (case a15 => k_is)
    (case l15 => k_is)
    (case c15 => k_is)
    (case k15 => k_is)
    (case a16 => k_is)
    (case l16 => k_is)
    (case c16 => k_is)
    (case k16 => k_is)
    (case a17 => k_is)
    (case l17 => k_is)
    (case c17 => k_is)
    (case k17 => k_is)
    (case a18 => k_is)
    (case l18 => k_is)
    (case c18 => k_is)
    (case k18 => k_is)
    (case a19 => k_is)
    (case l19 => k_is)
    (case c19 => k_is)
    (case k19 => k_is)
    (case a20 => k_is)
    (case l20 => k_is)
    (case c20 => k_is)
    (case k20 => k_is)
    (case a21 => k_is)
    (case l21 => k_is)
    (case c21 => k_is)
    (case k21 => k_is)
    (case a22 => k_is)
    (case l22 => k_is)
    (case c22 => k_is)
    (case k22 => k_is)
    (case a23 => k_is)
    (case l23 => k_is)
    (case c23 => k_is)
    (case k23 => k_is)
    (case a24 => k_is)
    (case l24 => k_is)
    (case c24 => k_is)
    (case k24 => k_is)
    (case a25 => k_is)
    (case l25 => k_is)
    (case c25 => k_is)
    (case k25 => k_is)
    (case a26 => k_is)
    (case l26 => k_is)
    (case c26 => k_is)
    (case k26 => k_is)
    (case a27 => k_is)
    (case l27 => k_is)
    (case c27 => k_is)
    (case k27 => k_is)
    (case a28 => k_is)
    (case l28 => k_is)
    (case c28 => k_is)
    (case k28 => k_is)
    (case a29 => k_is)
    (case l29 => k_is)
    (case c29 => k_is)
    (case k29 => k_is)
    (case a30 => k_is)
    (case l30 => k_is)
    (case c30 => k_is)
    (case k30 => k_is)
    (case z0 => k_is)
    (case z1 => k_is)
    (case z2 => k_is)
    (case z3 => k_is)
    (case z4 => k_is)
    (case z5 => k_is)
    (case z6 => k_is)
    (case z7 => k_is)
    (case z8 => k_is)
    (case z9 => k_is)
    (case z10 => k_is)
    (case z11 => k_is)
    (case z12 => k_is)
    (case z13 => k_is)
    (case z14 => k_is)
    (case z15 => k_is)
    (case z16 => k_is)
