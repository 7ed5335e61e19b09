import PyProof.Rows.All
import Wide.All
import OpenK.AllK
import Wide.FinOn
import PySem.Challenge.RW_foldletter_k11_octets_that_tell_no_sayin
import HandS.ForMost
import HandS.Walk
import HandS.IsInst
import HandS.Wide
import HandS.ReplaceDef
import HandS.ReplaceLit
import HandS.ReplaceList
import HandS.StrMore
import HandS.ExcInit
import HandS.ExcIs
import HandS.ExcField
import HandS.Defaults
import HandS.TryOnly
import HandS.WordsExc
import HandS.Rev
import HandS.Conv
import HandS.ClsMeth
import HandS.FStr
import HandS.Flow
import HandS.Style
import HandS.Strs
import PyProof.FString3
set_option Elab.async false
set_option linter.all false
set_option maxRecDepth 100000
set_option maxHeartbeats 4000000
namespace FL
open PySem PySem.Spec PyProof.Rows L2
def topS (i : Nat) : Stmt := PySem.Challenge.pw_foldletter_k11_octets_that_tell_no_sayin.main.body.getD i (.Pass ⟨0, 0, 0, 0⟩)
abbrev cLetterError : Stmt := topS 1
abbrev cNoOctets : Stmt := topS 2
abbrev cNoSaying : Stmt := topS 3
abbrev sIsWhole : Stmt := topS 6
abbrev sIsOctets : Stmt := topS 8
abbrev sIsOctet : Stmt := topS 9
abbrev sSayingOf : Stmt := topS 12
abbrev sIsSaySign : Stmt := topS 13
abbrev sOctetsOfSign : Stmt := topS 14
abbrev sSizeFrom : Stmt := topS 15
abbrev sSignOfOctets : Stmt := topS 16
abbrev sCellAt : Stmt := topS 18
abbrev sMixed : Stmt := topS 19
abbrev sSource : Stmt := topS 20
abbrev sNext : Stmt := topS 21
abbrev sLawSaying : Stmt := topS 22
abbrev sLawOctetsOf : Stmt := topS 23
abbrev sLawSign : Stmt := topS 24
abbrev sLawSignsOf : Stmt := topS 25
abbrev sLawOdd : Stmt := topS 26
abbrev sLawSpoilt : Stmt := topS 27
abbrev sLawAny : Stmt := topS 28
abbrev sLawSaid : Stmt := topS 29
abbrev sLaw : Stmt := topS 30
end FL

namespace FL
open PySem PySem.Spec PyProof.Rows L2
/-! ### small words -/
theorem pe_weak {X : Cx} {e : Expr} {t t' : TE} (h : PE X e t) (m : ∀ σ H Q, t' σ H Q → t σ H Q) : PE X e t' := ⟨fun pins s σ H Q I q => h.run pins s σ H Q I (m σ H Q q)⟩
theorem lt_one {a b : Nat} : ((([a] : List Nat) < [b])) ↔ a < b := by
  rw [List.cons_lt_cons_iff]
  simp
theorem bl_to {Q : V → Hp → Prop} {H : Hp} {a b : Bool} (e : a = b) (q : Q (.bl b) H) : Q (.bl a) H := by
  rw [e]
  exact q
def tBtw (i lo hi : Nat) : TE := fun σ H Q => ∃ c : Nat, σ[i]? = some (some (.str ⟨#[c]⟩)) ∧ Q (.bl (decide (lo ≤ c ∧ c ≤ hi))) H
theorem pe_btw {X : Cx} (i : Nat) {x a b : Str} {lo hi k1 k2 : Nat} {p1 p2 p3 pos : Pos} (ea : a.cps.toList = [lo]) (eb : b.cps.toList = [hi]) (hx : PE X (.Name x p2) (tVar i))
    (hm : lastMarks [.LtE, .LtE] [.Name x p2, .Constant (.str b) k2 p3] = false := by with_unfolding_all rfl) :
    PE X (.Compare (.Constant (.str a) k1 p1) [.LtE, .LtE] [.Name x p2, .Constant (.str b) k2 p3] pos) (tBtw i lo hi) := by
  refine pe_weak (pe_chain op_le_str op_le_str pe_str hx pe_str hm) ?_
  rintro σ H Q ⟨c, hc, q⟩
  refine ⟨_, hc, _, _, rfl, rfl, _, rfl, ?_⟩
  have e1 : (!decide (((⟨#[c]⟩ : Str).cps.toList) < a.cps.toList)) = decide (lo ≤ c) := by
    rw [ea]
    show (!decide (([c] : List Nat) < [lo])) = decide (lo ≤ c)
    rw [decide_eq_decide.mpr (lt_one (a := c) (b := lo))]
    by_cases h : lo ≤ c
    · rw [decide_eq_true h, decide_eq_false (by omega)]; rfl
    · rw [decide_eq_false h, decide_eq_true (by omega)]; rfl
  have e2 : (!decide (b.cps.toList < ((⟨#[c]⟩ : Str).cps.toList))) = decide (c ≤ hi) := by
    rw [eb]
    show (!decide (([hi] : List Nat) < [c])) = decide (c ≤ hi)
    rw [decide_eq_decide.mpr (lt_one (a := hi) (b := c))]
    by_cases h : c ≤ hi
    · rw [decide_eq_true h, decide_eq_false (by omega)]; rfl
    · rw [decide_eq_false h, decide_eq_true (by omega)]; rfl
  rw [e1]
  by_cases h1 : lo ≤ c
  · rw [decide_eq_true h1, if_pos rfl]
    refine ⟨_, _, rfl, rfl, bl_to e2 (bl_to ?_ q)⟩
    by_cases h2 : c ≤ hi
    · rw [decide_eq_true h2, decide_eq_true ⟨h1, h2⟩]
    · rw [decide_eq_false h2, decide_eq_false (fun z => h2 z.2)]
  · rw [decide_eq_false h1, if_neg Bool.false_ne_true]
    exact bl_to (decide_eq_false (fun z => h1 z.1)).symm q
/-- x or y of two truths -/
theorem pe_orB {X : Cx} {a b : Expr} {rest : List Expr} {pos : Pos} {ta tb : TE} (ha : PE X a ta) (hb : PE X (.BoolOp .Or (b :: rest) pos) tb) :
    PE X (.BoolOp .Or (a :: b :: rest) pos) (tOrV ta tb) := pe_or ha hb
/-! ### what stands where -/
structure FnAt (K : PySem.W.Frag) (mg : Str → Option Value) (x : Str) (st : Stmt) : Prop where
  ex : ∃ f fd, Fun K x x st f fd ∧ mg x = some (.ref f)
def Ready (P : Program) (w : World) (K : PySem.W.Frag) (mg : Str → Option Value) (base : Heap) (k : Nat) (x : Str) (ps : List Str) (sp : Sp) : Prop :=
  ∃ f fd, mg x = some (.ref f) ∧ PySem.W.keepIn K (.ref f) = true ∧ Binds K fd ps [] ∧ FnOk P w K mg base CX0 k f fd ps sp
section
variable {P : Program} {w : World} {K : PySem.W.Frag} {mg : Str → Option Value} {base : Heap}
theorem ready_of {x : Str} {st : Stmt} {k : Nat} {ps : List Str} {sp : Sp} (A : FnAt K mg x st)
    (hb : ∀ (kV doc pm : Value) (an : Option Addr) (cdv ct : Value) (us : List Value), us.length = ps.length → bindArgs (PySem.W.fnOf x x (defArgs st) (defBody st) (defScope st) .none kV doc pm an cdv ct) ⟨us, []⟩ = pure (ps.zip us))
    (ok : ∀ f fd, Fun K x x st f fd → FnOk P w K mg base CX0 k f fd ps sp) : Ready P w K mg base k x ps sp := by
  obtain ⟨f, fd, F, g⟩ := A.ex
  exact ⟨f, fd, g, F.kp, F.binds hb, ok f fd F⟩
/-! ### the mathematics of signs -/
def isLet (c : Nat) : Bool := decide (97 ≤ c ∧ c ≤ 122) || decide (65 ≤ c ∧ c ≤ 90)
def isFig (c : Nat) : Bool := decide (48 ≤ c ∧ c ≤ 57)
def isSig (c : Nat) : Bool := decide (c = 10) || (decide (32 ≤ c ∧ c ≤ 126) && !decide (c = 37))
def atomSigns : List Nat := [33, 35, 36, 38, 39, 42, 43, 45, 46, 47, 61, 63, 94, 95, 96, 123, 124, 125, 126]
def isAtm (c : Nat) : Bool := isLet c || (isFig c || decide (c ∈ atomSigns))
def spSign (f : Nat → Bool) : Sp := fun vs H Q _ => ∃ c : Nat, vs = [.str ⟨#[c]⟩] ∧ Q (.bl (f c)) H
theorem str_one {c d : Nat} : (V.str ⟨#[c]⟩ = V.str ⟨#[d]⟩) ↔ c = d := by
  constructor
  · intro h
    injection h with h
    injection h with h
    have h2 := congrArg Array.toList h
    simpa using h2
  · intro h
    rw [h]
end
end FL

namespace FL
open PySem PySem.Spec PyProof.Rows L2
section
variable {P : Program} {w : World} {K : PySem.W.Frag} {mg : Str → Option Value} {base : Heap}
theorem szl {n : Nat} (h : n ≤ 10000) : n < sizeLine := Nat.lt_of_le_of_lt h (by decide)
theorem same_new {H : Hp} {p : Addr} {o : HO} (h : H p = none) : Same H (upd H p o) := fun b x e => by
  rw [upd_ne (ne_of_none e h)]
  exact e
/-- a store to what was not there at the start -/
theorem same_set {H H1 : Hp} {p : Addr} {o : HO} (s : Same H H1) (h : H p = none) : Same H (upd H1 p o) := fun b x e => by
  rw [upd_ne (ne_of_none e h)]
  exact s b x e
theorem take_more {α : Type} {l : List α} {i : Nat} {x : α} (h : l[i]? = some x) : l.take (i + 1) = l.take i ++ [x] := by
  rw [List.take_add_one, h]
  rfl
def allSig (l : List Nat) : Bool := l.all isSig
def isLn (l : List Nat) : Bool := allSig l && !decide (10 ∈ l)
/-- of a text f of its signs; of what is none, False -/
def spLine (K : PySem.W.Frag) (f : List Nat → Bool) : Sp := fun vs H Q _ => ∃ v, vs = [v] ∧
  ((∃ z : Str, v = .str z ∧ z.length ≤ 10000 ∧ ∀ H', Same H H' → Q (.bl (f z.cps.toList)) H') ∨ (∃ t, TyX K H v t ∧ PySem.W.kitOne K t (.type "str") = some false ∧ Q (.bl false) H))
theorem len_cps (z : Str) : z.cps.toList.length = z.length := by simp [Str.length]
end
end FL

namespace FL
open PySem PySem.Spec PyProof.Rows L2
section
variable {P : Program} {w : World} {K : PySem.W.Frag} {mg : Str → Option Value} {base : Heap}
def spCellAt (K : PySem.W.Frag) : Sp := fun vs H Q _ => ∃ (a : Addr) (ns : List Int) (k : Nat), vs = [.ref a, .int (k : Nat)] ∧ SqL K H a (ns.map V.int) ∧ ∀ x : Int, Q (.int x) H
theorem scCellAt : FnScope ["_law_script", "_law_k"] ["_law_script", "_law_k"] (defScope sCellAt) := ⟨rfl, rfl, rfl, by decide +kernel, rfl, by decide +kernel, by decide +kernel⟩
theorem r_cell_at (A : FnAt K mg "_law_cell_at" sCellAt) (ml : mg "len" = none) : Ready P w K mg base 1 "_law_cell_at" ["_law_script", "_law_k"] (spCellAt K) := by
  refine ready_of A (fun _ _ _ _ _ _ us hl => match us, hl with | [_, _], _ => rfl) fun f fd F => ?_
  refine F.ok scCellAt (fun vs H Q E h => ?_) (fun cdv A outer s H vs Q E hr h => ?_)
  · obtain ⟨a, ns, k, rfl, _⟩ := h
    rfl
  · obtain ⟨a, ns, k, rfl, hS, q⟩ := h
    refine ⟨_, pss_cons (ps_if (pt_cmpR op_lt (pv 1) (pe_callB call_len_seq (by rfl) ml PySem.boot_len (pa_cons (pv 0) pa_nil)) (nomark _)) (pss_one (ps_ret (pe_ix ix_list (pv 0) (pv 1) (fun _ _ => rfl)))) pss_nil)
      (pss_one (ps_ret pe_int)), ?_⟩
    refine ⟨_, rfl, _, rfl, a, _, rfl, .inl hS, _, _, rfl, rfl, _, rfl, ite2 (fun h => ?_) (fun h => ?_)⟩
    · have h1 : k < ns.length := by
        have := of_decide_eq_true h
        rw [List.length_map] at this
        omega
      refine ⟨_, rfl, _, rfl, a, _, _, _, rfl, rfl, hS, atI_nat (v := .int ns[k]) ?_, q _⟩
      rw [List.getElem?_map, List.getElem?_eq_getElem h1]
      rfl
    · exact q 0
def spMixed : Sp := fun vs H Q _ => ∃ (c k : Int), vs = [.int c, .int k] ∧ ∀ r : Int, 0 ≤ r → r < 2147483563 → Q (.int r) H
theorem scMixed : FnScope ["_law_cell", "_law_k", "_law_low"] ["_law_cell", "_law_k"] (defScope sMixed) := ⟨rfl, rfl, rfl, by decide +kernel, rfl, by decide +kernel, by decide +kernel⟩
theorem r_mixed (A : FnAt K mg "_law_mixed" sMixed) : Ready P w K mg base 1 "_law_mixed" ["_law_cell", "_law_k"] spMixed := by
  refine ready_of A (fun _ _ _ _ _ _ us hl => match us, hl with | [_, _], _ => rfl) fun f fd F => ?_
  refine F.ok scMixed (fun vs H Q E h => ?_) (fun cdv A outer s H vs Q E hr h => ?_)
  · obtain ⟨c, k, rfl, _⟩ := h
    rfl
  · obtain ⟨c, k, rfl, q⟩ := h
    refine ⟨_, pss_cons (ps_set (i := 2) scMixed.nd rfl (.inl rfl) (pe_op op_add (pe_op op_mod (pv 0) pe_int) (pe_op op_mul (pe_op op_fdivW (pv 0) pe_int) pe_int)))
      (pss_cons (ps_set (i := 2) scMixed.nd rfl (.inl rfl) (pe_op op_mod (pe_op op_mul (pe_op op_add (pe_op op_add (pv 2) (pe_op op_mul pe_int (pv 1))) pe_int) pe_int) pe_int))
      (pss_cons (ps_set (i := 2) scMixed.nd rfl (.inl rfl) (pe_op op_mod (pe_op op_mul (pv 2) (pe_op op_add (pe_op op_add (pe_op op_fdivN (pv 2) pe_int) pe_int) (pv 1))) pe_int))
      (pss_one (ps_ret (pe_op op_mod (pe_op op_mul (pv 2) (pe_op op_add (pe_op op_fdivN (pv 2) pe_int) pe_int)) pe_int))))), ?_⟩
    refine ⟨_, rfl, _, _, rfl, rfl, (show (0 : Int) < 2147483629 by decide), _, rfl, _, _, rfl, rfl, wide_div (b := 40) (by decide) (by decide) (by decide) (by decide), _, _, rfl, rfl, .inr (by decide), _, _, rfl, rfl, ?_⟩
    generalize c % 2147483629 + c / 2147483629 * 30011 = x1
    refine ⟨_, rfl, _, rfl, _, _, rfl, rfl, .inl (by decide), _, _, rfl, rfl, _, _, rfl, rfl, _, _, rfl, rfl, .inr (by decide), _, _, rfl, rfl, (show (0 : Int) < 2147483629 by decide), ?_⟩
    have a2 := Int.emod_nonneg ((x1 + 69621 * k + 1) * 48271) (by decide : (2147483629 : Int) ≠ 0)
    have b2 := Int.emod_lt_of_pos ((x1 + 69621 * k + 1) * 48271) (by decide : (0 : Int) < 2147483629)
    generalize ((x1 + 69621 * k + 1) * 48271) % 2147483629 = x2 at a2 b2
    refine ⟨_, rfl, _, rfl, _, _, rfl, rfl, ⟨by decide, by decide⟩, _, _, rfl, rfl, _, rfl, _, _, rfl, rfl, _, _, rfl, rfl, .inl ⟨by omega, by omega⟩, _, _, rfl, rfl, (show (0 : Int) < 2147483587 by decide), ?_⟩
    generalize hX : x2 * (x2.fdiv 907 + 16831 + k) = X3
    have a3 := Int.emod_nonneg X3 (by decide : (2147483587 : Int) ≠ 0)
    have b3 := Int.emod_lt_of_pos X3 (by decide : (0 : Int) < 2147483587)
    generalize X3 % 2147483587 = x3 at a3 b3
    refine ⟨_, rfl, _, rfl, _, _, rfl, rfl, ⟨by decide, by decide⟩, _, _, rfl, rfl, _, _, rfl, rfl, .inl ⟨by omega, by omega⟩, _, _, rfl, rfl, (show (0 : Int) < 2147483563 by decide), ?_⟩
    exact q _ (Int.emod_nonneg _ (by decide)) (Int.emod_lt_of_pos _ (by decide))
/-- a source: three numbers at a -/
def Src (H : Hp) (a : Addr) : Prop := ∃ x y z : Int, H a = some (.lst [.int x, .int y, .int z])
def spSource (K : PySem.W.Frag) : Sp := fun vs H Q _ => ∃ (a : Addr) (ns : List Int) (k : Nat), vs = [.ref a, .int (k : Nat)] ∧ SqL K H a (ns.map V.int) ∧ ∀ H' p, Same H H' → H p = none → Src H' p → Q (.ref p) H'
theorem scSource : FnScope ["_law_script", "_law_k", "_law_cell"] ["_law_script", "_law_k"] (defScope sSource) := ⟨rfl, rfl, rfl, by decide +kernel, rfl, by decide +kernel, by decide +kernel⟩
theorem r_source (A : FnAt K mg "_law_source" sSource) (RC : Ready P w K mg base 1 "_law_cell_at" ["_law_script", "_law_k"] (spCellAt K)) (RM : Ready P w K mg base 1 "_law_mixed" ["_law_cell", "_law_k"] spMixed) (ml : mg "len" = none) :
    Ready P w K mg base 2 "_law_source" ["_law_script", "_law_k"] (spSource K) := by
  obtain ⟨f1, fd1, g1, k1, b1, G1⟩ := RC
  obtain ⟨f2, fd2, g2, k2, b2, G2⟩ := RM
  refine ready_of A (fun _ _ _ _ _ _ us hl => match us, hl with | [_, _], _ => rfl) fun f fd F => ?_
  refine F.ok scSource (fun vs H Q E h => ?_) (fun cdv A outer s H vs Q E hr h => ?_)
  · obtain ⟨a, ns, k, rfl, _⟩ := h
    rfl
  · obtain ⟨a, ns, k, rfl, hS, q⟩ := h
    have ix : ∀ e1 e2, PlainIx (.Name e1 e2) := fun _ _ _ _ => rfl
    refine ⟨_, pss_cons (ps_if (pt_cmpR op_lt (pv 1) (pe_callB call_len_seq (by rfl) ml PySem.boot_len (pa_cons (pv 0) pa_nil)) (nomark _))
        (pss_one (ps_ret (pe_lst (pa_cons (pe_ix ix_list (pv 0) (pv 1) (fun _ _ => rfl)) (pa_cons (pe_ix ix_list (pv 0) (pv 1) (fun _ _ => rfl)) (pa_cons pe_int pa_nil)))))) pss_nil)
      (pss_cons (ps_set (i := 2) scSource.nd rfl (.inl rfl) (pe_call G2 hr (by rfl) g2 k2 b2 .nil pass0 (pa_cons (pe_call G1 hr (by rfl) g1 k1 b1 .nil pass0 (pa_cons (pv 0) (pa_cons pe_int pa_nil))) (pa_cons (pe_op op_add pe_int (pv 1)) pa_nil))))
      (pss_one (ps_ret (pe_lst (pa_cons (pv 2) (pa_cons (pv 2) (pa_cons pe_int pa_nil))))))), ?_⟩
    refine ⟨_, rfl, _, rfl, a, _, rfl, .inl hS, _, _, rfl, rfl, _, rfl, ite2 (fun h => ?_) (fun h => ?_)⟩
    · have h1 : k < ns.length := by
        have := of_decide_eq_true h
        rw [List.length_map] at this
        omega
      have g : (ns.map V.int)[k]? = some (.int ns[k]) := by
        rw [List.getElem?_map, List.getElem?_eq_getElem h1]
        rfl
      refine ⟨_, rfl, _, rfl, a, _, _, _, rfl, rfl, hS, atI_nat g, _, rfl, _, rfl, a, _, _, _, rfl, rfl, hS, atI_nat g, (by show 3 ≤ sizeLine; decide), fun l hl => ?_⟩
      exact q _ l (same_new hl) hl ⟨_, _, _, upd_same⟩
    · refine ⟨_, rfl, a, ns, 0, rfl, hS, fun x => ⟨_, rfl, _, _, rfl, rfl, x, _, rfl, fun r _ _ => ?_⟩⟩
      refine ⟨_, rfl, _, rfl, (by show 3 ≤ sizeLine; decide), fun l hl => ?_⟩
      exact q _ l (same_new hl) hl ⟨_, _, _, upd_same⟩
def spNext : Sp := fun vs H Q _ => ∃ (a : Addr) (m : Nat) (x y z : Int), vs = [.ref a, .int (m : Nat)] ∧ 1 ≤ m ∧ m ≤ 100000 ∧ H a = some (.lst [.int x, .int y, .int z]) ∧
  ∀ (r : Nat) (x' z' : Int), r < m → Q (.int (r : Nat)) (upd H a (.lst [.int x', .int y, .int z']))
theorem scNext : FnScope ["_law_source_here", "_law_many", "_law_found"] ["_law_source_here", "_law_many"] (defScope sNext) := ⟨rfl, rfl, rfl, by decide +kernel, rfl, by decide +kernel, by decide +kernel⟩
theorem r_next (A : FnAt K mg "_law_next" sNext) (RM : Ready P w K mg base 1 "_law_mixed" ["_law_cell", "_law_k"] spMixed) : Ready P w K mg base 2 "_law_next" ["_law_source_here", "_law_many"] spNext := by
  obtain ⟨f2, fd2, g2, k2, b2, G2⟩ := RM
  refine ready_of A (fun _ _ _ _ _ _ us hl => match us, hl with | [_, _], _ => rfl) fun f fd F => ?_
  refine F.ok scNext (fun vs H Q E h => ?_) (fun cdv A outer s H vs Q E hr h => ?_)
  · obtain ⟨a, m, x, y, z, rfl, _⟩ := h
    rfl
  · obtain ⟨a, m, x, y, z, rfl, hm1, hm2, hS, q⟩ := h
    refine ⟨_, pss_cons (ps_if (pt_cmpR op_ge (pe_ix ix_list (pv 0) pe_int (fun _ _ => rfl)) (pe_op op_pow pe_int pe_int) (nomark _))
        (pss_cons (ps_set (i := 2) scNext.nd rfl (.inl rfl) (pe_op op_mod (pe_ix ix_list (pv 0) pe_int (fun _ _ => rfl)) (pv 1)))
          (pss_cons (ps_asg (pe_op op_fdivN (pe_ix ix_list (pv 0) pe_int (fun _ _ => rfl)) (pv 1)) (pg_sub (pv 0) pe_int set_list))
          (pss_one (ps_ret (pv 2))))) pss_nil)
      (pss_cons (ps_asg (pe_op op_add (pe_ix ix_list (pv 0) pe_int (fun _ _ => rfl)) pe_int) (pg_sub (pv 0) pe_int set_list))
      (pss_one (ps_ret (pe_op op_mod (pe_call G2 hr (by rfl) g2 k2 b2 .nil pass0 (pa_cons (pe_ix ix_list (pv 0) pe_int (fun _ _ => rfl)) (pa_cons (pe_ix ix_list (pv 0) pe_int (fun _ _ => rfl)) pa_nil))) (pv 1))))), ?_⟩
    have hm0 : (0 : Int) < (m : Int) := by omega
    refine ⟨_, rfl, a, _, _, .int x, rfl, rfl, SqL.of hS, rfl, _, _, rfl, rfl, ⟨by decide, by decide, by decide⟩, _, _, rfl, rfl, _, rfl, ite2 (fun h => ?_) (fun h => ?_)⟩
    · refine ⟨_, rfl, a, _, _, .int x, rfl, rfl, SqL.of hS, rfl, _, rfl, _, _, rfl, rfl, hm0, ?_⟩
      refine ⟨_, rfl, a, _, _, .int x, rfl, rfl, SqL.of hS, rfl, _, rfl, _, _, rfl, rfl, ⟨by omega, by omega⟩, _, rfl, a, _, _, 0, rfl, rfl, hS, rfl, ?_⟩
      have h1 := Int.emod_nonneg x (by omega : (m : Int) ≠ 0)
      have h2 := Int.emod_lt_of_pos x hm0
      have e : ((x % (m : Int)).toNat : Int) = x % (m : Int) := Int.toNat_of_nonneg h1
      refine ⟨_, rfl, ?_⟩
      have := q (x % (m : Int)).toNat (x.fdiv m) z (by omega)
      rw [e] at this
      exact this
    · refine ⟨_, rfl, a, _, _, .int z, rfl, rfl, SqL.of hS, rfl, _, _, rfl, rfl, _, rfl, a, _, _, 2, rfl, rfl, hS, rfl, ?_⟩
      refine ⟨_, rfl, a, _, _, .int y, rfl, rfl, SqL.of upd_same, rfl, _, rfl, a, _, _, .int (z + 1), rfl, rfl, SqL.of upd_same, rfl, y, _, rfl, fun r _ _ => ?_⟩
      refine ⟨_, rfl, _, _, rfl, rfl, hm0, ?_⟩
      have h1 := Int.emod_nonneg r (by omega : (m : Int) ≠ 0)
      have h2 := Int.emod_lt_of_pos r hm0
      have e : ((r % (m : Int)).toNat : Int) = r % (m : Int) := Int.toNat_of_nonneg h1
      have := q (r % (m : Int)).toNat x (z + 1) (by omega)
      rw [e] at this
      exact this
end
end FL

namespace FL
open PySem PySem.Spec PyProof.Rows L2
section
variable {P : Program} {w : World} {K : PySem.W.Frag} {mg : Str → Option Value} {base : Heap}
/-- only the source at a has changed, and new things came -/
structure Drawn (a : Addr) (H H' : Hp) : Prop where
  old : ∀ b o, b ≠ a → H b = some o → H' b = some o
  src : Src H' a
theorem Drawn.refl {a : Addr} {H : Hp} (h : Src H a) : Drawn a H H := ⟨fun _ _ _ h => h, h⟩
theorem Drawn.trans {a : Addr} {H H1 H2 : Hp} (x : Drawn a H H1) (y : Drawn a H1 H2) : Drawn a H H2 := ⟨fun b o n h => y.old b o n (x.old b o n h), y.src⟩
theorem Drawn.same {a : Addr} {H H1 H2 : Hp} (x : Drawn a H H1) (s : Same H1 H2) : Drawn a H H2 :=
  ⟨fun b o n h => s b o (x.old b o n h), let ⟨p, q, r, e⟩ := x.src; ⟨p, q, r, s _ _ e⟩⟩
theorem drawn_upd {a : Addr} {H : Hp} {x y z : Int} : Drawn a H (upd H a (.lst [.int x, .int y, .int z])) := ⟨fun b o n h => by rw [upd_ne n]; exact h, ⟨x, y, z, upd_same⟩⟩
theorem drawn_set {a p : Addr} {H H1 : Hp} {o : HO} (x : Drawn a H H1) (h : H p = none) (n : a ≠ p) : Drawn a H (upd H1 p o) :=
  ⟨fun b u nb e => by rw [upd_ne (ne_of_none e h)]; exact x.old b u nb e, let ⟨u, v, r, e⟩ := x.src; ⟨u, v, r, by rw [upd_ne n]; exact e⟩⟩
theorem joinL_nil : ∀ L : List (List Nat), TL.joinL [] L = L.flatten
  | [] => rfl
  | [p] => by simp [TL.joinL]
  | p :: q :: r => by
    have := joinL_nil (q :: r)
    show p ++ ([] ++ TL.joinL [] (q :: r)) = _
    rw [List.nil_append, this]
    rfl
theorem join_codes (ys : List Str) : (Txt.join ("" : Str) ys).cps.toList = (ys.map fun y => y.cps.toList).flatten := by
  have e : TL.tl ("" : Str) = [] := by decide +kernel
  have h := TL.tl_join ("" : Str) ys
  rw [← TL.join_eq, e, joinL_nil] at h
  exact h
theorem sum_one {ys : List Str} (h : ∀ t ∈ ys, t.length ≤ 1) : (ys.map (·.length)).sum ≤ ys.length := by
  induction ys with
  | nil => exact Nat.le_refl _
  | cons y r ih =>
    have h1 := h y (List.mem_cons_self ..)
    have h2 := ih fun t ht => h t (List.mem_cons_of_mem _ ht)
    rw [List.map_cons, List.sum_cons, List.length_cons]
    omega
theorem codes_one (c : Nat) : (⟨#[c]⟩ : Str).cps.toList = [c] := rfl
theorem flat_ones {ys : List Str} {l : List Nat} (h : ∀ t ∈ ys, ∃ c ∈ l, t = ⟨#[c]⟩) : (∀ c ∈ (ys.map fun y => y.cps.toList).flatten, c ∈ l) ∧ ((ys.map fun y => y.cps.toList).flatten).length = ys.length := by
  induction ys with
  | nil => exact ⟨fun c hc => by simp at hc, rfl⟩
  | cons y r ih =>
    obtain ⟨i1, i2⟩ := ih fun t ht => h t (List.mem_cons_of_mem _ ht)
    obtain ⟨c, hc, rfl⟩ := h y (List.mem_cons_self ..)
    rw [List.map_cons, List.flatten_cons]
    show (∀ d ∈ [c] ++ _, d ∈ l) ∧ ([c] ++ _).length = _
    refine ⟨fun d hd => ?_, by rw [List.length_append, i2, List.length_cons]; simp; omega⟩
    rcases List.mem_append.mp hd with hd | hd
    · rw [List.mem_singleton.mp hd]; exact hc
    · exact i1 d hd
def spSigns : Sp := fun vs H Q _ => ∃ (a : Addr) (s : Str) (m : Nat), vs = [.ref a, .str s, .int (m : Nat)] ∧ 1 ≤ s.length ∧ s.length ≤ 10000 ∧ m ≤ 10000 ∧ Src H a ∧
  ∀ (t : Str) (H' : Hp), (∀ c ∈ t.cps.toList, c ∈ s.cps.toList) → t.length = m → Drawn a H H' → Q (.str t) H'
end
end FL

namespace FL
open PySem PySem.Spec PyProof.Rows L2
/-! ### the class of a caught error that has a dict of its own -/
section
open PySem.W PySem.Calls
theorem cls_found {K : Frag} {D : Addr} {oo : Option Obj} (G : ExcC K D) : findObj K D oo "__class__" = some (.bind (.builtin "getset_descriptor.__get__") (.builtin "object.__class__")) := by
  obtain ⟨cd, hc, _⟩ := any_some G.hd
  unfold findObj
  rw [hc, Option.bind_some, G.ha, Option.bind_some]
  simp [G.hn, G.ht]
theorem cls_of_exc {prog : Program} {w : World} {A : Around} {E : Value → Shared → Prop} {s : Shared} {K : Frag} {x D : Addr} {ox : Obj} {oo : Option Obj} {Q : Option Value → Shared → Prop}
    (G : ExcC K D) (Y : K.In s.heap) (J : InstAt s.heap x ox D oo) (q : Q (some (.ref D)) { s with toks := s.toks + 1 }) : wpAny (model prog w) A (getAttr? (.ref x) "__class__") Q E s := by
  have found := cls_found (oo := oo) G
  obtain ⟨hh, gg, dd, tt, oos⟩ := s
  have t0 : Looks (model prog w) hh (typeOf (.ref x)) (.ref D) := J.type
  have t1 := looks_findIn (M := model prog w) Y G.hg
  have t2 := looks_findIn (M := model prog w) Y G.hk
  have t3 := looks_find (M := model prog w) Y J found
  have isB : Looks (model prog w) hh (isInstance (.ref x) (.type "BaseException")) true := t0.andThen (looks_subIn Y G.hs)
  have n0 : (false && onTheHeap (Value.builtin "BaseException.__getattribute__")) = false := rfl
  have n1 : (onTheHeap (Value.ref D) && Value.builtin "BaseException.__getattribute__" == Value.builtin "object.__getattribute__") = false := by
    rw [show (Value.builtin "BaseException.__getattribute__" == Value.builtin "object.__getattribute__") = false by decide +kernel]
    rfl
  unfold getAttr? getAttrBy? getAttrBy
  refine wpAny_bind (wpAny_mkText (wpAny_bind (wpAny_attempt (wpAny_holding (wpAny_bind (t0.at (wpAny_bind (t1.at ?_))))))))
  refine (show wpAny (model prog w) A (if (onTheHeap (Value.ref D) && Value.builtin "BaseException.__getattribute__" == Value.builtin "object.__getattribute__") = true then _ else _) _ _ _ from ?_)
  rw [n1, if_neg Bool.false_ne_true]
  unfold getAttrByItsOwn hookBefore
  refine wpAny_bind ?_
  rw [if_pos (show onTheHeap (Value.ref D) = true from rfl)]
  refine t2.at (wpAny_bind (wpAny_attempt (wpAny_holding ?_)))
  unfold callGetattribute
  rw [n0, if_neg Bool.false_ne_true]
  unfold boundAndCalled
  rw [PySem.F.excAttr_ValueError.ga.bind (.ref x)]
  refine wpAny_bind (wpAny_pure ?_)
  refine (show wpAny (model prog w) _ (call (.builtin "BaseException.__getattribute__") [.ref x, .str "__class__" tt]) _ _ _ from ?_)
  refine wpAny_call (codeAny_call_builtin PySem.F.excAttr_ValueError.ga.plain PySem.F.entry_bexc_ga ?_)
  refine @check_slot (model prog w) _ _ ⟨hh, gg, dd, tt + 1, oos⟩ "BaseException.__getattribute__" "BaseException" "__getattribute__" (.ref x) [.str "__class__" tt] [] _ (by decide +kernel) (by decide +kernel) isB (PySem.F.args_bexc_ga (.ref x) (.str "__class__" tt)) ?_
  unfold Builtin.«object.__getattribute__»
  refine wpAny_bind (wpAny_of_eq (a := ((Value.ref x : Value), [Value.str "__class__" tt])) (by first | rfl | (simp only [slotArgs]; rfl)) ?_)
  refine wpAny_bind (wpAny_pure (wpAny_bind (t0.at (wpAny_bind (t3.at ?_)))))
  refine (show wpAny (model prog w) _ (holding [Value.builtin "object.__class__"] (call (.builtin "getset_descriptor.__get__") [.builtin "object.__class__", .ref x, .ref D]) >>= ret) _ _ _ from ?_)
  refine wpAny_bind (wpAny_holding (wpAny_call (class_get (s := ⟨hh, gg, dd, tt + 1, oos⟩) (ox := ox) (od := oo) Y J G.hm (wpAny_pure ?_))))
  refine (show wpAny (model prog w) _ (handedOut (.ref D)) _ _ _ from ?_)
  rw [handedOut_of (v := .ref D) rfl]
  first
    | exact wpAny_pure (wpAny_pure q)
    | exact wpAny_pure q
    | exact wpAny_pure (wpAny_bind (wpAny_pure (wpAny_pure q)))
/-- an own class at D stands in the written part as a class -/
theorem cls_there {K : Frag} {D : Addr} (h : hasDictIn K D = true) : ∃ c d' cd sl, K.lookup D = some ⟨c, d', .cls cd, sl⟩ := by
  obtain ⟨cd, hc, _⟩ := any_some h
  unfold clsIn at hc
  split at hc
  · rename_i c' d' cd' sl' ho
    exact ⟨c', d', cd', sl', ho⟩
  · cases hc
theorem kitx_excD {K : Frag} {x D : Addr} {ox : Obj} {oo : Option Obj} (G : ExcC K D) : KitX K (.ref x) (.ref D) (fun h => InstAt h x ox D oo) where
  ty := fun _ _ _ J => J.type
  it := fun _ _ Y _ => by
    obtain ⟨c', d', cd', sl', ho⟩ := cls_there G.hd
    intro A' Q' E' s' k q
    unfold isType loadHead
    exact wpAny_bind (wpAny_loadPart (k _ _ (Y _ _ ho)) (wpAny_pure q))
  ne := fun h tp dd its n sl Y htp => by
    obtain ⟨c', d', cd', sl', ho⟩ := cls_there G.hd
    refine Bool.eq_false_iff.mpr fun z => ?_
    have e : D = tp := Value.ref.inj (beq_iff_eq.mp z)
    subst e
    have z2 := (Y _ _ ho).symm.trans htp
    cases z2
  ca := fun Y J k => cls_of_exc G Y J k
end
theorem kit_same {K : PySem.W.Frag} {C : Addr} : PySem.W.kitOne K (.ref C) (.ref C) = some true := by
  unfold PySem.W.kitOne
  rw [if_pos (beq_self_eq_true _)]
theorem kit_own {K : PySem.W.Frag} {C D : Addr} {b : Bool} (n : ((Value.ref C) == (Value.ref D)) = false) (t : PySem.W.typeIn K (.ref D) = some (.type "type")) (d : PySem.W.hasDictIn K D = true) (s : PySem.W.subIn K (.ref C) (.ref D) = some b) : PySem.W.kitOne K (.ref C) (.ref D) = some b := by
  obtain ⟨cd, hc, _⟩ := PySem.W.any_some d
  unfold PySem.W.kitOne
  rw [if_neg (by rw [n]; exact Bool.false_ne_true)]
  show (if ((PySem.W.clsIn K D).isSome && PySem.W.typeIn K (.ref D) == some (.type "type")) = true then PySem.W.subIn K (.ref C) (.ref D) else none) = some b
  rw [hc, t, if_pos (by rfl)]
  exact s
/-- isinstance(e, c), e the caught error at a, its own dict at dd -/
def rIsD (K : PySem.W.Frag) (D a : Addr) (dd : Addr) : List V → Hp → VK → Prop := fun xs H Q => ∃ (c : V) (cv : Value) (b : Bool) (fs : List (Str × V)), xs = [.ref a, c] ∧ H dd = some (.xd fs) ∧ (∀ u, RelV c u → u = cv) ∧ PySem.W.kitOne K (.ref D) cv = some b ∧ Q (.bl b) H
theorem call_isD {X : Cx} {a D dd : Addr} {oe : Obj} {pn : List (Addr × Obj)} (G : ExcC X.K D) (hz : Zc (.ref D) (some dd) oe) (hf : ∃ vs, oe.data = .fields vs) : CallR (X.suite a ((a, oe) :: pn)) (.builtin "isinstance") (rIsD X.K D a dd) := by
  intro pins s σ H xs us Q I r h
  obtain ⟨c, cv, b, fs, rfl, hd, hcv, e, q⟩ := h
  obtain ⟨u1, u2, rfl, rx, rt⟩ := vals2 r
  cases rx
  have ec := hcv _ rt
  subst ec
  obtain ⟨hget, _⟩ := I.pin (a, oe) (List.mem_append.mpr (.inl List.mem_cons_self))
  obtain ⟨vs, hv⟩ := hf
  have hx : ObjOk X.prog X.w H s.heap dd (.xd fs) := I.hok dd _ hd
  obtain ⟨mA, hns, _⟩ := hx
  obtain ⟨od, ho, _⟩ := lookIn_ns hns
  have J : PySem.W.InstAt s.heap a oe D (some od) := ⟨hget, hz.1, by unfold PySem.W.notCls; rw [hv] <;> rfl, by rw [hz.2]; exact ho⟩
  exact PySem.W.kia_one (kitx_excD G) I.kIn J e (fun z => nomatch z) fun tk => ⟨.bl b, H, I.kept (t' := tk) fun _ _ z => z, rfl, q⟩
/-- the same, where it is told only later which class and which dict the caught error has -/
def rIsG (K : PySem.W.Frag) (D a : Addr) (cls : Value) (d : Option Addr) : List V → Hp → VK → Prop := fun xs H Q => cls = .ref D ∧ ∃ dd, d = some dd ∧ rIsD K D a dd xs H Q
theorem call_isG {X : Cx} {a D : Addr} {cls : Value} {d : Option Addr} {oe : Obj} {pn : List (Addr × Obj)} (G : ExcC X.K D) (hz : Zc cls d oe) (hf : ∃ vs, oe.data = .fields vs) : CallR (X.suite a ((a, oe) :: pn)) (.builtin "isinstance") (rIsG X.K D a cls d) := by
  intro pins s σ H xs us Q I r h
  obtain ⟨rfl, dd, rfl, h⟩ := h
  exact call_isD G hz hf pins s σ H xs us Q I r h
/-! ### C.__init__(self, ..), C an own class -/
structure ClsFn (K : PySem.W.Frag) (C fI : Addr) : Prop where
  ga : PySem.W.specialIn K (.ref C) "__getattribute__" = some (some (.builtin "type.__getattribute__"))
  rd : PySem.W.readsIn K C (.type "type") = true
  at_ : PySem.W.findCls K (.ref C) (.type "type") "__init__" = some (.val (.ref fI))
  kp : PySem.W.keepIn K (.ref fI) = true
theorem pe_cinit {X : Cx} {x : Str} {C fI : Addr} {CX : CXT} {k : Nat} {fd : FuncData} {ps : List Str} {sp : Sp} {ds : List Value} {dvs : List V} {E : XK} {e : Expr} {es : List Expr} {t : TA} {p1 p2 pos : Pos} {pl : Sem Bool} (T : ClsFn X.K C fI) (F : FnOk X.prog X.w X.K X.mg X.base CX k fI fd ps sp) (hr : Room k X.A)
    (hg : Gl X x) (hm : X.mg x = some (.ref C)) (hb : Binds X.K fd ps ds) (hd : Vals dvs ds) (hx : Passes CX X E) (ha : PA X (e :: es) t)
    (hc : eval (.Call (.Attribute (.Name x p1) "__init__" p2) (e :: es) [] pos) X.env = (do
      let ov ← eval (.Name x p1) X.env
      standAt p2.atName
      let (f, first) ← holding [ov] (getMethod ov "__init__" pl)
      callWith pos f first (backTo pos (starEach (e :: es) X.env)) (backToKw pos (keywordEach [] X.env))) := by rfl)
    (hdb : (x == ("__debug__" : Str)) = false := by decide) (he : starEach (e :: es) X.env = (false, eval e X.env) :: starEach es X.env := by rfl) (hpl : (backTo pos (starEach es X.env)).any (·.1) = false := by rfl) :
    PE X (.Call (.Attribute (.Name x p1) "__init__" p2) (e :: es) [] pos) (tCall sp dvs E t) := by
  refine ⟨fun pins s σ H Q I h => ?_⟩
  refine PySem.W.methodCall_KW (ld_glob I hg hm ?_ hdb) hc
  refine PySem.W.method_cls I.kIn T.ga (ClX.getcval_ok (v := .ref fI) (u := .ref fI) I ⟨T.rd, T.ga⟩ ⟨T.at_, rfl⟩ fun s1 I1 => ?_)
  refine (show wpAny (model X.prog X.w) X.A (callWith pos (.ref fI) [] (backTo pos (starEach (e :: es) X.env)) []) _ _ _ from ?_)
  refine PySem.W.callWith_K (h₀ := X.base) I.ok.mod.kin T.kp (thn (ha.run pos pins s1 σ H _ I1 h) fun us s2 ⟨vs, H1, I2, r, q⟩ => ⟨I2.kIn, ?_⟩) he hpl
  exact run_fn F hr hb hd hx I2 r q
section
variable {P : Program} {w : World} {K : PySem.W.Frag} {mg : Str → Option Value} {base : Heap}
abbrev sLE : Stmt := inClass cLetterError 0
abbrev FunA (K : PySem.W.Frag) (qual : Str) (st : Stmt) (dvs : List V) (f : Addr) (fd : FuncData) : Prop := FunD K "__init__" qual (defArgs st) (defBody st) (defScope st) dvs [] f fd
def spLE (K : PySem.W.Frag) : Sp := fun vs H Q _ => ∃ (a C : Addr) (v : V), vs = [.ref a, v] ∧ OexC K C ∧ H a = some (exo a C none) ∧ Q .non H
theorem scLE : FnScope ["self", "why"] ["self", "why"] (defScope sLE) := ⟨rfl, rfl, rfl, by decide +kernel, rfl, by decide +kernel, by decide +kernel⟩
theorem ok_LE {f : Addr} {fd : FuncData} (F : FunA K "LetterError.__init__" sLE [.str ""] f fd) (mV : mg "ValueError" = none) (vV : PySem.W.findCls K (.type "ValueError") (.type "type") "__init__" = some (.val (.builtin "ValueError.__init__"))) :
    FnOk P w K mg base CX0 1 f fd ["self", "why"] (spLE K) := by
  refine FunD.ok F scLE (fun vs H Q E h => ?_) (fun cdv A outer s H vs Q E hr h => ?_)
  · obtain ⟨a, C, v, rfl, _⟩ := h
    rfl
  · obtain ⟨a, C, v, rfl, T, hH, q⟩ := h
    refine ⟨_, pss_one (ps_expr (pe_veinit (by rfl) mV vV (pa_cons (pv 0) (pa_cons (pv 1) pa_nil)))), ?_⟩
    exact ⟨_, rfl, _, rfl, a, C, [v], rfl, by show 1 ≤ 1000; decide, T, hH, q⟩
theorem bind_LE {f : Addr} {fd : FuncData} (F : FunA K "LetterError.__init__" sLE [.str ""] f fd) : ∃ ds, Vals [] ds ∧ Binds K fd ["self", "why"] ds :=
  FunD.binds1 (ps := ["self", "why"]) F 2 1 (by simp) rfl fun T kV doc pm an cdv ct us its hu hi => match us, its, hu, hi with | [_, _], [_], _, _ => ⟨_, rfl, rfl⟩
/-- C(why, y): a new error of the class at C, its field set -/
def spFld (C : Addr) (fld : Str) : Sp := fun vs H Q _ => ∃ (a : Addr) (v y : V), vs = [.ref a, v, y] ∧ H a = some (exo a C none) ∧ ∀ dx, H dx = none → dx ≠ a → Q .non (upd (upd H dx (exd dx [(fld, y)])) a (exo a C (some dx)))
/-- what a raise of C(..) asks and gives -/
structure MkFld (P : Program) (w : World) (K : PySem.W.Frag) (mg : Str → Option Value) (base : Heap) (x : Str) (C : Addr) (fld : Str) : Prop where
  T : OexC K C
  g : mg x = some (.ref C)
  init : ∃ fI fd, PySem.W.findIn K (.ref C) "__init__" = some (some (.ref fI)) ∧ PySem.W.typeIn K (.ref fI) = some (.type "function") ∧ FnOk P w K mg base CX0 2 fI fd ["self", "why", fld] (spFld C fld) ∧
    (∃ ds, Vals [] ds ∧ Binds K fd ["self", "why", fld] ds) ∧ ∃ ds, Vals [.int 0] ds ∧ Binds K fd ["self", "why", fld] ds
/-- the leaf: what the raise gives -/
theorem mk_leaf {C : Addr} {fld : Str} {v y : V} {vs dvs : List V} {H1 : Hp} {Q : XK} (hv : vs ++ dvs = [v, y]) (hl : vs.length ≤ 2) (h : ∀ (d : Addr) (H' : Hp), Same H1 H' → H1 d = none → H' d = some (.xd [(fld, y)]) → Q (.ref C) (some d) H') :
    vs.length ≤ 1000 ∧ ∀ a, H1 a = none → spFld C fld (.ref a :: (vs ++ dvs)) (upd H1 a (exo a C none))
      (fun v H2 => v = .non ∧ ∃ (d : Addr) (fs : List (Str × V)), H2 a = some (exo a C (some d)) ∧ H2 d = some (exd d fs) ∧ H1 d = none ∧ Q (.ref C) (some d) (upd (del H2 a) d (.xd fs))) (fun _ _ _ => False) := by
  refine ⟨by omega, fun a na => ⟨a, v, y, by rw [hv], upd_same, fun dx n1 n2 => ?_⟩⟩
  rw [upd_ne n2] at n1
  refine ⟨rfl, dx, [(fld, y)], upd_same, by rw [upd_ne n2, upd_same], n1, h dx _ (fun b o e => ?_) n1 upd_same⟩
  have hb1 : b ≠ a := ne_of_none e na
  have hb2 : b ≠ dx := ne_of_none e n1
  rw [upd_ne hb2, del_ne hb1, upd_ne hb1, upd_ne hb2, upd_ne hb1]
  exact e
theorem pmk_fld {X : Cx} {x fld : Str} {C : Addr} {e : Expr} {es : List Expr} {ta : TA} {p pos : Pos} (M : MkFld X.prog X.w X.K X.mg X.base x C fld) (hr : Room (2 + 1) X.A) (hg : Gl X x) (ha : PA X (e :: es) ta) (dvs : List V) (hdv : dvs = [] ∨ dvs = [.int 0])
    (hdb : (x == ("__debug__" : Str)) = false := by decide) (he : starEach (e :: es) X.env = (false, eval e X.env) :: starEach es X.env := by rfl) (hpl : (backTo pos (starEach es X.env)).any (·.1) = false := by rfl) :
    PMk X (.Call (.Name x p) (e :: es) [] pos) (tMkO C (spFld C fld) dvs ta) := by
  obtain ⟨fI, fd, iC, tI, F1, ⟨ds1, v1, b1⟩, ⟨ds2, v2, b2⟩⟩ := M.init
  rcases hdv with rfl | rfl
  · exact pmk_oex M.T iC tI F1 hr b1 v1 pass0 hg M.g ha hdb he hpl
  · exact pmk_oex M.T iC tI F1 hr b2 v2 pass0 hg M.g ha hdb he hpl
end
end FL

namespace FL
open PySem PySem.Spec PyProof.Rows L2
/-! ### texts as lists of signs -/
def mk (l : List Nat) : Str := ⟨l.toArray⟩
theorem mk_codes (l : List Nat) : (mk l).cps.toList = l := by simp [mk]
theorem mk_of (z : Str) : mk z.cps.toList = z := TL.mk_tl z
theorem mk_eq {z : Str} {l : List Nat} (h : z.cps.toList = l) : z = mk l := by rw [← h, mk_of]
theorem mk_inj {l m : List Nat} (h : mk l = mk m) : l = m := by rw [← mk_codes l, h, mk_codes]
theorem mk_len (l : List Nat) : (mk l).length = l.length := by simp [mk, Str.length]
theorem mk_one (c : Nat) : mk [c] = ⟨#[c]⟩ := rfl
theorem mk_app (l m : List Nat) : mk l ++ mk m = mk (l ++ m) := by
  have h : (mk l ++ mk m).cps.toList = l ++ m := by
    have := TL.tl_append (mk l) (mk m)
    show (mk l ++ mk m).cps.toList = l ++ m
    rw [show (mk l ++ mk m).cps.toList = (mk l).cps.toList ++ (mk m).cps.toList from this, mk_codes, mk_codes]
  exact mk_eq h
/-! ### slices -/
theorem cutS_one (z : Str) (p : Nat) : (cutS z (some (p : Nat)) (some ((p + 1 : Nat) : Int))).cps.toList = (z.cps.toList.drop p).take 1 := by
  unfold cutS
  rw [HT.sIx_nat, HT.sIx_nat]
  show (List.take _ (List.drop _ _)) = _
  have hl := len_cps z
  by_cases h : p < z.length
  · rw [Nat.min_eq_left (by omega), Nat.min_eq_left (by omega), show p + 1 - p = 1 by omega]
  · rw [Nat.min_eq_right (by omega), Nat.min_eq_right (by omega), Nat.sub_self, List.take_zero, List.drop_eq_nil_of_le (by omega)]
    rfl
theorem cutS_nat (z : Str) {i j : Nat} (h1 : i ≤ z.length) (h2 : j ≤ z.length) : (cutS z (some (i : Nat)) (some (j : Nat))).cps.toList = (z.cps.toList.drop i).take (j - i) := by
  unfold cutS
  rw [HT.sIx_nat, HT.sIx_nat]
  show (List.take _ (List.drop _ _)) = _
  rw [Nat.min_eq_left h1, Nat.min_eq_left h2]
theorem cps_at {z : Str} {p c : Nat} (h : z.cps[p]? = some c) : z.cps.toList[p]? = some c := by rw [Array.getElem?_toList]; exact h
theorem drop_at {l : List Nat} {p c : Nat} (h : l[p]? = some c) : l.drop p = c :: l.drop (p + 1) := by
  have hb : p < l.length := (List.getElem?_eq_some_iff.mp h).1
  have e : l[p] = c := (List.getElem?_eq_some_iff.mp h).2
  rw [List.drop_eq_getElem_cons hb, e]
section
variable {P : Program} {w : World} {K : PySem.W.Frag} {mg : Str → Option Value} {base : Heap}
theorem sign_is {c d : Nat} {x : Str} (hx : x = ⟨#[d]⟩) : decide (V.str ⟨#[c]⟩ = V.str x) = decide (c = d) := by
  rw [hx]
  exact decide_eq_decide.mpr str_one
def ReadyX (P : Program) (w : World) (K : PySem.W.Frag) (mg : Str → Option Value) (base : Heap) (k : Nat) (x : Str) (ps : List Str) (sp : Sp) : Prop :=
  ∃ f fd, mg x = some (.ref f) ∧ PySem.W.keepIn K (.ref f) = true ∧ Binds K fd ps [] ∧ FnOk P w K mg base (L2.CX P w) k f fd ps sp
theorem readyX_of {x : Str} {st : Stmt} {k : Nat} {ps : List Str} {sp : Sp} (A : FnAt K mg x st)
    (hb : ∀ (kV doc pm : Value) (an : Option Addr) (cdv ct : Value) (us : List Value), us.length = ps.length → bindArgs (PySem.W.fnOf x x (defArgs st) (defBody st) (defScope st) .none kV doc pm an cdv ct) ⟨us, []⟩ = pure (ps.zip us))
    (ok : ∀ f fd, Fun K x x st f fd → FnOk P w K mg base (L2.CX P w) k f fd ps sp) : ReadyX P w K mg base k x ps sp := by
  obtain ⟨f, fd, F, g⟩ := A.ex
  exact ⟨f, fd, g, F.kp, F.binds hb, ok f fd F⟩
/-- v is no text without line feeds -/
def NoLine (K : PySem.W.Frag) (H : Hp) (v : V) : Prop := (∃ z : Str, v = .str z ∧ z.length ≤ 10000 ∧ isLn z.cps.toList = false) ∨ (∃ t, TyX K H v t ∧ PySem.W.kitOne K t (.type "str") = some false)
/-- an error of the class at C with its field at y is wished for -/
def Fails (C : Addr) (fld : Str) (y : Int) (H : Hp) (E : XK) : Prop := ∀ (d : Addr) H', Same H H' → H d = none → H' d = some (.xd [(fld, .int y)]) → E (.ref C) (some d) H'
theorem Fails.later {C : Addr} {fld : Str} {y : Int} {H H1 : Hp} {E : XK} (h : Fails C fld y H E) (s : Same H H1) : Fails C fld y H1 E := fun d H' s' n e => h d H' (s.trans s') (Same.free s n) e
theorem len_append (a b : Str) : (a ++ b).length = a.length + b.length := by
  have := TL.tl_append a b
  rw [← len_cps, ← len_cps, ← len_cps]
  rw [show (a ++ b).cps.toList = a.cps.toList ++ b.cps.toList from this, List.length_append]
end
end FL

namespace FL
open PySem PySem.Spec PyProof.Rows L2
theorem strOk_of {z : Str} (h : ∀ c ∈ z.cps.toList, c < 128) : PyData.strOk z = true := by
  unfold PyData.strOk
  rw [← Array.all_toList]
  refine List.all_eq_true.mpr fun c hc => decide_eq_true ?_
  have := h c hc
  omega
theorem canLayAll_of : ∀ {ds : List PyData}, (∀ d ∈ ds, d.canLay0 = true) → PyData.canLayAll0 ds = true
  | [], _ => by simp [PyData.canLayAll0]
  | d :: r, h => by
    rw [PyData.canLayAll0, h d (List.mem_cons_self ..), canLayAll_of fun x hx => h x (List.mem_cons_of_mem _ hx)]
    rfl
theorem depthAll_of {k : Nat} : ∀ {ds : List PyData}, (∀ d ∈ ds, d.depth ≤ k) → PyData.depthAll ds ≤ k
  | [], _ => by simp [PyData.depthAll]
  | d :: r, h => by
    rw [PyData.depthAll]
    exact Nat.max_le.mpr ⟨h d (List.mem_cons_self ..), depthAll_of fun x hx => h x (List.mem_cons_of_mem _ hx)⟩
theorem canLay_str {z : Str} (h : PyData.strOk z = true) : (PyData.str z).canLay0 = true := by
  unfold PyData.canLay0
  exact h
theorem shaped_of {d : PyData} (h : d.canLay0 = true) (k : d.depth ≤ 64) : SeqAt.shaped d = true := by
  unfold SeqAt.shaped
  rw [h, decide_eq_true k]
  rfl
theorem shaped_strs {zs : List Str} (h : ∀ z ∈ zs, PyData.strOk z = true) : SeqAt.shaped (.list (zs.map PyData.str)) = true := by
  refine shaped_of ?_ ?_
  · rw [PyData.canLay0]
    refine canLayAll_of fun d hd => ?_
    obtain ⟨z, hz, rfl⟩ := List.mem_map.mp hd
    exact canLay_str (h z hz)
  · rw [PyData.depth]
    have : PyData.depthAll (zs.map PyData.str) ≤ 0 := depthAll_of fun d hd => by
      obtain ⟨z, hz, rfl⟩ := List.mem_map.mp hd
      rw [PyData.depth]
      exact Nat.le_refl _
    omega
theorem dp_strs {K : PySem.W.Frag} {H : Hp} : ∀ zs : List Str, DpAll K H (zs.map V.str) (zs.map PyData.str)
  | [] => .nil
  | z :: r => .cons (.str z) (dp_strs r)
theorem eqv_nil (ds : List PyData) : PyData.eqv (.list ds) (.list []) = ds.isEmpty := by
  cases ds <;> simp [PyData.eqv, PyData.eqvAll]
theorem same_drawn {H H1 H2 : Hp} {p : Addr} (s : Same H H1) (n : H p = none) (d : Drawn p H1 H2) : Same H H2 := fun b o e => d.old b o (ne_of_none e n) (s b o e)
theorem app_codes (a b : Str) : (a ++ b).cps.toList = a.cps.toList ++ b.cps.toList := TL.tl_append a b
/-- a list of texts as data: in order, and itself -/
theorem strs_ok {zs : List Str} (h : ∀ z ∈ zs, PyData.strOk z = true) : SeqAt.shaped (.list (zs.map PyData.str)) = true ∧ PyData.eqv (.list (zs.map PyData.str)) (.list (zs.map PyData.str)) = true := by
  have hs := shaped_strs h
  exact ⟨hs, SeqAt.eqv_refl _ (Bool.and_eq_true_iff.mp hs).1⟩
end FL


namespace FL
open PySem PySem.Spec PyProof.Rows L2
/-! ### lists of whole numbers -/
def iv (l : List Nat) : List V := l.map fun n : Nat => V.int (n : Int)
theorem iv_len (l : List Nat) : (iv l).length = l.length := List.length_map ..
theorem iv_app (l m : List Nat) : iv (l ++ m) = iv l ++ iv m := List.map_append ..
theorem iv_at {l : List Nat} {i n : Nat} (h : l[i]? = some n) : (iv l)[i]? = some (.int (n : Int)) := by
  unfold iv
  rw [List.getElem?_map, h]
  rfl
theorem iv_take (l : List Nat) (n : Nat) : iv (l.take n) = (iv l).take n := List.map_take ..
theorem iv_drop (l : List Nat) (n : Nat) : iv (l.drop n) = (iv l).drop n := List.map_drop ..
theorem iv_inj {l m : List Nat} (h : iv l = iv m) : l = m := by
  induction l generalizing m with
  | nil => cases m with
    | nil => rfl
    | cons b r => cases h
  | cons a r ih => cases m with
    | nil => cases h
    | cons b s =>
      have h1 := (List.cons.inj h).1
      have h2 := (List.cons.inj h).2
      injection h1 with h1
      rw [show a = b by omega, ih h2]
def idt (l : List Nat) : List PyData := l.map fun n : Nat => PyData.int (n : Int)
theorem dp_ints {K : PySem.W.Frag} {H : Hp} : ∀ l : List Nat, DpAll K H (iv l) (idt l)
  | [] => .nil
  | z :: r => .cons (.int _) (dp_ints r)
theorem shaped_ints (l : List Nat) : SeqAt.shaped (.list (idt l)) = true := by
  refine shaped_of ?_ ?_
  · rw [PyData.canLay0]
    refine canLayAll_of fun d hd => ?_
    obtain ⟨z, hz, rfl⟩ := List.mem_map.mp hd
    rw [PyData.canLay0]
  · rw [PyData.depth]
    have : PyData.depthAll (idt l) ≤ 0 := depthAll_of fun d hd => by
      obtain ⟨z, hz, rfl⟩ := List.mem_map.mp hd
      rw [PyData.depth]
      exact Nat.le_refl _
    omega
theorem eqv_ints_all : ∀ l m : List Nat, PyData.eqvAll (idt l) (idt m) = decide (l = m)
  | [], [] => by simp [idt, PyData.eqvAll]
  | [], b :: s => by simp [idt, PyData.eqvAll]
  | a :: r, [] => by simp [idt, PyData.eqvAll]
  | a :: r, b :: s => by
    have ih := eqv_ints_all r s
    show PyData.eqvAll (PyData.int a :: idt r) (PyData.int b :: idt s) = _
    rw [PyData.eqvAll, ih]
    have e : PyData.eqv (.int (a : Int)) (.int (b : Int)) = decide (a = b) := by
      simp only [PyData.eqv]
      by_cases h : a = b
      · subst h; simp
      · rw [decide_eq_false h]
        simp [h]
        try omega
    rw [e]
    by_cases h1 : a = b <;> by_cases h2 : r = s <;> simp [h1, h2]
theorem eqv_ints (l m : List Nat) : PyData.eqv (.list (idt l)) (.list (idt m)) = decide (l = m) := by
  rw [← eqv_ints_all]
  simp only [PyData.eqv]
/-- two lists of whole numbers as data -/
theorem dpl {K : PySem.W.Frag} {H : Hp} {a : Addr} {l : List Nat} (h : H a = some (.lst (iv l))) : Dp K H (.ref a) (.list (idt l)) := .lst (SqL.of h) (dp_ints l)
theorem dplS {K : PySem.W.Frag} {H : Hp} {a : Addr} {l : List Nat} (h : SqL K H a (iv l)) : Dp K H (.ref a) (.list (idt l)) := .lst h (dp_ints l)
/-! ### whole numbers -/
inductive Whole (K : PySem.W.Frag) (H : Hp) : V → Option Int → Prop
  | int (n : Int) : Whole K H (.int n) (some n)
  | bl (b : Bool) : Whole K H (.bl b) none
  | oth {v : V} {t : Value} (h : TyX K H v t) (k : PySem.W.kitOne K t (.type "int") = some false) : Whole K H v none
theorem TyOf.same {K : PySem.W.Frag} {H H' : Hp} {v : V} {t : Value} (s : Same H H') (h : TyOf K H v t) : TyOf K H' v t := by
  cases h with
  | non => exact .non
  | bl x => exact .bl x
  | int i => exact .int i
  | str x => exact .str x
  | flt x => exact .flt x
  | lst e => exact .lst (s _ _ e)
  | frz e => exact .frz (s _ _ e)
  | tup e => exact .tup (s _ _ e)
  | dK e => exact .dK (s _ _ e)
  | dT e => exact .dT (s _ _ e)
  | ins e cl ha hn htk hm => exact .ins (s _ _ e) cl ha hn htk hm
theorem TyX.same {K : PySem.W.Frag} {H H' : Hp} {v : V} {t : Value} (s : Same H H') (h : TyX K H v t) : TyX K H' v t := by
  cases h with
  | base h => exact .base (TyOf.same s h)
  | byt b => exact .byt b
  | set e => exact .set (s _ _ e)
  | kList e c => exact .kList e c
  | kTuple e c => exact .kTuple e c
  | kDict e c => exact .kDict e c
  | fTuple e => exact .fTuple (s _ _ e)
  | fDict e => exact .fDict (s _ _ e)
theorem Whole.same {K : PySem.W.Frag} {H H' : Hp} {v : V} {o : Option Int} (s : Same H H') (h : Whole K H v o) : Whole K H' v o := by
  cases h with
  | int n => exact .int n
  | bl b => exact .bl b
  | oth h k => exact .oth (TyX.same s h) k
/-- a def by another global name -/
structure FnAs (K : PySem.W.Frag) (mg : Str → Option Value) (x y : Str) (st : Stmt) : Prop where
  ex : ∃ f fd, Fun K y y st f fd ∧ mg x = some (.ref f)
section
variable {P : Program} {w : World} {K : PySem.W.Frag} {mg : Str → Option Value} {base : Heap}
theorem FnAt.as {x : Str} {st : Stmt} (A : FnAt K mg x st) : FnAs K mg x x st := ⟨A.ex⟩
theorem ready_as {x y : Str} {st : Stmt} {k : Nat} {ps : List Str} {sp : Sp} (A : FnAs K mg x y st)
    (hb : ∀ (kV doc pm : Value) (an : Option Addr) (cdv ct : Value) (us : List Value), us.length = ps.length → bindArgs (PySem.W.fnOf y y (defArgs st) (defBody st) (defScope st) .none kV doc pm an cdv ct) ⟨us, []⟩ = pure (ps.zip us))
    (ok : ∀ f fd, Fun K y y st f fd → FnOk P w K mg base CX0 k f fd ps sp) : Ready P w K mg base k x ps sp := by
  obtain ⟨f, fd, F, g⟩ := A.ex
  exact ⟨f, fd, g, F.kp, F.binds hb, ok f fd F⟩
def spWhole (K : PySem.W.Frag) (f : Option Int → Bool) : Sp := fun vs H Q _ => ∃ v o, vs = [v] ∧ Whole K H v o ∧ Q (.bl (f o)) H
theorem scIsWhole : FnScope ["value"] ["value"] (defScope sIsWhole) := ⟨rfl, rfl, rfl, by decide +kernel, rfl, by decide +kernel, by decide +kernel⟩
theorem r_is_whole (A : FnAt K mg "is_whole" sIsWhole) (m_isinstance : mg "isinstance" = none) (m_int : mg "int" = none) (m_bool : mg "bool" = none) : Ready P w K mg base 1 "is_whole" ["value"] (spWhole K Option.isSome) := by
  refine ready_of A (fun _ _ _ _ _ _ us hl => match us, hl with | [_], _ => rfl) fun f fd F => ?_
  refine F.ok scIsWhole (fun vs H Q E h => ?_) (fun cdv A outer s H vs Q E hr h => ?_)
  · obtain ⟨v, o, rfl, _⟩ := h
    rfl
  · obtain ⟨v, o, rfl, hw, q⟩ := h
    refine ⟨_, pss_one (ps_ret (pe_and (pe_callB call_isi (by rfl) m_isinstance (by decide +kernel) (pa_cons (pv 0) (pa_cons (pe_bltn (v := .ty "int") (by rfl) m_int (by decide +kernel) rfl) pa_nil))) (pe_one (pe_not (pe_callB call_isi (by rfl) m_isinstance (by decide +kernel) (pa_cons (pv 0) (pa_cons (pe_bltn (v := .ty "bool") (by rfl) m_bool (by decide +kernel) rfl) pa_nil))))))), ?_⟩
    cases hw with
    | int n =>
      refine ⟨_, rfl, _, _, .type "int", .type "int", true, rfl, ClsV.ty "int", .base (.int n), kit_ty (by decide +kernel), true, rfl, iteT ?_⟩
      exact ⟨_, rfl, _, _, .type "int", .type "bool", false, rfl, ClsV.ty "bool", .base (.int n), kit_ty (by decide +kernel), false, rfl, q⟩
    | bl b =>
      refine ⟨_, rfl, _, _, .type "bool", .type "int", true, rfl, ClsV.ty "int", .base (.bl b), kit_ty (by decide +kernel), true, rfl, iteT ?_⟩
      exact ⟨_, rfl, _, _, .type "bool", .type "bool", true, rfl, ClsV.ty "bool", .base (.bl b), kit_ty (by decide +kernel), true, rfl, q⟩
    | oth h k =>
      exact ⟨_, rfl, _, _, _, .type "int", false, rfl, ClsV.ty "int", h, k, false, rfl, iteF q⟩
def isSgnI (n : Int) : Bool := decide (32 ≤ n ∧ n ≤ 65535)
def isOctI (n : Int) : Bool := decide (0 ≤ n ∧ n ≤ 255)
theorem rng_b {a b c : Int} : (if decide (a ≤ b) = true then decide (b ≤ c) else false) = decide (a ≤ b ∧ b ≤ c) := by
  by_cases h1 : a ≤ b <;> by_cases h2 : b ≤ c <;> simp [h1, h2]
theorem scIsSaySign : FnScope ["value"] ["value"] (defScope sIsSaySign) := ⟨rfl, rfl, rfl, by decide +kernel, rfl, by decide +kernel, by decide +kernel⟩
theorem r_is_say_sign {y : Str} (A : FnAs K mg y "_is_sign" sIsSaySign) (RW : Ready P w K mg base 1 "is_whole" ["value"] (spWhole K Option.isSome)) {t1 t2 : Tok} (m_BLANK : mg "BLANK" = some (.int 32 t1)) (m_GREATEST_SIGN : mg "GREATEST_SIGN" = some (.int 65535 t2)) :
    Ready P w K mg base 2 y ["value"] (spWhole K fun o => o.any isSgnI) := by
  obtain ⟨f1, fd1, g1, k1, b1, G1⟩ := RW
  refine ready_as A (fun _ _ _ _ _ _ us hl => match us, hl with | [_], _ => rfl) fun f fd F => ?_
  refine F.ok scIsSaySign (fun vs H Q E h => ?_) (fun cdv A outer s H vs Q E hr h => ?_)
  · obtain ⟨v, o, rfl, _⟩ := h
    rfl
  · obtain ⟨v, o, rfl, hw, q⟩ := h
    refine ⟨_, pss_one (ps_ret (pe_and (pe_call G1 (hr.mono (by decide)) (by rfl) g1 k1 b1 .nil pass0 (pa_cons (pv 0) pa_nil)) (pe_one (pe_chain op_le op_le (pe_glob (v := .int 32) rfl m_BLANK ⟨_, rfl⟩) (pv 0) (pe_glob (v := .int 65535) rfl m_GREATEST_SIGN ⟨_, rfl⟩) (by with_unfolding_all rfl))))), ?_⟩
    refine ⟨_, rfl, v, o, rfl, hw, _, rfl, ?_⟩
    cases hw with
    | int n =>
      refine iteT ⟨_, rfl, _, _, rfl, rfl, _, rfl, ite2 (fun h => ⟨_, _, rfl, rfl, bl_to ?_ q⟩) (fun h => bl_to ?_ q)⟩
      · have h1 := of_decide_eq_true h
        show decide (n ≤ 65535) = decide (32 ≤ n ∧ n ≤ 65535)
        exact decide_eq_decide.mpr ⟨fun z => ⟨h1, z⟩, fun z => z.2⟩
      · show false = decide (32 ≤ n ∧ n ≤ 65535)
        exact (decide_eq_false fun z => h (decide_eq_true z.1)).symm
    | bl b => exact iteF q
    | oth h k => exact iteF q
theorem scIsOctet : FnScope ["value"] ["value"] (defScope sIsOctet) := ⟨rfl, rfl, rfl, by decide +kernel, rfl, by decide +kernel, by decide +kernel⟩
theorem r_is_octet (A : FnAt K mg "_is_octet" sIsOctet) (RW : Ready P w K mg base 1 "is_whole" ["value"] (spWhole K Option.isSome)) :
    Ready P w K mg base 2 "_is_octet" ["value"] (spWhole K fun o => o.any isOctI) := by
  obtain ⟨f1, fd1, g1, k1, b1, G1⟩ := RW
  refine ready_of A (fun _ _ _ _ _ _ us hl => match us, hl with | [_], _ => rfl) fun f fd F => ?_
  refine F.ok scIsOctet (fun vs H Q E h => ?_) (fun cdv A outer s H vs Q E hr h => ?_)
  · obtain ⟨v, o, rfl, _⟩ := h
    rfl
  · obtain ⟨v, o, rfl, hw, q⟩ := h
    refine ⟨_, pss_one (ps_ret (pe_and (pe_call G1 (hr.mono (by decide)) (by rfl) g1 k1 b1 .nil pass0 (pa_cons (pv 0) pa_nil)) (pe_one (pe_chain op_le op_le pe_int (pv 0) pe_int (by with_unfolding_all rfl))))), ?_⟩
    refine ⟨_, rfl, v, o, rfl, hw, _, rfl, ?_⟩
    cases hw with
    | int n =>
      refine iteT ⟨_, rfl, _, _, rfl, rfl, _, rfl, ite2 (fun h => ⟨_, _, rfl, rfl, bl_to ?_ q⟩) (fun h => bl_to ?_ q)⟩
      · have h1 := of_decide_eq_true h
        show decide (n ≤ 255) = decide (0 ≤ n ∧ n ≤ 255)
        exact decide_eq_decide.mpr ⟨fun z => ⟨h1, z⟩, fun z => z.2⟩
      · show false = decide (0 ≤ n ∧ n ≤ 255)
        exact (decide_eq_false fun z => h (decide_eq_true z.1)).symm
    | bl b => exact iteF q
    | oth h k => exact iteF q
/-- is a list all of whose things are such whole numbers; of a list told by what its things are, of no list, False -/
def spAll (K : PySem.W.Frag) (f : Option Int → Bool) : Sp := fun vs H Q _ => ∃ v, vs = [v] ∧
  ((∃ a xs os, v = .ref a ∧ H a = some (.lst xs) ∧ xs.length ≤ 10000 ∧ Paired (Whole K H) xs os ∧ ∀ H', Same H H' → Q (.bl (os.all f)) H') ∨
   (∃ t, TyX K H v t ∧ PySem.W.kitOne K t (.type "list") = some false ∧ Q (.bl false) H))
theorem paired_at {α β : Type} {R : α → β → Prop} : ∀ {xs : List α} {os : List β} {i : Nat} {x : α}, Paired R xs os → xs[i]? = some x → ∃ o, os[i]? = some o ∧ R x o
  | _, _, _, _, .nil, h => by simp at h
  | _, _, 0, _, .cons h _, e => by
    injection e with e
    subst e
    exact ⟨_, rfl, h⟩
  | _, _, i + 1, _, .cons _ t, e => paired_at (i := i) t e
theorem scIsOctets : FnScope ["value", "octet"] ["value"] (defScope sIsOctets) := ⟨rfl, rfl, rfl, by decide +kernel, rfl, by decide +kernel, by decide +kernel⟩
theorem r_is_octets (A : FnAt K mg "is_octets" sIsOctets) (RW : Ready P w K mg base 2 "_is_octet" ["value"] (spWhole K fun o => o.any isOctI)) (m_isinstance : mg "isinstance" = none) (m_list : mg "list" = none) (m_all : mg "all" = none) :
    Ready P w K mg base 3 "is_octets" ["value"] (spAll K fun o => o.any isOctI) := by
  obtain ⟨f1, fd1, g1, k1, b1, G1⟩ := RW
  refine ready_of A (fun _ _ _ _ _ _ us hl => match us, hl with | [_], _ => rfl) fun f fd F => ?_
  refine F.ok scIsOctets (fun vs H Q E h => ?_) (fun cdv A outer s H vs Q E hr h => ?_)
  · obtain ⟨v, rfl, _⟩ := h
    rfl
  · obtain ⟨v, rfl, h⟩ := h
    have sc := scIsOctets
    refine ⟨_, pss_one (ps_ret (pe_and (pe_callB call_isi (by rfl) m_isinstance (by decide +kernel) (pa_cons (pv 0) (pa_cons (pe_bltn (v := .ty "list") (by rfl) m_list (by decide +kernel) rfl) pa_nil))) (pe_one (pe_callB (cr_all rfl) (by rfl) m_all (by decide +kernel) (pa_cons (pe_lc (own := [("octet", 1)]) (g := gName 1) (tt := tYes) (by rfl) sc.nd (pi_list (pv 0)) (blkOk_by (own := [("octet", 1)]) (N := ["value", "octet"]) (sc := defScope sIsOctets) (by decide +kernel)) (fun _ _ _ _ _ => (pg_name (i := 1) sc.nd rfl (Or.inl rfl))) (fun _ _ _ _ _ => pts_nil) (fun _ _ _ _ _ => (pe_call G1 (hr.mono (by decide)) (by rfl) g1 k1 b1 .nil pass0 (pa_cons (pv 1) pa_nil)))) pa_nil))))), ?_⟩
    rcases h with ⟨a, xs, os, rfl, hH, hl, hp, q⟩ | ⟨t, ht, hk, q⟩
    · refine ⟨_, rfl, _, _, .type "list", .type "list", true, rfl, ClsV.ty "list", .base (.lst hH), kit_ty (by decide +kernel), true, rfl, iteT ?_⟩
      refine ⟨_, rfl, a, rfl, ⟨_, SqL.of hH⟩, fun D hD => ?_⟩
      have hDa : D ≠ a := fun e => by rw [e, hH] at hD; cases hD
      have hlen : xs.length = os.length := hp.length
      refine lc_it (walk_list (K := K) (a := a) (xs := xs)) (fun i H' => Same H H' ∧ H' D = some (.lst ((os.take i).map fun o => V.bl (o.any isOctI)))) ⟨same_new hD, upd_same⟩ (fun i H' _ p => SqL.of (p.1 _ _ hH)) (fun i x H1 H2 hi hp1 hy => ?_) (fun H1 hp1 => ?_)
      · obtain ⟨rfl, hx⟩ := hy
        obtain ⟨sm, hd⟩ := hp1
        obtain ⟨o, ho, hw⟩ := paired_at hp hx
        refine ⟨rfl, ?_⟩
        unfold tYes
        refine iteT ?_
        refine ⟨_, rfl, _, o, rfl, Whole.same sm hw, _, hd, ?_, same_set sm hD, ?_⟩
        · rw [List.length_map]
          exact Nat.lt_of_le_of_lt (List.length_take_le _ _) (szl (by omega))
        · rw [upd_same, take_more ho, List.map_append]
          rfl
      · obtain ⟨sm, hd⟩ := hp1
        have e : os.take xs.length = os := List.take_of_length_le (by omega)
        rw [e] at hd
        refine ⟨D, os.map fun o => o.any isOctI, rfl, SqL.of (by rw [List.map_map]; exact hd), bl_to ?_ (q H1 sm)⟩
        rw [List.all_map]
        rfl
    · exact ⟨_, rfl, _, _, t, .type "list", false, rfl, ClsV.ty "list", ht, hk, false, rfl, iteF q⟩
theorem whole_ints {K : PySem.W.Frag} {H : Hp} : ∀ l : List Nat, Paired (Whole K H) (iv l) (l.map fun n : Nat => some (n : Int))
  | [] => .nil
  | n :: r => .cons (.int _) (whole_ints r)
theorem all_oct {l : List Nat} (h : ∀ n ∈ l, n < 256) : (l.map fun n : Nat => some (n : Int)).all (fun o => o.any isOctI) = true := by
  rw [List.all_map]
  refine List.all_eq_true.mpr fun n hn => ?_
  have := h n hn
  show isOctI (n : Int) = true
  exact decide_eq_true (by omega)
theorem all_sgn {l : List Nat} (h : ∀ n ∈ l, 32 ≤ n ∧ n ≤ 65535) : (l.map fun n : Nat => some (n : Int)).all (fun o => o.any isSgnI) = true := by
  rw [List.all_map]
  refine List.all_eq_true.mpr fun n hn => ?_
  have := h n hn
  show isSgnI (n : Int) = true
  exact decide_eq_true (by omega)
end
end FL


namespace FL
open PySem PySem.Spec PyProof.Rows L2
/-! ### C(why), C an own exception class without an own __init__, its base's one sets no field -/
section
variable {X : Cx} {e : Expr} {es : List Expr} {ta : TA} {p pos : Pos}
theorem mk_endN {pins : List (Addr × Obj)} {σ : L2.St} {H1 H2 : Hp} {hp hp2 h2 : Heap} {g1 g2 : Array GenState} {d1 d2 : PySem.Drawn} {t1 t2 : Nat} {os1 os2 : OsState} {a C : Addr} (I1 : Inv X pins σ H1 ⟨hp, g1, d1, t1, os1⟩)
    (ha : hp.objs.size ≤ a) (k : ∀ b o, hp.get? b = some o → hp2.get? b = some o) (un : Un (frs X.stack) [] (upd H1 a (exo a C none)) H2 hp2 h2) (hok : HOk X.prog X.w H2 h2) (ho : os2 = os1) (hb : AllBare g2)
    (ea : H2 a = some (exo a C none)) :
    ∃ (t0 : Addr) (G : Heap), Inv X pins σ (del H2 a) ⟨G, g2, d2, t2, os2⟩ ∧ (∀ b o, G.get? b = some o → h2.get? b = some o) ∧ G.get? a = none ∧
      h2.get? a = some ({ cls := .ref C, dict := none, data := .fields #[.ref t0, .none, .none, .none, .bool false, .none] } : Obj) ∧ (del H2 a) a = none := by
  obtain ⟨t0, hoe⟩ := exo_at hok ea
  have hn : H1 a = none := I1.hok.fresh ha
  obtain ⟨G, g1', g2'⟩ := restrict h2 fun b => decide (b ≠ a)
  have gk : ∀ b, b ≠ a → G.get? b = h2.get? b := fun b hb => g1' b (decide_eq_true hb)
  have ge : G.get? a = none := g2' a (by simp)
  have nha : ∀ {b : Addr} {o : Obj}, hp.get? b = some o → b ≠ a := fun {b o} z => Nat.ne_of_lt (Nat.lt_of_lt_of_le (Heap.lt_size z) ha)
  have up : ∀ {b : Addr}, b ≠ a → H1 b = none → upd H1 a (exo a C none) b = none := fun {b} hb n => by rw [upd_ne hb]; exact n
  have U : Un (frs X.stack) [] H1 (del H2 a) hp G := {
    keep := fun b o z n hf hx => by
      rw [gk b (nha z)]
      exact un.keep b o (k b o z) (up (nha z) n) hf hx
    slot := fun b o z n hf hx => by
      rw [gk b (nha z)]
      exact un.slot b o (k b o z) (up (nha z) n) hf hx
    free := fun b o z n hx => by
      rw [del_ne (nha z)]
      exact un.free b o (k b o z) (up (nha z) n) hx
    there := fun b o z hx => by
      rw [gk b (nha z)]
      exact un.there b o (k b o z) hx
    tups := fun b xs z => by
      rw [del_ne (ne_of_none z hn)]
      exact un.tups b xs (by rw [upd_ne (ne_of_none z hn)]; exact z)
    frzs := fun b o v z => by
      rw [del_ne (ne_of_none z hn)]
      exact un.frzs b o v (by rw [upd_ne (ne_of_none z hn)]; exact z)
    tbls := fun b ps z => by
      rw [del_ne (ne_of_none z hn)]
      exact un.tbls b ps (by rw [upd_ne (ne_of_none z hn)]; exact z) }
  have hok3 : HOk X.prog X.w (del H2 a) G := fun b o z => by
    have hba : b ≠ a := fun e => by
      rw [e, del_same] at z
      cases z
    rw [del_ne hba] at z
    have noa : ∀ {c : Addr}, H2 c = some (.own b) → c ≠ a := fun {c} hc => at_ne ea hc exo_own
    exact (hok b o z).stay (fun c v hc y => by
        have hca : c ≠ a := by
          rcases hc with hc | hc
          · rw [hc]
            exact hba
          · exact noa hc
        rw [gk c hca]
        exact y)
      (fun c hc => by rw [del_ne (noa hc)]; exact hc) (fun c xs hc => by rw [del_ne (at_ne ea hc exo_tup)]; exact hc)
  have J : Inv X pins σ (del H2 a) ⟨G, g2, d2, t2, os2⟩ := I1.call' (ch := []) ho U hok3 hb (fun b z => absurd z (by simp))
  refine ⟨t0, G, J, fun b o z => ?_, ge, hoe, del_same⟩
  by_cases hba : b = a
  · rw [hba, ge] at z
    cases z
  · exact (gk b hba).symm.trans z
/-- what a raise of such a C(..) asks -/
structure MkN (P : Program) (w : World) (K : PySem.W.Frag) (mg : Str → Option Value) (base : Heap) (x : Str) (C : Addr) : Prop where
  T : OexC K C
  g : mg x = some (.ref C)
  init : ∃ fI fd, PySem.W.findIn K (.ref C) "__init__" = some (some (.ref fI)) ∧ PySem.W.typeIn K (.ref fI) = some (.type "function") ∧ FnOk P w K mg base CX0 1 fI fd ["self", "why"] (spLE K) ∧ ∃ ds, Vals [] ds ∧ Binds K fd ["self", "why"] ds
theorem del_upd {H : Hp} {a : Addr} {o : HO} (h : H a = none) : del (upd H a o) a = H := by
  funext b
  by_cases e : b = a
  · rw [e, del_same, h]
  · rw [del_ne e, upd_ne e]
theorem pmk_non {x : Str} {C : Addr} (M : MkN X.prog X.w X.K X.mg X.base x C) (hr : Room (1 + 1) X.A) (hg : Gl X x) (ha : PA X (e :: es) ta)
    (hdb : (x == ("__debug__" : Str)) = false := by decide) (he : starEach (e :: es) X.env = (false, eval e X.env) :: starEach es X.env := by rfl) (hpl : (backTo pos (starEach es X.env)).any (·.1) = false := by rfl) :
    PMk X (.Call (.Name x p) (e :: es) [] pos) (fun σ H Q => ta σ H fun vs H1 => (∃ v, vs = [v]) ∧ Q (.ref C) none H1) := by
  intro pins s σ H Q I h
  obtain ⟨T, hm, fI, fd, iC, tI, F1, ds, hd, hb⟩ := M
  obtain ⟨nm, q, N, bs, bm, sn, sub, ab, col, dd, k0, k1, k2, k3, k5, hC, hbm⟩ := T.cls
  refine wpAny_Call_Name_kw (ld_glob I hg hm ?_ hdb)
  refine PySem.W.callWith_K (h₀ := X.base) I.ok.mod.kin T.kC (thn (ha.run pos pins s σ H _ I h) fun us s1 ⟨vs, H1, I1, r1, ⟨w0, hz⟩, q1⟩ => ⟨I1.kIn, ?_⟩) he hpl
  subst hz
  show wpAny _ _ (call (.ref C) us) _ _ _
  obtain ⟨hp, g, dr, tk, os⟩ := s1
  have hsz : hp.objs.size ≤ hp.objs.size + 1 := Nat.le_succ _
  have hn : H1 (hp.objs.size + 1) = none := I1.hok.fresh hsz
  have kk : ∀ b o, hp.get? b = some o → ((hp.push (PySem.W.kdv_tup us)).push (PySem.HandSPX.excO C hp.objs.size)).get? b = some o := fun b o e => Heap.get?_push_of_some _ (Heap.get?_push_of_some _ e)
  have hget : ((hp.push (PySem.W.kdv_tup us)).push (PySem.HandSPX.excO C hp.objs.size)).get? (hp.objs.size + 1) = some (PySem.HandSPX.excO C hp.objs.size) := by heap_get
  have I2 : Inv X pins σ (upd H1 (hp.objs.size + 1) (exo (hp.objs.size + 1) C none)) ⟨(hp.push (PySem.W.kdv_tup us)).push (PySem.HandSPX.excO C hp.objs.size), g, dr, tk, os⟩ :=
    I1.laid (t' := tk) (a := hp.objs.size + 1) (o := exo (hp.objs.size + 1) C none) (h' := (hp.push (PySem.W.kdv_tup us)).push (PySem.HandSPX.excO C hp.objs.size)) kk hsz (exo_ok hget)
  have r2 : Vals (V.ref (hp.objs.size + 1) :: ([w0] ++ [])) (Value.ref (hp.objs.size + 1) :: (us ++ ds)) := .cons rfl (r1.append hd)
  have hq : spLE X.K [.ref (hp.objs.size + 1), w0] (upd H1 (hp.objs.size + 1) (exo (hp.objs.size + 1) C none)) (fun v H2 => v = .non ∧ H2 (hp.objs.size + 1) = some (exo (hp.objs.size + 1) C none) ∧ Q (.ref C) none (del H2 (hp.objs.size + 1))) (fun _ _ _ => False) :=
    ⟨_, C, w0, rfl, T, upd_same, rfl, upd_same, by rw [del_upd hn]; exact q1⟩
  have hl : (Value.ref (hp.objs.size + 1) :: us ++ ds).length = 2 := by
    exact r2.length.symm
  have hus : us.length ≤ sizeLine := by
    rw [← Paired.length r1, sizeLine_eq]
    show 1 ≤ _
    omega
  refine wpAny_call (PySem.HandSPX.call_own F.excBase_ValueError (fun Y => PySem.HandSPX.refsVE_contains Y bm hbm) (I1.kIn _ _ hC) (PySem.W.looks_findIn I1.kIn iC) (fun self => PySem.W.bind_fn I1.kIn self tI) hus
    (codeAny_mono (F1.run _ X.stack _ _ ⟨Value.ref (hp.objs.size + 1) :: us, []⟩ (Value.ref (hp.objs.size + 1) :: (us ++ ds)) _ _ (fun _ _ _ => False) (hr.make C us []) (I2.env0.make C us []) (hb _ (Value.ref (hp.objs.size + 1) :: us) I2.kIn hl) r2 hq) fun r s' hq' => ?_))
  cases r with
  | error er => exact pass0 pins σ _ _ er s' I2 hq'
  | ok fl =>
    cases fl with
    | ret u =>
      obtain ⟨v, H2, os2, bare2, un2, hok2, rv, ev, ea, q2⟩ := hq'
      subst ev
      obtain ⟨h2, g2, d2, t2, os'⟩ := s'
      obtain ⟨t0, G, J, kG, ge, hoe, na⟩ := mk_endN (d2 := d2) (t2 := t2) I1 hsz kk un2 hok2 os2 bare2 ea
      exact ⟨rv, _, _, _, ⟨G, g2, d2, t2, os'⟩, _, .ref C, none, rfl, J, kG, ge, hoe, ⟨rfl, rfl⟩, rfl, rfl, na, rfl, bare2, raises_own T.exC T.tyC, q2⟩
    | next => exact False.elim hq'
    | brk => exact False.elim hq'
    | cont => exact False.elim hq'
end
theorem pe_callN0 {X : Cx} {CX : CXT} {k : Nat} {f : Addr} {fd : FuncData} {ps ks : List Str} {sp : Sp} {E : XK} {x : Str} {p pos : Pos} {kws : List Keyword} {tk : TA} {g : List Value → List Value → List Value} {gV : List V → List V → List V}
    (F : FnOk X.prog X.w X.K X.mg X.base CX k f fd ps sp) (hr : Room k X.A) (hg : Gl X x) (hm : X.mg x = some (.ref f)) (hk : PySem.W.keepIn X.K (.ref f) = true) (hb : KBn X.K fd ps 0 ks g gV) (hx : Passes CX X E)
    (hkw : PK X kws tk) (hall : (backToKw pos (keywordEach kws X.env)).all (·.1.isSome) = true := by rfl) (hks : (backToKw pos (keywordEach kws X.env)).filterMap (·.1) = ks := by rfl)
    (hdb : (x == ("__debug__" : Str)) = false := by decide) (hpl : ((backTo pos (starEach [] X.env)).any (·.1) || (backToKw pos (keywordEach kws X.env)).any (·.1.isNone)) = false := by rfl) :
    PE X (.Call (.Name x p) [] kws pos) (fun σ H Q => tk σ H fun zs H1 => zs.length = ks.length ∧ sp (gV [] zs) H1 Q E) := by
  refine ⟨fun pins s σ H Q I h => ?_⟩
  refine wpAny_Call_Name_kw (ld_glob I hg hm ?_ hdb)
  refine PySem.W.callWith_KW0 (h₀ := X.base) I.ok.mod.kin hk hall (thn (hkw.run pos pins s σ H _ I h) fun ws s2 ⟨zs, H2, I2, rz, l2, q2⟩ => ⟨I2.kIn, ?_⟩) hpl
  rw [hks]
  exact run_fnN (us := []) (vs := []) F hr hb hx I2 .nil rz rfl l2 q2
def swp {α : Type} : List α → List α
  | [a, b] => [b, a]
  | l => l
section
variable {P : Program} {w : World} {K : PySem.W.Frag} {mg : Str → Option Value} {base : Heap}
/-- f(x=..): all by keywords, in the def's order -/
abbrev KBs (K : PySem.W.Frag) (fd : FuncData) (ps : List Str) := KBn K fd ps 0 ps (fun _ ws => ws) (fun _ zs => zs)
theorem kb_of {x : Str} {st : Stmt} {f : Addr} {fd : FuncData} {ps : List Str} (F : Fun K x x st f fd)
    (hk : ∀ (kV doc pm : Value) (an : Option Addr) (cdv ct : Value) (ws : List Value), ws.length = ps.length → bindArgs (PySem.W.fnOf x x (defArgs st) (defBody st) (defScope st) .none kV doc pm an cdv ct) ⟨[], ps.zip ws⟩ = pure (ps.zip ws)) : KBs K fd ps := by
  obtain ⟨oc, od, kV, doc, pm, an, cdv, ct, osl, rfl, lk, hcd⟩ := F.ex
  refine ⟨fun s us ws _ hu hw => ?_, fun _ r => r⟩
  match us, hu with
  | [], _ => exact .of_eq (hk _ _ _ _ _ _ ws hw)
/-- two by keywords, the other way round -/
abbrev KBr (K : PySem.W.Frag) (fd : FuncData) (p q : Str) := KBn K fd [p, q] 0 [q, p] (fun _ ws => swp ws) (fun _ zs => swp zs)
theorem kbr_of {x : Str} {st : Stmt} {f : Addr} {fd : FuncData} {p q : Str} (F : Fun K x x st f fd)
    (hk : ∀ (kV doc pm : Value) (an : Option Addr) (cdv ct : Value) (a b : Value), bindArgs (PySem.W.fnOf x x (defArgs st) (defBody st) (defScope st) .none kV doc pm an cdv ct) ⟨[], [(q, a), (p, b)]⟩ = pure [(p, b), (q, a)]) : KBr K fd p q := by
  obtain ⟨oc, od, kV, doc, pm, an, cdv, ct, osl, rfl, lk, hcd⟩ := F.ex
  refine ⟨fun s us ws _ hu hw => ?_, fun {vs us zs ws} _ r => ?_⟩
  · match us, ws, hu, hw with
    | [], [a, b], _, _ => exact .of_eq (hk _ _ _ _ _ _ a b)
  · cases r with
    | nil => exact .nil
    | cons r1 r2 =>
      cases r2 with
      | nil => exact .cons r1 .nil
      | cons r3 r4 =>
        cases r4 with
        | nil => exact .cons r3 (.cons r1 .nil)
        | cons r5 r6 => exact .cons r1 (.cons r3 (.cons r5 r6))
def ReadyKX (P : Program) (w : World) (K : PySem.W.Frag) (mg : Str → Option Value) (base : Heap) (k : Nat) (x : Str) (ps : List Str) (sp : Sp) (kb : FuncData → Prop) : Prop :=
  ∃ f fd, mg x = some (.ref f) ∧ PySem.W.keepIn K (.ref f) = true ∧ Binds K fd ps [] ∧ kb fd ∧ FnOk P w K mg base (L2.CX P w) k f fd ps sp
theorem ReadyKX.x {k : Nat} {x : Str} {ps : List Str} {sp : Sp} {kb : FuncData → Prop} (R : ReadyKX P w K mg base k x ps sp kb) : ReadyX P w K mg base k x ps sp :=
  let ⟨f, fd, g, kp, b, _, G⟩ := R
  ⟨f, fd, g, kp, b, G⟩
theorem readyKX_of {x : Str} {st : Stmt} {k : Nat} {ps : List Str} {sp : Sp} {kb : FuncData → Prop} (A : FnAt K mg x st)
    (hb : ∀ (kV doc pm : Value) (an : Option Addr) (cdv ct : Value) (us : List Value), us.length = ps.length → bindArgs (PySem.W.fnOf x x (defArgs st) (defBody st) (defScope st) .none kV doc pm an cdv ct) ⟨us, []⟩ = pure (ps.zip us))
    (hk : ∀ f fd, Fun K x x st f fd → kb fd)
    (ok : ∀ f fd, Fun K x x st f fd → FnOk P w K mg base (L2.CX P w) k f fd ps sp) : ReadyKX P w K mg base k x ps sp kb := by
  obtain ⟨f, fd, F, g⟩ := A.ex
  exact ⟨f, fd, g, F.kp, F.binds hb, hk f fd F, ok f fd F⟩
end
end FL


namespace FL
open PySem PySem.Spec PyProof.Rows L2
section
variable {P : Program} {w : World} {K : PySem.W.Frag} {mg : Str → Option Value} {base : Heap}
abbrev sNS : Stmt := inClass cNoSaying 0
theorem scNS : FnScope ["self", "why", "at"] ["self", "why", "at"] (defScope sNS) := ⟨rfl, rfl, rfl, by decide +kernel, rfl, by decide +kernel, by decide +kernel⟩
theorem ok_NS {C CL fL f : Addr} {fd fdL : FuncData} (F : FunA K "NoSaying.__init__" sNS [.int 0] f fd) (FL : FunA K "LetterError.__init__" sLE [.str ""] fL fdL) (TL : ClsFn K CL fL) (gL : mg "LetterError" = some (.ref CL)) (mV : mg "ValueError" = none)
    (vV : PySem.W.findCls K (.type "ValueError") (.type "type") "__init__" = some (.val (.builtin "ValueError.__init__"))) (T : OexC K C) (hno : PySem.W.findIn K (.ref C) "at" = some none) :
    FnOk P w K mg base CX0 2 f fd ["self", "why", "at"] (spFld C "at") := by
  have GL : FnOk P w K mg base CX0 1 fL fdL ["self", "why"] (spLE K) := ok_LE FL mV vV
  obtain ⟨ds, vds, bds⟩ := bind_LE FL
  refine FunD.ok F scNS (fun vs H Q E h => ?_) (fun cdv A outer s H vs Q E hr h => ?_)
  · obtain ⟨a, v, y, rfl, _⟩ := h
    rfl
  · obtain ⟨a, v, y, rfl, hH, q⟩ := h
    refine ⟨_, pss_cons (ps_expr (pe_cinit TL GL hr (by rfl) gL bds vds pass0 (pa_cons (pv 0) (pa_cons (pv 1) pa_nil)))) (pss_one (ps_ost (pv 0) (pv 2))), ?_⟩
    refine ⟨_, rfl, _, rfl, a, C, v, rfl, T, hH, ?_⟩
    exact ⟨_, rfl, _, rfl, a, C, rfl, T, hno, .inl ⟨hH, fun dx n1 n2 => q dx n1 n2⟩⟩
theorem mk_NS {C CL fL f : Addr} {fd fdL : FuncData} (F : FunA K "NoSaying.__init__" sNS [.int 0] f fd) (FL : FunA K "LetterError.__init__" sLE [.str ""] fL fdL) (TL : ClsFn K CL fL) (gL : mg "LetterError" = some (.ref CL)) (mV : mg "ValueError" = none)
    (vV : PySem.W.findCls K (.type "ValueError") (.type "type") "__init__" = some (.val (.builtin "ValueError.__init__"))) (T : OexC K C) (hno : PySem.W.findIn K (.ref C) "at" = some none) (g : mg "NoSaying" = some (.ref C))
    (iC : PySem.W.findIn K (.ref C) "__init__" = some (some (.ref f))) (tI : PySem.W.typeIn K (.ref f) = some (.type "function")) : MkFld P w K mg base "NoSaying" C "at" :=
  ⟨T, g, f, fd, iC, tI, ok_NS F FL TL gL mV vV T hno,
    FunD.binds1 (ps := ["self", "why", "at"]) F 3 1 (by simp) rfl fun T kV doc pm an cdv ct us its hu hi => match us, its, hu, hi with | [_, _, _], [_], _, _ => ⟨_, rfl, rfl⟩,
    FunD.binds1 (ps := ["self", "why", "at"]) F 2 0 (by simp) rfl fun T kV doc pm an cdv ct us its hu hi => match us, its, hu, hi with | [_, _], [_], _, _ => ⟨_, rfl, rfl⟩⟩
end
end FL


namespace FL
open PySem PySem.Spec PyProof.Rows L2
/-! ### signs and their octets -/
def octs (s : Nat) : List Nat := if s < 128 then [s] else if s < 2048 then [192 + s / 64, 128 + s % 64] else [224 + s / 4096, 128 + s % 4096 / 64, 128 + s % 64]
def octsOf (l : List Nat) : List Nat := l.flatMap octs
def GS (l : List Nat) : Prop := (∀ n ∈ l, 32 ≤ n ∧ n ≤ 65535) ∧ l.length ≤ 2000
def GO (l : List Nat) : Prop := (∀ n ∈ l, n < 256) ∧ l.length ≤ 9000
def sizeFrom (o : Nat) : Nat := if o < 128 then 1 else if o < 224 then 2 else 3
def valO : List Nat → Int
  | [a] => a
  | [a, b] => 64 * ((a : Int) - 192) + b - 128
  | [a, b, c] => 4096 * ((a : Int) - 224) + 64 * ((b : Int) - 128) + c - 128
  | _ => 0
def signR (t : List Nat) : Option Nat := if isSgnI (valO t) = true ∧ octs (valO t).toNat = t then some (valO t).toNat else none
theorem octs_pos (s : Nat) : 1 ≤ (octs s).length ∧ (octs s).length ≤ 3 := by
  unfold octs
  split
  · exact ⟨by simp, by simp⟩
  · split <;> exact ⟨by simp, by simp⟩
theorem octs_lt {s : Nat} (h : s ≤ 65535) : ∀ n ∈ octs s, n < 256 := by
  unfold octs
  intro n hn
  split at hn
  · simp only [List.mem_singleton] at hn; omega
  · split at hn
    · simp only [List.mem_cons, List.not_mem_nil, or_false] at hn; omega
    · simp only [List.mem_cons, List.not_mem_nil, or_false] at hn; omega
theorem val_octs {s : Nat} (h : s ≤ 65535) : valO (octs s) = s := by
  unfold octs
  split
  · rfl
  · split
    · show 64 * (((192 + s / 64 : Nat) : Int) - 192) + ((128 + s % 64 : Nat) : Int) - 128 = s
      omega
    · show 4096 * (((224 + s / 4096 : Nat) : Int) - 224) + 64 * (((128 + s % 4096 / 64 : Nat) : Int) - 128) + ((128 + s % 64 : Nat) : Int) - 128 = s
      omega
theorem signR_octs {s : Nat} (h1 : 32 ≤ s) (h2 : s ≤ 65535) : signR (octs s) = some s := by
  unfold signR
  rw [val_octs h2, Int.toNat_natCast, if_pos ⟨decide_eq_true (by omega), rfl⟩]
theorem signR_some {t : List Nat} {s : Nat} (h : signR t = some s) : 32 ≤ s ∧ s ≤ 65535 ∧ octs s = t := by
  unfold signR at h
  split at h
  · rename_i g
    injection h with h
    have := of_decide_eq_true g.1
    refine ⟨by omega, by omega, by rw [← h]; exact g.2⟩
  · cases h
theorem size_octs (s : Nat) (h : s ≤ 65535) : sizeFrom ((octs s).getD 0 0) = (octs s).length := by
  unfold octs
  split
  · rename_i g
    show sizeFrom s = 1
    unfold sizeFrom
    rw [if_pos g]
  · split
    · show sizeFrom (192 + s / 64) = 2
      unfold sizeFrom
      rw [if_neg (by omega), if_pos (by omega)]
    · show sizeFrom (224 + s / 4096) = 3
      unfold sizeFrom
      rw [if_neg (by omega), if_neg (by omega)]
theorem octsOf_len (l : List Nat) : (octsOf l).length ≤ 3 * l.length := by
  induction l with
  | nil => exact Nat.le_refl _
  | cons a r ih =>
    have := octs_pos a
    unfold octsOf at ih ⊢
    rw [List.flatMap_cons, List.length_append, List.length_cons]
    omega
theorem octsOf_lt {l : List Nat} (h : ∀ n ∈ l, 32 ≤ n ∧ n ≤ 65535) : ∀ n ∈ octsOf l, n < 256 := by
  intro n hn
  obtain ⟨s, hs, hn⟩ := List.mem_flatMap.mp hn
  exact octs_lt (h s hs).2 n hn
/-- the mirror of saying_of: of the octets from a place on, with so many turns -/
def sayR (l : List Nat) : Nat → Nat → Option (Except Nat (List Nat))
  | 0, p => if p < l.length then none else some (.ok [])
  | n + 1, p => match l[p]? with
    | none => some (.ok [])
    | some o => match signR ((l.drop p).take (sizeFrom o)) with
      | none => some (.error p)
      | some s => (sayR l n (p + ((l.drop p).take (sizeFrom o)).length)).map fun
        | .ok r => .ok (s :: r)
        | .error q => .error q
section
variable {P : Program} {w : World} {K : PySem.W.Frag} {mg : Str → Option Value} {base : Heap}
def spNewInts (f : Nat → List Nat) : Sp := fun vs H Q _ => ∃ s : Nat, vs = [.int (s : Int)] ∧ ∀ H' p, Same H H' → H p = none → H' p = some (.lst (iv (f s))) → Q (.ref p) H'
theorem scOctetsOfSign : FnScope ["sign"] ["sign"] (defScope sOctetsOfSign) := ⟨rfl, rfl, rfl, by decide +kernel, rfl, by decide +kernel, by decide +kernel⟩
theorem r_octets_of_sign (A : FnAt K mg "_octets_of_sign" sOctetsOfSign) : Ready P w K mg base 1 "_octets_of_sign" ["sign"] (spNewInts octs) := by
  refine ready_of A (fun _ _ _ _ _ _ us hl => match us, hl with | [_], _ => rfl) fun f fd F => ?_
  refine F.ok scOctetsOfSign (fun vs H Q E h => ?_) (fun cdv A outer s H vs Q E hr h => ?_)
  · obtain ⟨s, rfl, _⟩ := h
    rfl
  · obtain ⟨s, rfl, q⟩ := h
    have sc := scOctetsOfSign
    refine ⟨_, pss_cons (ps_if (pt_cmpR op_lt (pv 0) pe_int (nomark _))
        (pss_one (ps_ret (pe_lst (pa_cons (pv 0) pa_nil))))
        pss_nil)
      (pss_cons (ps_if (pt_cmpR op_lt (pv 0) pe_int (nomark _))
        (pss_one (ps_ret (pe_lst (pa_cons (pe_op op_add pe_int (pe_op op_fdiv (pv 0) pe_int)) (pa_cons (pe_op op_add pe_int (pe_op op_mod (pv 0) pe_int)) pa_nil)))))
        pss_nil)
      (pss_one (ps_ret (pe_lst (pa_cons (pe_op op_add pe_int (pe_op op_fdiv (pv 0) pe_int)) (pa_cons (pe_op op_add pe_int (pe_op op_fdiv (pe_op op_mod (pv 0) pe_int) pe_int)) (pa_cons (pe_op op_add pe_int (pe_op op_mod (pv 0) pe_int)) pa_nil))))))), ?_⟩
    refine ⟨_, rfl, _, _, rfl, rfl, _, rfl, ite2 (fun h => ?_) (fun h => ?_)⟩
    · have h1 : s < 128 := by have := of_decide_eq_true h; omega
      refine ⟨_, rfl, (by show 1 ≤ sizeLine; decide), fun p np => q _ p (same_new np) np ?_⟩
      rw [upd_same]
      unfold octs
      rw [if_pos h1]
      rfl
    · have h1 : ¬ s < 128 := fun z => h (decide_eq_true (by omega))
      refine ⟨_, rfl, _, _, rfl, rfl, _, rfl, ite2 (fun h => ?_) (fun h => ?_)⟩
      · have h2 : s < 2048 := by have := of_decide_eq_true h; omega
        refine ⟨_, rfl, _, _, rfl, rfl, ⟨by decide, by decide⟩, _, _, rfl, rfl, _, rfl, _, _, rfl, rfl, (by show (0 : Int) < 64; decide), _, _, rfl, rfl, (by show 2 ≤ sizeLine; decide), fun p np => q _ p (same_new np) np ?_⟩
        rw [upd_same]
        unfold octs
        rw [if_neg h1, if_pos h2]
        rfl
      · have h2 : ¬ s < 2048 := fun z => h (decide_eq_true (by omega))
        refine ⟨_, rfl, _, _, rfl, rfl, ⟨by decide, by decide⟩, _, _, rfl, rfl, _, rfl, _, _, rfl, rfl, (by show (0 : Int) < 4096; decide), _, _, rfl, rfl, ⟨by decide, by decide⟩, _, _, rfl, rfl, _, rfl, _, _, rfl, rfl, (by show (0 : Int) < 64; decide), _, _, rfl, rfl, (by show 3 ≤ sizeLine; decide), fun p np => q _ p (same_new np) np ?_⟩
        rw [upd_same]
        unfold octs
        rw [if_neg h1, if_neg h2]
        rfl
def spNat (f : Nat → Nat) : Sp := fun vs H Q _ => ∃ s : Nat, vs = [.int (s : Int)] ∧ Q (.int (f s : Nat)) H
theorem scSizeFrom : FnScope ["octet"] ["octet"] (defScope sSizeFrom) := ⟨rfl, rfl, rfl, by decide +kernel, rfl, by decide +kernel, by decide +kernel⟩
theorem r_size_from (A : FnAt K mg "_size_from" sSizeFrom) : Ready P w K mg base 1 "_size_from" ["octet"] (spNat sizeFrom) := by
  refine ready_of A (fun _ _ _ _ _ _ us hl => match us, hl with | [_], _ => rfl) fun f fd F => ?_
  refine F.ok scSizeFrom (fun vs H Q E h => ?_) (fun cdv A outer s H vs Q E hr h => ?_)
  · obtain ⟨s, rfl, _⟩ := h
    rfl
  · obtain ⟨s, rfl, q⟩ := h
    refine ⟨_, pss_cons (ps_if (pt_cmpR op_lt (pv 0) pe_int (nomark _))
        (pss_one (ps_ret pe_int))
        pss_nil)
      (pss_cons (ps_if (pt_cmpR op_lt (pv 0) pe_int (nomark _))
        (pss_one (ps_ret pe_int))
        pss_nil)
      (pss_one (ps_ret pe_int))), ?_⟩
    unfold sizeFrom at q
    refine ⟨_, rfl, _, _, rfl, rfl, _, rfl, ite2 (fun h => ?_) (fun h => ?_)⟩
    · rw [if_pos (by have := of_decide_eq_true h; omega)] at q
      exact q
    · rw [if_neg (fun z => h (decide_eq_true (by omega)))] at q
      refine ⟨_, rfl, _, _, rfl, rfl, _, rfl, ite2 (fun h => ?_) (fun h => ?_)⟩
      · rw [if_pos (by have := of_decide_eq_true h; omega)] at q
        exact q
      · rw [if_neg (fun z => h (decide_eq_true (by omega)))] at q
        exact q
def optV : Option Nat → V
  | none => .non
  | some s => .int (s : Nat)
def spSignOf (K : PySem.W.Frag) : Sp := fun vs H Q _ => ∃ a l, vs = [.ref a] ∧ H a = some (.lst (iv l)) ∧ 1 ≤ l.length ∧ l.length ≤ 3 ∧ (∀ n ∈ l, n < 256) ∧ ∀ H', Same H H' → Q (optV (signR l)) H'
theorem scSignOfOctets : FnScope ["octets", "sign"] ["octets"] (defScope sSignOfOctets) := ⟨rfl, rfl, rfl, by decide +kernel, rfl, by decide +kernel, by decide +kernel⟩
theorem r_sign_of_octets (A : FnAt K mg "_sign_of_octets" sSignOfOctets) (RO : Ready P w K mg base 1 "_octets_of_sign" ["sign"] (spNewInts octs)) (RS : Ready P w K mg base 2 "_is_sign" ["value"] (spWhole K fun o => o.any isSgnI)) (m_len : mg "len" = none) :
    Ready P w K mg base 3 "_sign_of_octets" ["octets"] (spSignOf K) := by
  obtain ⟨f1, fd1, g1, k1, b1, G1⟩ := RO
  obtain ⟨f2, fd2, g2, k2, b2, G2⟩ := RS
  refine ready_of A (fun _ _ _ _ _ _ us hl => match us, hl with | [_], _ => rfl) fun f fd F => ?_
  refine F.ok scSignOfOctets (fun vs H Q E h => ?_) (fun cdv A outer s H vs Q E hr h => ?_)
  · obtain ⟨a, l, rfl, _⟩ := h
    rfl
  · obtain ⟨a, l, rfl, hH, hl1, hl3, hl, q⟩ := h
    have sc := scSignOfOctets
    refine ⟨_, pss_cons (ps_set (i := 1) sc.nd rfl (.inl rfl) (pe_ix ix_list (pv 0) pe_int (fun _ _ => rfl)))
      (pss_cons (ps_if (pt_cmpR op_eq (pe_callB call_len_seq (by rfl) m_len PySem.boot_len (pa_cons (pv 0) pa_nil)) pe_int (nomark _))
        (pss_one (ps_set (i := 1) sc.nd rfl (.inl rfl) (pe_op op_sub (pe_op op_add (pe_op op_mul pe_int (pe_op op_sub (pv 1) pe_int)) (pe_ix ix_list (pv 0) pe_int (fun _ _ => rfl))) pe_int)))
        (pss_one (ps_if (pt_cmpR op_eq (pe_callB call_len_seq (by rfl) m_len PySem.boot_len (pa_cons (pv 0) pa_nil)) pe_int (nomark _))
            (pss_one (ps_set (i := 1) sc.nd rfl (.inl rfl) (pe_op op_sub (pe_op op_add (pe_op op_add (pe_op op_mul pe_int (pe_op op_sub (pv 1) pe_int)) (pe_op op_mul pe_int (pe_op op_sub (pe_ix ix_list (pv 0) pe_int (fun _ _ => rfl)) pe_int))) (pe_ix ix_list (pv 0) pe_int (fun _ _ => rfl))) pe_int)))
            pss_nil)))
      (pss_cons (ps_if (PW.pt (pw_or (pt_not (pt_val (pe_call G2 (hr.mono (by decide)) (by rfl) g2 k2 b2 .nil pass0 (pa_cons (pv 1) pa_nil)))) (pw_or1 (pt_cmpR (op_neD hr.units) (pe_call G1 (hr.mono (by decide)) (by rfl) g1 k1 b1 .nil pass0 (pa_cons (pv 1) pa_nil)) (pv 0) (nomark _)))))
        (pss_one (ps_ret pe_non))
        pss_nil)
      (pss_one (ps_ret (pv 1))))), ?_⟩
    have tail : ∀ v : Int, v = valO l → ∃ v0, [some (V.ref a), some (V.int v)][1]? = some (some v0) ∧ spWhole K (fun o => o.any isSgnI) [v0] H (fun x H1 => ∃ k, x = .bl k ∧ (if (!k) = true then Q .non H1 else
        ∃ v0, [some (V.ref a), some (V.int v)][1]? = some (some v0) ∧ spNewInts octs [v0] H1 (fun x H2 => ∃ v1, [some (V.ref a), some (V.int v)][0]? = some (some v1) ∧ rNeD K x v1 H2 (fun z H3 => ∃ k, z = .bl k ∧ (if k = true then Q .non H3 else ∃ v2, [some (V.ref a), some (V.int v)][1]? = some (some v2) ∧ Q v2 H3))) E)) E := fun v hv => by
      refine ⟨_, rfl, _, _, rfl, Whole.int v, _, rfl, ?_⟩
      show (if (!isSgnI v) = true then _ else _)
      by_cases hs : isSgnI v = true
      · rw [hs]
        refine iteF ?_
        have hr2 := of_decide_eq_true hs
        have hv2 : v = ((v.toNat : Nat) : Int) := by omega
        refine ⟨_, rfl, v.toNat, by rw [← hv2], fun H1 p s1 np hp => ?_⟩
        refine ⟨_, rfl, _, _, dpl hp, dpl (s1 _ _ hH), shaped_ints _, shaped_ints _, _, rfl, ?_⟩
        rw [eqv_ints]
        by_cases he : octs v.toNat = l
        · rw [decide_eq_true he]
          refine iteF ⟨_, rfl, ?_⟩
          have := q H1 s1
          unfold signR at this
          rw [← hv, if_pos ⟨hs, he⟩] at this
          rw [hv2]
          exact this
        · rw [decide_eq_false he]
          refine iteT ?_
          have := q H1 s1
          unfold signR at this
          rw [← hv, if_neg (fun z => he z.2)] at this
          exact this
      · rw [eq_false_of_ne_true hs]
        refine iteT ?_
        have := q H (Same.refl H)
        unfold signR at this
        rw [← hv, if_neg (fun z => hs z.1)] at this
        exact this
    match l, hl1, hl3 with
    | [x], _, _ =>
      refine ⟨_, rfl, a, _, _, .int (x : Nat), rfl, rfl, SqL.of hH, rfl, ?_⟩
      refine ⟨_, rfl, a, _, rfl, .inl (SqL.of hH), rfl, _, rfl, iteF ?_⟩
      refine ⟨_, rfl, a, _, rfl, .inl (SqL.of hH), rfl, _, rfl, iteF ?_⟩
      exact tail x rfl
    | [x, y], _, _ =>
      refine ⟨_, rfl, a, _, _, .int (x : Nat), rfl, rfl, SqL.of hH, rfl, ?_⟩
      refine ⟨_, rfl, a, _, rfl, .inl (SqL.of hH), rfl, _, rfl, iteT ?_⟩
      refine ⟨_, rfl, _, _, rfl, rfl, _, _, rfl, rfl, .inl ⟨by decide, by decide⟩, _, rfl, a, _, _, .int (y : Nat), rfl, rfl, SqL.of hH, rfl, _, _, rfl, rfl, _, _, rfl, rfl, ?_⟩
      exact tail _ rfl
    | [x, y, z], _, _ =>
      refine ⟨_, rfl, a, _, _, .int (x : Nat), rfl, rfl, SqL.of hH, rfl, ?_⟩
      refine ⟨_, rfl, a, _, rfl, .inl (SqL.of hH), rfl, _, rfl, iteF ?_⟩
      refine ⟨_, rfl, a, _, rfl, .inl (SqL.of hH), rfl, _, rfl, iteT ?_⟩
      refine ⟨_, rfl, _, _, rfl, rfl, _, _, rfl, rfl, .inl ⟨by decide, by decide⟩, _, rfl, a, _, _, .int (y : Nat), rfl, rfl, SqL.of hH, rfl, _, _, rfl, rfl, _, _, rfl, rfl, .inl ⟨by decide, by decide⟩, _, _, rfl, rfl, _, rfl, a, _, _, .int (z : Nat), rfl, rfl, SqL.of hH, rfl, _, _, rfl, rfl, _, _, rfl, rfl, ?_⟩
      exact tail _ rfl
end
end FL


namespace FL
open PySem PySem.Spec PyProof.Rows L2
theorem cutV_nat (xs : List V) (i j : Nat) : cutV xs (some (i : Nat)) (some (j : Nat)) = (xs.drop i).take (j - i) := by
  unfold cutV
  rw [HT.sIx_nat, HT.sIx_nat]
  by_cases h : i ≤ xs.length
  · rw [Nat.min_eq_left h]
    by_cases h2 : j ≤ xs.length
    · rw [Nat.min_eq_left h2]
    · rw [Nat.min_eq_right (by omega : xs.length ≤ j), List.take_of_length_le (by rw [List.length_drop]; exact Nat.le_refl _), List.take_of_length_le (by rw [List.length_drop]; omega)]
  · rw [Nat.min_eq_right (by omega : xs.length ≤ i), List.drop_eq_nil_of_le (Nat.le_refl xs.length), List.drop_eq_nil_of_le (by omega : xs.length ≤ i)]
    simp
theorem cutV_iv (l : List Nat) (i j : Nat) : cutV (iv l) (some (i : Nat)) (some (j : Nat)) = iv ((l.drop i).take (j - i)) := by
  rw [cutV_nat, ← iv_drop, ← iv_take]
section
variable {P : Program} {w : World} {K : PySem.W.Frag} {mg : Str → Option Value} {base : Heap}
/-- no list of such whole numbers -/
def NoInts (K : PySem.W.Frag) (f : Option Int → Bool) (H : Hp) (v : V) : Prop := (∃ t, TyX K H v t ∧ PySem.W.kitOne K t (.type "list") = some false) ∨
  (∃ a xs os, v = .ref a ∧ H a = some (.lst xs) ∧ xs.length ≤ 10000 ∧ Paired (Whole K H) xs os ∧ os.all f = false)
abbrev NoSay (K : PySem.W.Frag) := NoInts K fun o => o.any isSgnI
abbrev NoOct (K : PySem.W.Frag) := NoInts K fun o => o.any isOctI
theorem sp_all {f : Option Int → Bool} {H : Hp} {v : V} {Q : VK} {E : XK} (h : NoInts K f H v) (q : ∀ H', Same H H' → Q (.bl false) H') : spAll K f [v] H Q E := by
  rcases h with ⟨t, ht, hk⟩ | ⟨a, xs, os, rfl, hH, hl, hp, ha⟩
  · exact ⟨v, rfl, .inr ⟨t, ht, hk, q H (Same.refl H)⟩⟩
  · exact ⟨_, rfl, .inl ⟨a, xs, os, rfl, hH, hl, hp, fun H' s => by rw [ha]; exact q H' s⟩⟩
def spCheckSayX (K : PySem.W.Frag) (C : Addr) : Sp := fun vs H Q E => ∃ v, vs = [v] ∧ ((∃ a l, v = .ref a ∧ H a = some (.lst (iv l)) ∧ GS l ∧ ∀ H', Same H H' → Q .non H') ∨ (NoSay K H v ∧ Fails C "at" 0 H E))
def spOctetsOfX (K : PySem.W.Frag) (C : Addr) : Sp := fun vs H Q E => ∃ v, vs = [v] ∧ ((∃ a l, v = .ref a ∧ H a = some (.lst (iv l)) ∧ GS l ∧ ∀ H' p, Same H H' → H p = none → H' p = some (.lst (iv (octsOf l))) → Q (.ref p) H') ∨ (NoSay K H v ∧ Fails C "at" 0 H E))
def spSayingOfX (K : PySem.W.Frag) (C CN : Addr) : Sp := fun vs H Q E => ∃ v, vs = [v] ∧ ((∃ a l n R, v = .ref a ∧ H a = some (.lst (iv l)) ∧ GO l ∧ sayR l n 0 = some R ∧
    (∀ r, R = .ok r → ∀ H' p, Same H H' → H p = none → H' p = some (.lst (iv r)) → Q (.ref p) H') ∧ (∀ p : Nat, R = .error p → Fails C "at" p H E)) ∨ (NoOct K H v ∧ ∀ H', Same H H' → E (.ref CN) none H'))
def glueR (acc : List Nat) : Except Nat (List Nat) → Except Nat (List Nat)
  | .ok r => .ok (acc ++ r)
  | .error q => .error q
theorem scSayingOf : FnScope ["octets", "saying", "place", "taken", "sign"] ["octets"] (defScope sSayingOf) := ⟨rfl, rfl, rfl, by decide +kernel, rfl, by decide +kernel, by decide +kernel⟩
theorem x_saying_of {C CN : Addr} (MNoSaying : MkFld P w K mg base "NoSaying" C "at") (MNoOctets : MkN P w K mg base "NoOctets" CN) (A : FnAt K mg "saying_of" sSayingOf) (RI : Ready P w K mg base 3 "is_octets" ["value"] (spAll K fun o => o.any isOctI))
    (RF : Ready P w K mg base 1 "_size_from" ["octet"] (spNat sizeFrom)) (RS : Ready P w K mg base 3 "_sign_of_octets" ["octets"] (spSignOf K)) (m_len : mg "len" = none) :
    ReadyKX P w K mg base 4 "saying_of" ["octets"] (spSayingOfX K C CN) (fun fd => KBs K fd ["octets"]) := by
  obtain ⟨f1, fd1, g1, k1, b1, G1⟩ := RI
  obtain ⟨f2, fd2, g2, k2, b2, G2⟩ := RF
  obtain ⟨f3, fd3, g3, k3, b3, G3⟩ := RS
  refine readyKX_of A (fun _ _ _ _ _ _ us hl => match us, hl with | [_], _ => rfl) (fun f fd F => kb_of F fun _ _ _ _ _ _ us hl => match us, hl with | [_], _ => rfl) fun f fd F => ?_
  refine F.okX scSayingOf (fun vs H Q E h => ?_) (fun cdv A outer s H vs Q E hr h => ?_)
  · obtain ⟨v, rfl, _⟩ := h
    rfl
  · obtain ⟨v, rfl, h⟩ := h
    have sc := scSayingOf
    refine ⟨_, pss_cons (ps_if (pt_not (pt_val (pe_call G1 (hr.mono (by decide)) (by rfl) g1 k1 b1 .nil pass0 (pa_cons (pv 0) pa_nil))))
        (pss_one (ps_raise rfl (takes_of rfl rfl rfl rfl) (pmk_non MNoOctets (hr.mono (by decide)) (by rfl) (pa_cons pe_str pa_nil))))
        pss_nil)
      (pss_cons (ps_set (i := 1) sc.nd rfl (.inl rfl) (pe_lst pa_nil))
      (pss_cons (ps_set (i := 2) sc.nd rfl (.inl rfl) pe_int)
      (pss_cons (ps_while (passes_of rfl) (pt_cmpR op_lt (pv 2) (pe_callB call_len_seq (by rfl) m_len PySem.boot_len (pa_cons (pv 0) pa_nil)) (nomark _))
        (pss_cons (ps_set (i := 3) sc.nd rfl (.inl rfl) (pe_slice sl_list (pv 0) (po_some (pv 2)) (po_some (pe_op op_add (pv 2) (pe_call G2 (hr.mono (by decide)) (by rfl) g2 k2 b2 .nil pass0 (pa_cons (pe_ix ix_list (pv 0) (pv 2) (fun _ _ => rfl)) pa_nil))))))
          (pss_cons (ps_set (i := 4) sc.nd rfl (.inl rfl) (pe_call G3 (hr.mono (by decide)) (by rfl) g3 k3 b3 .nil pass0 (pa_cons (pv 3) pa_nil)))
          (pss_cons (ps_if (pt_cmpR op_isN (pv 4) pe_non (nomark _))
            (pss_one (ps_raise rfl (takes_of rfl rfl rfl rfl) (pmk_fld MNoSaying (hr.mono (by decide)) (by rfl) (pa_cons pe_str (pa_cons (pv 2) pa_nil)) [] (.inl rfl))))
            pss_nil)
          (pss_cons (ps_expr (pe_bm PySem.F.plainAttrs_list PySem.F.slot_list_append PySem.F.type_list_append mt_append (pv 1) (pa_cons (pv 4) pa_nil)))
          (pss_one (ps_aug (i := 2) sc.nd rfl (.inl rfl) (pe_callB call_len_seq (by rfl) m_len PySem.boot_len (pa_cons (pv 3) pa_nil)) ip_add)))))))
      (pss_one (ps_ret (pv 1)))))), ?_⟩
    rcases h with ⟨a, l, n, R, rfl, hH, hl, hR, q, qe⟩ | ⟨hno, qe⟩
    · refine ⟨_, rfl, _, rfl, .inl ⟨a, iv l, _, rfl, hH, by rw [iv_len]; have := hl.2; omega, whole_ints l, fun H1 s1 => ?_⟩⟩
      rw [all_oct hl.1]
      refine ⟨_, rfl, iteF ?_⟩
      refine ⟨by show 0 ≤ sizeLine; decide, fun sp np => ?_⟩
      have np0 : H sp = none := Same.free s1 np
      refine ⟨fun m σ H' => ∃ (p n : Nat) (acc : List Nat) (y3 y4 : Option V) (R' : Except Nat (List Nat)), σ = [some (.ref a), some (.ref sp), some (.int (p : Nat)), y3, y4] ∧ Same H H' ∧ H' sp = some (.lst (iv acc)) ∧ acc.length ≤ p ∧ p ≤ l.length ∧ m = l.length - p ∧
        sayR l n p = some R' ∧ R = glueR acc R', ⟨l.length, 0, n, [], none, none, R, rfl, s1.trans (same_new np), upd_same, Nat.le_refl _, Nat.zero_le _, rfl, hR, by cases R <;> rfl⟩, fun m σ H' hW => ?_⟩
      obtain ⟨p, n, acc, y3, y4, R', rfl, sm, hs, hap, hp, rfl, hR', hg⟩ := hW
      refine ⟨_, rfl, _, rfl, a, _, rfl, .inl (SqL.of (sm _ _ hH)), _, _, rfl, rfl, _, rfl, ?_⟩
      rw [iv_len]
      by_cases h1 : p < l.length
      · rw [decide_eq_true (by omega : (p : Int) < (l.length : Int))]
        obtain ⟨o, ho⟩ : ∃ o, l[p]? = some o := ⟨_, List.getElem?_eq_getElem h1⟩
        refine iteT ⟨fun σ' H'' => ∃ (p' n' : Nat) (acc' : List Nat) (y3 y4 : Option V) (R'' : Except Nat (List Nat)), σ' = [some (.ref a), some (.ref sp), some (.int (p' : Nat)), y3, y4] ∧ Same H H'' ∧ H'' sp = some (.lst (iv acc')) ∧ acc'.length ≤ p' ∧ p' ≤ l.length ∧ p < p' ∧
          sayR l n' p' = some R'' ∧ R = glueR acc' R'', fun σ' H'' hN => ?_, ?_⟩
        · obtain ⟨p', n', acc', y3', y4', R'', rfl, a1, a2, a3, a4, a5, a6, a7⟩ := hN
          exact ⟨l.length - p', by omega, p', n', acc', y3', y4', R'', rfl, a1, a2, a3, a4, rfl, a6, a7⟩
        · refine ⟨_, rfl, _, rfl, _, rfl, _, rfl, _, rfl, _, rfl, a, _, _, .int (o : Nat), rfl, rfl, SqL.of (sm _ _ hH), atI_nat (iv_at ho), o, rfl, _, _, rfl, rfl, _, rfl, a, _, rfl, SqL.of (sm _ _ hH), fun t nt => ?_⟩
          have e1 : ((p : Int) + (sizeFrom o : Nat)) = ((p + sizeFrom o : Nat) : Int) := rfl
          rw [e1, cutV_iv, Nat.add_sub_cancel_left]
          generalize hT : (l.drop p).take (sizeFrom o) = T
          have hsz : 1 ≤ sizeFrom o ∧ sizeFrom o ≤ 3 := by unfold sizeFrom; split <;> (try split) <;> omega
          have hT1 : T.length = min (sizeFrom o) (l.length - p) := by rw [← hT, List.length_take, List.length_drop]
          have nsp : sp ≠ t := ne_of_none hs nt
          have nt0 : H t = none := Same.free sm nt
          have hTb : ∀ x ∈ T, x < 256 := fun x hx => hl.1 x (by rw [← hT] at hx; exact List.mem_of_mem_drop (List.mem_of_mem_take hx))
          refine ⟨_, rfl, t, T, rfl, upd_same, by omega, by omega, hTb, fun H4 s4 => ?_⟩
          have hs4 : H4 sp = some (.lst (iv acc)) := s4 _ _ (by rw [upd_ne nsp]; exact hs)
          have ht4 : H4 t = some (.lst (iv T)) := s4 _ _ upd_same
          have sm4 : Same H H4 := (sm.trans (same_new nt)).trans s4
          have hstep : sayR l n p = match n with | 0 => none | n + 1 => (match signR T with
              | none => some (.error p)
              | some s => (sayR l n (p + T.length)).map fun
                | .ok r => .ok (s :: r)
                | .error q => .error q) := by
            cases n with
            | zero => unfold sayR; rw [if_pos h1]
            | succ n =>
              rw [sayR, ho]
              dsimp only
              rw [hT]
              try rfl
          rw [hstep] at hR'
          cases n with
          | zero => cases hR'
          | succ n =>
            dsimp only at hR'
            refine ⟨_, rfl, rfl, _, rfl, ?_⟩
            cases hsg : signR T with
            | none =>
              rw [hsg] at hR'
              dsimp only at hR'
              injection hR' with hR'
              subst hR'
              refine iteT ⟨_, rfl, ?_⟩
              exact mk_leaf rfl (Nat.le_refl 2) (fun d H2 s2 nn e => (qe p hg).later sm4 d H2 s2 nn e)
            | some sg =>
              rw [hsg] at hR'
              dsimp only at hR'
              obtain ⟨R2, hR2, hR3⟩ := Option.map_eq_some_iff.mp hR'
              refine iteF ?_
              refine ⟨_, rfl, .inl ⟨rfl, _, SqL.of hs4⟩, _, rfl, sp, _, _, rfl, rfl, hs4, by rw [iv_len]; have := hl.2; exact szl (by omega), ?_⟩
              have hst : t ≠ sp := nsp.symm
              refine ⟨_, rfl, _, rfl, t, _, rfl, .inl (SqL.of (by rw [upd_ne hst]; exact ht4)), _, _, rfl, rfl, ?_⟩
              refine ⟨p + T.length, n, acc ++ [sg], _, _, R2, by rw [iv_len]; rfl, same_set sm4 np0, by rw [upd_same, iv_app]; rfl, by rw [List.length_append, List.length_singleton]; omega, by omega, by omega, hR2, ?_⟩
              rw [hg, ← hR3]
              cases R2 with
              | ok r => show Except.ok (acc ++ (sg :: r)) = Except.ok ((acc ++ [sg]) ++ r); rw [List.append_assoc]; rfl
              | error e => rfl
      · rw [decide_eq_false (by omega : ¬ (p : Int) < (l.length : Int))]
        have hend : sayR l n p = some (.ok []) := by
          cases n with
          | zero => unfold sayR; rw [if_neg h1]
          | succ n => rw [sayR, List.getElem?_eq_none (by omega)]
        rw [hend] at hR'
        injection hR' with hR'
        subst hR'
        refine iteF ⟨_, rfl, q acc (by rw [hg]; show Except.ok (acc ++ []) = _; rw [List.append_nil]) H' sp sm np0 hs⟩
    · refine ⟨_, rfl, ?_⟩
      unfold tNil
      refine sp_all hno fun H' s => ⟨_, rfl, iteT ?_⟩
      exact ⟨⟨_, rfl⟩, qe H' s⟩
theorem sayR_octs {l : List Nat} (h : ∀ n ∈ l, 32 ≤ n ∧ n ≤ 65535) : ∀ (a b : List Nat), l = a ++ b → sayR (octsOf l) b.length (octsOf a).length = some (.ok b) := by
  intro a b e
  induction b generalizing a with
  | nil =>
    subst e
    rw [List.append_nil]
    rw [List.length_nil, sayR, if_neg (Nat.lt_irrefl _)]
  | cons x r ih =>
    have hx := h x (by rw [e]; simp)
    have hd : (octsOf l).drop (octsOf a).length = octs x ++ octsOf r := by
      rw [e]
      unfold octsOf
      rw [List.flatMap_append, List.drop_left, List.flatMap_cons]
    have hp := octs_pos x
    obtain ⟨o, t, ho⟩ : ∃ o t, octs x = o :: t := by
      cases hh : octs x with
      | nil => rw [hh] at hp; simp at hp
      | cons o t => exact ⟨o, t, rfl⟩
    have hat : (octsOf l)[(octsOf a).length]? = some o := by
      have : ((octsOf l).drop (octsOf a).length)[0]? = some o := by rw [hd, ho]; rfl
      rw [List.getElem?_drop] at this
      exact this
    have hsz : sizeFrom o = (octs x).length := by
      have := size_octs x hx.2
      rw [ho] at this ⊢
      exact this
    have htk : ((octsOf l).drop (octsOf a).length).take (sizeFrom o) = octs x := by rw [hd, hsz, List.take_left]
    rw [List.length_cons, sayR, hat]
    dsimp only
    rw [htk, signR_octs hx.1 hx.2]
    dsimp only
    have e2 : (octsOf a).length + (octs x).length = (octsOf (a ++ [x])).length := by
      unfold octsOf
      rw [List.flatMap_append, List.length_append, List.flatMap_cons, List.flatMap_nil, List.append_nil]
    rw [e2, ih (a ++ [x]) (by rw [e]; simp)]
    rfl
end
end FL


namespace FL
open PySem PySem.Spec PyProof.Rows L2
theorem cutV_none (xs : List V) (j : Nat) : cutV xs (some ((0 : Nat) : Int)) (some (j : Nat)) = cutV xs none (some (j : Nat)) := by
  unfold cutV
  rw [HT.sIx_nat, HT.sIx_nat, Nat.zero_min]
  rfl
theorem cutV_drop (l : List Nat) (i : Nat) : cutV (iv l) (some (i : Nat)) none = iv (l.drop i) := by
  unfold cutV
  rw [HT.sIx_nat]
  show ((iv l).drop (min i (iv l).length)).take ((iv l).length - min i (iv l).length) = _
  by_cases h : i ≤ (iv l).length
  · rw [Nat.min_eq_left h, List.take_of_length_le (by rw [List.length_drop]; exact Nat.le_refl _), ← iv_drop]
  · rw [Nat.min_eq_right (by omega : (iv l).length ≤ i), List.drop_eq_nil_of_le (Nat.le_refl (iv l).length), List.drop_eq_nil_of_le (by rw [iv_len] at h; omega : l.length ≤ i)]
    simp [iv]
theorem drawn_newL {a p : Addr} {H H1 : Hp} {o : HO} (x : Drawn a H H1) (n : H1 p = none) : Drawn a H (upd H1 p o) := x.same (same_new n)
/-- drawn from a since H; at fp stands o -/
structure DS (a : Addr) (H : Hp) (fp : Addr) (o : HO) (Hc : Hp) : Prop where
  d : Drawn a H Hc
  f : Hc fp = some o
  n : fp ≠ a
theorem DS.new {a fp q : Addr} {H Hc : Hp} {o x : HO} (s : DS a H fp o Hc) (nq : Hc q = none) : DS a H fp o (upd Hc q x) := ⟨drawn_newL s.d nq, by rw [upd_ne (ne_of_none s.f nq)]; exact s.f, s.n⟩
theorem DS.draw {a fp : Addr} {H Hc H' : Hp} {o : HO} (s : DS a H fp o Hc) (dr : Drawn a Hc H') : DS a H fp o H' := ⟨s.d.trans dr, dr.old _ _ s.n s.f, s.n⟩
theorem Src.ne {H : Hp} {a q : Addr} (s : Src H a) (n : H q = none) : q ≠ a := fun e => by
  obtain ⟨x, y, z, h⟩ := s
  rw [e, h] at n
  cases n
/-- a thing drawn: its number is less than m -/
def spNextD : Sp := fun vs H Q _ => ∃ (a : Addr) (m : Nat), vs = [.ref a, .int (m : Nat)] ∧ 1 ≤ m ∧ m ≤ 100000 ∧ Src H a ∧ ∀ (r : Nat) H', r < m → Drawn a H H' → Q (.int (r : Nat)) H'
section
variable {P : Program} {w : World} {K : PySem.W.Frag} {mg : Str → Option Value} {base : Heap}
theorem next_d (R : Ready P w K mg base 2 "_law_next" ["_law_source_here", "_law_many"] spNext) : Ready P w K mg base 2 "_law_next" ["_law_source_here", "_law_many"] spNextD := by
  obtain ⟨f, fd, g, k, b, G⟩ := R
  refine ⟨f, fd, g, k, b, G.imp fun vs H Q E h => ?_⟩
  obtain ⟨a, m, rfl, h1, h2, ⟨x, y, z, hs⟩, q⟩ := h
  exact ⟨a, m, x, y, z, rfl, h1, h2, hs, fun r x' z' hr => q r _ hr drawn_upd⟩
theorem pickN {r : Nat} {ms : List Nat} (h : r < ms.length) : atI (ms.map fun m => V.int (m : Nat)) (r : Int) = some (.int (ms[r]'h : Nat)) :=
  atI_nat (by rw [List.getElem?_map, List.getElem?_eq_getElem h]; rfl)
theorem pickP {p : V → Prop} {xs : List V} {r : Nat} (h : r < xs.length) (hp : ∀ v ∈ xs, p v) : ∃ v, atI xs (r : Int) = some v ∧ p v :=
  ⟨xs[r]'h, atI_nat (List.getElem?_eq_getElem h), hp _ (List.getElem_mem h)⟩
/-- a sign's number -/
def IsSg (v : V) : Prop := ∃ n : Nat, v = .int (n : Nat) ∧ 32 ≤ n ∧ n ≤ 65535
theorem isSg {n : Nat} {v : V} (e : v = .int (n : Nat)) (h1 : 32 ≤ n) (h2 : n ≤ 65535) : IsSg v := ⟨n, e, h1, h2⟩
def spLawSaying (K : PySem.W.Frag) : Sp := fun vs H Q _ => ∃ a : Addr, vs = [.ref a] ∧ Src H a ∧ ∀ H' p (l : List Nat), Drawn a H H' → H p = none → H' p = some (.lst (iv l)) → (∀ n ∈ l, 32 ≤ n ∧ n ≤ 65535) → l.length ≤ 200 → Q (.ref p) H'
theorem scLawSaying : FnScope ["_law_source_here", "_law_way", "_law_found", "_law_k", "_law_edge", "_law_near", "_law_plain", "_law_high", "_law_some", "_law_at"] ["_law_source_here"] (defScope sLawSaying) := ⟨rfl, rfl, rfl, by decide +kernel, rfl, by decide +kernel, by decide +kernel⟩
theorem r_law_saying (A : FnAt K mg "_law_saying" sLawSaying) (RN : Ready P w K mg base 2 "_law_next" ["_law_source_here", "_law_many"] spNext) (m_len : mg "len" = none) (m_range : mg "range" = none) :
    Ready P w K mg base 3 "_law_saying" ["_law_source_here"] (spLawSaying K) := by
  obtain ⟨f1, fd1, g1, k1, b1, G1⟩ := next_d RN
  refine ready_of A (fun _ _ _ _ _ _ us hl => match us, hl with | [_], _ => rfl) fun f fd F => ?_
  refine F.ok scLawSaying (fun vs H Q E h => ?_) (fun cdv A outer s H vs Q E hr h => ?_)
  · obtain ⟨a, rfl, _⟩ := h
    rfl
  · obtain ⟨a, rfl, hS, q⟩ := h
    have sc := scLawSaying
    refine ⟨_, pss_cons (ps_set (i := 1) sc.nd rfl (.inl rfl) (pe_call G1 (hr.mono (by decide)) (by rfl) g1 k1 b1 .nil pass0 (pa_cons (pv 0) (pa_cons pe_int pa_nil))))
      (pss_cons (ps_set (i := 2) sc.nd rfl (.inl rfl) (pe_lst pa_nil))
      (pss_cons (ps_for PassesOwn.never rfl (pi_range1 (by rfl) m_range (pa_cons (pe_call G1 (hr.mono (by decide)) (by rfl) g1 k1 b1 .nil pass0 (pa_cons (pv 0) (pa_cons (pe_ix ix_list (pe_lst (pa_cons pe_int (pa_cons pe_int (pa_cons pe_int (pa_cons pe_int pa_nil))))) (pe_call G1 (hr.mono (by decide)) (by rfl) g1 k1 b1 .nil pass0 (pa_cons (pv 0) (pa_cons pe_int pa_nil))) (fun _ _ => rfl)) pa_nil))) pa_nil)) (pg_name (i := 3) sc.nd rfl (.inl rfl))
        (pss_cons (ps_set (i := 4) sc.nd rfl (.inl rfl) (pe_ix ix_list (pe_lst (pa_cons pe_int (pa_cons pe_int (pa_cons pe_int (pa_cons pe_int (pa_cons pe_int (pa_cons pe_int (pa_cons pe_int (pa_cons pe_int (pa_cons pe_int (pa_cons pe_int (pa_cons pe_int (pa_cons pe_int pa_nil))))))))))))) (pe_call G1 (hr.mono (by decide)) (by rfl) g1 k1 b1 .nil pass0 (pa_cons (pv 0) (pa_cons pe_int pa_nil))) (fun _ _ => rfl)))
          (pss_cons (ps_set (i := 5) sc.nd rfl (.inl rfl) (pe_lst (pa_cons (pe_op op_add pe_int (pe_call G1 (hr.mono (by decide)) (by rfl) g1 k1 b1 .nil pass0 (pa_cons (pv 0) (pa_cons pe_int pa_nil)))) (pa_cons pe_int (pa_cons (pe_op op_add pe_int (pe_call G1 (hr.mono (by decide)) (by rfl) g1 k1 b1 .nil pass0 (pa_cons (pv 0) (pa_cons pe_int pa_nil)))) (pa_cons (pe_op op_add pe_int (pe_call G1 (hr.mono (by decide)) (by rfl) g1 k1 b1 .nil pass0 (pa_cons (pv 0) (pa_cons pe_int pa_nil)))) pa_nil))))))
          (pss_cons (ps_set (i := 6) sc.nd rfl (.inl rfl) (pe_ix ix_list (pv 5) (pe_call G1 (hr.mono (by decide)) (by rfl) g1 k1 b1 .nil pass0 (pa_cons (pv 0) (pa_cons pe_int pa_nil))) (fun _ _ => rfl)))
          (pss_cons (ps_set (i := 7) sc.nd rfl (.inl rfl) (pe_ix ix_list (pe_lst (pa_cons (pe_op op_add pe_int (pe_call G1 (hr.mono (by decide)) (by rfl) g1 k1 b1 .nil pass0 (pa_cons (pv 0) (pa_cons pe_int pa_nil)))) (pa_cons (pe_op op_add pe_int (pe_call G1 (hr.mono (by decide)) (by rfl) g1 k1 b1 .nil pass0 (pa_cons (pv 0) (pa_cons pe_int pa_nil)))) pa_nil))) (pe_call G1 (hr.mono (by decide)) (by rfl) g1 k1 b1 .nil pass0 (pa_cons (pv 0) (pa_cons pe_int pa_nil))) (fun _ _ => rfl)))
          (pss_cons (ps_set (i := 8) sc.nd rfl (.inl rfl) (pe_lst (pa_cons (pv 6) (pa_cons (pv 4) (pa_cons (pv 7) (pa_cons (pe_ix ix_list (pe_lst (pa_cons (pv 6) (pa_cons (pv 6) (pa_cons (pv 6) (pa_cons (pv 4) pa_nil))))) (pe_call G1 (hr.mono (by decide)) (by rfl) g1 k1 b1 .nil pass0 (pa_cons (pv 0) (pa_cons pe_int pa_nil))) (fun _ _ => rfl)) pa_nil))))))
          (pss_one (ps_expr (pe_bm PySem.F.plainAttrs_list PySem.F.slot_list_append PySem.F.type_list_append mt_append (pv 2) (pa_cons (pe_ix ix_list (pe_op op_cat (pv 8) (pe_lst (pa_cons (pe_ix ix_list (pe_lst (pa_cons (pv 6) (pa_cons (pv 7) pa_nil))) (pe_call G1 (hr.mono (by decide)) (by rfl) g1 k1 b1 .nil pass0 (pa_cons (pv 0) (pa_cons pe_int pa_nil))) (fun _ _ => rfl)) (pa_cons (pv 6) pa_nil)))) (pv 1) (fun _ _ => rfl)) pa_nil))))))))))
      (pss_cons (ps_if (pt_cmpR op_eq (pv 1) pe_int (nomark _))
        (pss_cons (ps_set (i := 9) sc.nd rfl (.inl rfl) (pe_call G1 (hr.mono (by decide)) (by rfl) g1 k1 b1 .nil pass0 (pa_cons (pv 0) (pa_cons (pe_op op_add (pe_callB call_len_seq (by rfl) m_len PySem.boot_len (pa_cons (pv 2) pa_nil)) pe_int) pa_nil))))
          (pss_one (ps_set (i := 2) sc.nd rfl (.inl rfl) (pe_op op_cat (pe_op op_cat (pe_slice sl_list (pv 2) po_none (po_some (pv 9))) (pe_slice sl_list (pe_lst (pa_cons pe_int (pa_cons pe_int pa_nil))) po_none (po_some (pe_call G1 (hr.mono (by decide)) (by rfl) g1 k1 b1 .nil pass0 (pa_cons (pv 0) (pa_cons pe_int pa_nil)))))) (pe_slice sl_list (pv 2) (po_some (pv 9)) po_none)))))
        pss_nil)
      (pss_one (ps_ret (pv 2)))))), ?_⟩
    refine ⟨_, rfl, a, 6, rfl, by decide, by decide, hS, fun way H1 hway d1 => ?_⟩
    refine ⟨(by show 0 ≤ sizeLine; decide), fun fp nfp => ?_⟩
    have hfa := d1.src.ne nfp
    have hfa' : a ≠ fp := hfa.symm
    have nf0 : H fp = none := by
      cases hh : H fp with
      | none => rfl
      | some o => rw [d1.old fp o hfa hh] at nfp; cases nfp
    have s1 : DS a H fp (.lst (iv [])) (upd H1 fp (.lst [])) := ⟨drawn_newL d1 nfp, upd_same, hfa⟩
    refine ⟨_, rfl, (by show 4 ≤ sizeLine; decide), fun q0 nq0 => ?_⟩
    have s2 := s1.new (x := .lst [.int 4, .int 12, .int 40, .int 198]) nq0
    refine ⟨_, rfl, a, 4, rfl, by decide, by decide, s2.d.src, fun r0 H2 hr0 d2 => ?_⟩
    have s3 := s2.draw d2
    have hr0' : r0 < [4, 12, 40, 198].length := hr0
    refine ⟨q0, _, _, .int (([4, 12, 40, 198][r0]'hr0' : Nat) : Int), rfl, rfl, SqL.of (d2.old q0 _ (s1.d.src.ne nq0) upd_same), pickN (ms := [4, 12, 40, 198]) hr0', ?_⟩
    have hm : 1 ≤ ([4, 12, 40, 198][r0]'hr0' : Nat) ∧ ([4, 12, 40, 198][r0]'hr0' : Nat) ≤ 198 := (by decide : ∀ m ∈ [4, 12, 40, 198], 1 ≤ m ∧ m ≤ 198) _ (List.getElem_mem hr0')
    generalize ([4, 12, 40, 198][r0]'hr0' : Nat) = M at hm
    refine ⟨a, M, rfl, hm.1, by omega, s3.d.src, fun N H3 hN d3 => ?_⟩
    have s4 := s3.draw d3
    refine ⟨(N : Int), rfl, by omega, by omega, ?_⟩
    refine for_it walk_range (fun i σ H' => ∃ (l : List Nat) (y3 y4 y5 y6 y7 y8 : Option V), σ = [some (.ref a), some (.int (way : Nat)), some (.ref fp), y3, y4, y5, y6, y7, y8, none] ∧ DS a H fp (.lst (iv l)) H' ∧ l.length = i ∧ ∀ n ∈ l, 32 ≤ n ∧ n ≤ 65535)
      ⟨[], none, none, none, none, none, none, rfl, s4, rfl, fun n hn => by cases hn⟩ (fun _ _ _ _ _ => trivial) (fun i x σ H4 H5 hi hp hy => ?_) (fun σ H4 hp => ?_)
    · obtain ⟨l, y3, y4, y5, y6, y7, y8, rfl, t1, hl, hg⟩ := hp
      obtain ⟨rfl, hxv⟩ := hy
      -- edge
      refine ⟨(by show 12 ≤ sizeLine; decide), fun q1 n1 => ?_⟩
      have t2 := t1.new (x := .lst (iv [32, 37, 61, 63, 95, 126, 127, 128, 2047, 2048, 4096, 65535])) n1
      refine ⟨_, rfl, a, 12, rfl, by decide, by decide, t2.d.src, fun r1 H6 hr1 d6 => ?_⟩
      have t3 := t2.draw d6
      obtain ⟨v1, hv1, sg1⟩ := pickP (p := IsSg) (xs := iv [32, 37, 61, 63, 95, 126, 127, 128, 2047, 2048, 4096, 65535]) (r := r1) hr1 (fun v hv => by
        obtain ⟨n, hn, rfl⟩ := List.mem_map.mp hv
        exact isSg rfl ((by decide : ∀ m ∈ [32, 37, 61, 63, 95, 126, 127, 128, 2047, 2048, 4096, 65535], 32 ≤ m ∧ m ≤ 65535) n hn).1 ((by decide : ∀ m ∈ [32, 37, 61, 63, 95, 126, 127, 128, 2047, 2048, 4096, 65535], 32 ≤ m ∧ m ≤ 65535) n hn).2)
      refine ⟨q1, _, _, v1, rfl, rfl, SqL.of (d6.old q1 _ (t1.d.src.ne n1) upd_same), hv1, ?_⟩
      -- near
      refine ⟨_, rfl, a, 26, rfl, by decide, by decide, t3.d.src, fun r2 H7 hr2 d7 => ⟨_, _, rfl, rfl, ?_⟩⟩
      have t4 := t3.draw d7
      refine ⟨_, rfl, a, 10, rfl, by decide, by decide, t4.d.src, fun r3 H8 hr3 d8 => ⟨_, _, rfl, rfl, ?_⟩⟩
      have t5 := t4.draw d8
      refine ⟨_, rfl, a, 4, rfl, by decide, by decide, t5.d.src, fun r4 H9 hr4 d9 => ⟨_, _, rfl, rfl, ?_⟩⟩
      have t6 := t5.draw d9
      refine ⟨(by show 4 ≤ sizeLine; decide), fun q2 n2 => ?_⟩
      have t7 := t6.new (x := .lst [.int (97 + (r2 : Nat)), .int 32, .int (48 + (r3 : Nat)), .int (38 + (r4 : Nat))]) n2
      -- plain
      refine ⟨_, rfl, _, rfl, a, 4, rfl, by decide, by decide, t7.d.src, fun r5 H10 hr5 d10 => ?_⟩
      have t8 := t7.draw d10
      obtain ⟨v2, hv2, sg2⟩ := pickP (p := IsSg) (xs := [.int (97 + (r2 : Nat)), .int 32, .int (48 + (r3 : Nat)), .int (38 + (r4 : Nat))]) (r := r5) hr5 (fun v hv => by
        simp only [List.mem_cons, List.not_mem_nil, or_false] at hv
        rcases hv with rfl | rfl | rfl | rfl
        · exact ⟨97 + r2, rfl, by omega, by omega⟩
        · exact ⟨32, rfl, by omega, by omega⟩
        · exact ⟨48 + r3, rfl, by omega, by omega⟩
        · exact ⟨38 + r4, rfl, by omega, by omega⟩)
      refine ⟨q2, _, _, v2, rfl, rfl, SqL.of (d10.old q2 _ (t6.d.src.ne n2) upd_same), hv2, ?_⟩
      -- high
      refine ⟨_, rfl, a, 1800, rfl, by decide, by decide, t8.d.src, fun r6 H11 hr6 d11 => ⟨_, _, rfl, rfl, ?_⟩⟩
      have t9 := t8.draw d11
      refine ⟨_, rfl, a, 63488, rfl, by decide, by decide, t9.d.src, fun r7 H12 hr7 d12 => ⟨_, _, rfl, rfl, ?_⟩⟩
      have t10 := t9.draw d12
      refine ⟨(by show 2 ≤ sizeLine; decide), fun q3 n3 => ?_⟩
      have t11 := t10.new (x := .lst [.int (200 + (r6 : Nat)), .int (2048 + (r7 : Nat))]) n3
      refine ⟨_, rfl, a, 2, rfl, by decide, by decide, t11.d.src, fun r8 H13 hr8 d13 => ?_⟩
      have t12 := t11.draw d13
      obtain ⟨v3, hv3, sg3⟩ := pickP (p := IsSg) (xs := [.int (200 + (r6 : Nat)), .int (2048 + (r7 : Nat))]) (r := r8) hr8 (fun v hv => by
        simp only [List.mem_cons, List.not_mem_nil, or_false] at hv
        rcases hv with rfl | rfl
        · exact ⟨200 + r6, rfl, by omega, by omega⟩
        · exact ⟨2048 + r7, rfl, by omega, by omega⟩)
      refine ⟨q3, _, _, v3, rfl, rfl, SqL.of (d13.old q3 _ (t10.d.src.ne n3) upd_same), hv3, ?_⟩
      -- some
      refine ⟨_, rfl, _, rfl, _, rfl, _, rfl, _, rfl, _, rfl, _, rfl, (by show 4 ≤ sizeLine; decide), fun q4 n4 => ?_⟩
      have t13 := t12.new (x := .lst [v2, v2, v2, v1]) n4
      refine ⟨_, rfl, a, 4, rfl, by decide, by decide, t13.d.src, fun r9 H14 hr9 d14 => ?_⟩
      have t14 := t13.draw d14
      obtain ⟨v4, hv4, sg4⟩ := pickP (p := IsSg) (xs := [v2, v2, v2, v1]) (r := r9) hr9 (fun v hv => by
        simp only [List.mem_cons, List.not_mem_nil, or_false] at hv
        rcases hv with rfl | rfl | rfl | rfl <;> assumption)
      refine ⟨q4, _, _, v4, rfl, rfl, SqL.of (d14.old q4 _ (t12.d.src.ne n4) upd_same), hv4, ?_⟩
      refine ⟨(by show 4 ≤ sizeLine; decide), fun q5 n5 => ?_⟩
      have t15 := t14.new (x := .lst [v2, v1, v3, v4]) n5
      -- append
      refine ⟨_, rfl, .inl ⟨rfl, _, SqL.of t15.f⟩, _, rfl, _, rfl, _, rfl, (by show 2 ≤ sizeLine; decide), fun q6 n6 => ?_⟩
      have t16 := t15.new (x := .lst [v2, v3]) n6
      refine ⟨_, rfl, a, 2, rfl, by decide, by decide, t16.d.src, fun r10 H15 hr10 d15 => ?_⟩
      have t17 := t16.draw d15
      obtain ⟨v5, hv5, sg5⟩ := pickP (p := IsSg) (xs := [v2, v3]) (r := r10) hr10 (fun v hv => by
        simp only [List.mem_cons, List.not_mem_nil, or_false] at hv
        rcases hv with rfl | rfl <;> assumption)
      refine ⟨q6, _, _, v5, rfl, rfl, SqL.of (d15.old q6 _ (t15.d.src.ne n6) upd_same), hv5, _, rfl, (by show 2 ≤ sizeLine; decide), fun q7 n7 => ?_⟩
      have t18 := t17.new (x := .lst [v5, v2]) n7
      have h5 : (upd H15 q7 (.lst [v5, v2])) q5 = some (.lst [v2, v1, v3, v4]) := by
        have e1 : (upd (upd H14 q5 (.lst [v2, v1, v3, v4])) q6 (.lst [v2, v3])) q5 = some (.lst [v2, v1, v3, v4]) := by
          rw [upd_ne (ne_of_none upd_same n6)]
          exact upd_same
        have e2 := d15.old q5 _ (t14.d.src.ne n5) e1
        rw [upd_ne (ne_of_none e2 n7)]
        exact e2
      refine ⟨q5, q7, _, _, rfl, rfl, h5, upd_same, (by show 4 + 2 ≤ sizeLine; decide), fun q8 n8 => ?_⟩
      have t19 := t18.new (x := .lst [v2, v1, v3, v4, v5, v2]) n8
      obtain ⟨v6, hv6, sg6⟩ := pickP (p := IsSg) (xs := [v2, v1, v3, v4, v5, v2]) (r := way) hway (fun v hv => by
        simp only [List.mem_cons, List.not_mem_nil, or_false] at hv
        rcases hv with rfl | rfl | rfl | rfl | rfl | rfl <;> assumption)
      refine ⟨_, rfl, q8, _, _, v6, rfl, rfl, SqL.of upd_same, hv6, ?_⟩
      obtain ⟨n, rfl, hn1, hn2⟩ := sg6
      refine ⟨fp, _, _, rfl, rfl, t19.f, by rw [iv_len]; exact szl (by omega), ?_⟩
      refine ⟨l ++ [n], _, _, _, _, _, _, rfl, ⟨?_, ?_, hfa⟩, by rw [List.length_append, hl]; rfl, ?_⟩
      · refine ⟨fun b o nb e => ?_, ?_⟩
        · have : b ≠ fp := ne_of_none e nf0
          rw [upd_ne this]
          exact t19.d.old b o nb e
        · obtain ⟨x, y, z, e⟩ := t19.d.src
          exact ⟨x, y, z, by rw [upd_ne hfa']; exact e⟩
      · rw [upd_same, iv_app]
        rfl
      · intro m hm
        rcases List.mem_append.mp hm with hm | hm
        · exact hg m hm
        · rw [List.mem_singleton.mp hm]
          exact ⟨hn1, hn2⟩
    · obtain ⟨l, y3, y4, y5, y6, y7, y8, rfl, t1, hl, hg⟩ := hp
      refine ⟨_, rfl, rfl, _, rfl, ite2 (fun h => ?_) (fun h => ?_)⟩
      · refine ⟨_, rfl, _, rfl, fp, _, rfl, .inl (SqL.of t1.f), _, _, rfl, rfl, ?_⟩
        rw [iv_len]
        refine ⟨a, l.length + 1, rfl, by omega, by omega, t1.d.src, fun at_ H5 hat d5 => ?_⟩
        have t2 := t1.draw d5
        refine ⟨_, rfl, _, rfl, _, rfl, fp, _, rfl, SqL.of t2.f, fun q1 n1 => ?_⟩
        rw [show cutV (iv l) none (some (at_ : Nat)) = iv (l.take at_) from by rw [← cutV_none, cutV_iv]; simp]
        have t3 := t2.new (x := .lst (iv (l.take at_))) n1
        refine ⟨(by show 2 ≤ sizeLine; decide), fun q2 n2 => ?_⟩
        have t4 := t3.new (x := .lst (iv [61, 63])) n2
        refine ⟨_, rfl, a, 4, rfl, by decide, by decide, t4.d.src, fun r H6 hr d6 => ?_⟩
        have t5 := t4.draw d6
        refine ⟨_, rfl, q2, _, rfl, SqL.of (d6.old q2 _ (t3.d.src.ne n2) upd_same), fun q3 n3 => ?_⟩
        rw [show cutV [V.int 61, V.int 63] none (some (r : Nat)) = iv ([61, 63].take r) from by rw [← cutV_none]; exact (cutV_iv [61, 63] 0 r).trans (by simp)]
        have t6 := t5.new (x := .lst (iv ([61, 63].take r))) n3
        have e1 : (upd H6 q3 (.lst (iv ([61, 63].take r)))) q1 = some (.lst (iv (l.take at_))) := by
          have e0 : (upd (upd H5 q1 (.lst (iv (l.take at_)))) q2 (.lst (iv [61, 63]))) q1 = some (.lst (iv (l.take at_))) := by
            rw [upd_ne (ne_of_none upd_same n2)]
            exact upd_same
          have e2 := d6.old q1 _ (t2.d.src.ne n1) e0
          rw [upd_ne (ne_of_none e2 n3)]
          exact e2
        have hN : N ≤ 197 := by omega
        have hl2 : l.length ≤ 197 := by omega
        have hr2 : ([61, 63].take r).length ≤ 2 := by rw [List.length_take]; exact Nat.min_le_right _ _
        have hat2 : (l.take at_).length = at_ := by rw [List.length_take]; omega
        refine ⟨q1, q3, _, _, rfl, rfl, e1, upd_same, by rw [iv_len, iv_len]; exact Nat.le_of_lt (szl (by omega)), fun q4 n4 => ?_⟩
        rw [← iv_app]
        have t7 := t6.new (x := .lst (iv (l.take at_ ++ [61, 63].take r))) n4
        refine ⟨_, rfl, _, rfl, _, rfl, fp, _, rfl, SqL.of t7.f, fun q5 n5 => ?_⟩
        rw [show cutV (iv l) (some (at_ : Nat)) none = iv (l.drop at_) from cutV_drop l at_]
        have t8 := t7.new (x := .lst (iv (l.drop at_))) n5
        refine ⟨q4, q5, _, _, rfl, rfl, (by rw [upd_ne (ne_of_none upd_same n5)]; exact upd_same), upd_same, by rw [iv_len, iv_len, List.length_append, List.length_drop]; exact Nat.le_of_lt (szl (by omega)), fun q6 n6 => ?_⟩
        rw [← iv_app]
        have t9 := t8.new (x := .lst (iv (l.take at_ ++ [61, 63].take r ++ l.drop at_))) n6
        refine ⟨_, rfl, q _ q6 _ t9.d ?_ upd_same ?_ ?_⟩
        · cases hh : H q6 with
          | none => rfl
          | some o => rw [t8.d.old q6 o (t8.d.src.ne n6) hh] at n6; cases n6
        · intro m hm
          simp only [List.mem_append] at hm
          rcases hm with (hm | hm) | hm
          · exact hg m (List.mem_of_mem_take hm)
          · exact (by decide : ∀ m ∈ [61, 63], 32 ≤ m ∧ m ≤ 65535) m (List.mem_of_mem_take hm)
          · exact hg m (List.mem_of_mem_drop hm)
        · rw [List.length_append, List.length_append, List.length_drop]
          omega
      · exact ⟨_, rfl, q _ fp l t1.d nf0 t1.f hg (by omega)⟩
end
end FL


namespace FL
open PySem PySem.Spec PyProof.Rows L2
section
variable {P : Program} {w : World} {K : PySem.W.Frag} {mg : Str → Option Value} {base : Heap}
def spLawOcts (K : PySem.W.Frag) : Sp := fun vs H Q _ => ∃ a l, vs = [.ref a] ∧ H a = some (.lst (iv l)) ∧ GS l ∧ ∀ H' p, Same H H' → H p = none → H' p = some (.lst (iv (octsOf l))) → Q (.ref p) H'
theorem scLawOctetsOf : FnScope ["_law_row", "_law_found", "_law_tone", "_law_some"] ["_law_row"] (defScope sLawOctetsOf) := ⟨rfl, rfl, rfl, by decide +kernel, rfl, by decide +kernel, by decide +kernel⟩
theorem r_law_octets_of (A : FnAt K mg "_law_octets_of" sLawOctetsOf) : Ready P w K mg base 1 "_law_octets_of" ["_law_row"] (spLawOcts K) := by
  refine ready_of A (fun _ _ _ _ _ _ us hl => match us, hl with | [_], _ => rfl) fun f fd F => ?_
  refine F.ok scLawOctetsOf (fun vs H Q E h => ?_) (fun cdv A outer s H vs Q E hr h => ?_)
  · obtain ⟨a, l, rfl, _⟩ := h
    rfl
  · obtain ⟨a, l, rfl, hH, hl, q⟩ := h
    have sc := scLawOctetsOf
    refine ⟨_, pss_cons (ps_set (i := 1) sc.nd rfl (.inl rfl) (pe_lst pa_nil))
      (pss_cons (ps_for PassesOwn.never rfl (pi_list (pv 0)) (pg_name (i := 2) sc.nd rfl (.inl rfl))
        (pss_cons (ps_set (i := 3) sc.nd rfl (.inl rfl) (pe_lst (pa_cons (pv 2) pa_nil)))
          (pss_cons (ps_if (pt_cmpR op_gt (pv 2) pe_int (nomark _))
            (pss_one (ps_set (i := 3) sc.nd rfl (.inl rfl) (pe_lst (pa_cons (pe_op op_add pe_int (pe_op op_fdiv (pv 2) pe_int)) (pa_cons (pe_op op_add pe_int (pe_op op_fdiv (pe_op op_mod (pv 2) pe_int) pe_int)) (pa_cons (pe_op op_add pe_int (pe_op op_mod (pv 2) pe_int)) pa_nil))))))
            (pss_one (ps_if (pt_cmpR op_gt (pv 2) pe_int (nomark _))
                (pss_one (ps_set (i := 3) sc.nd rfl (.inl rfl) (pe_lst (pa_cons (pe_op op_add pe_int (pe_op op_fdiv (pv 2) pe_int)) (pa_cons (pe_op op_add pe_int (pe_op op_mod (pv 2) pe_int)) pa_nil)))))
                pss_nil)))
          (pss_one (ps_set (i := 1) sc.nd rfl (.inl rfl) (pe_op op_cat (pv 1) (pv 3)))))))
      (pss_one (ps_ret (pv 1)))), ?_⟩
    refine ⟨by show 0 ≤ sizeLine; decide, fun p np => ?_⟩
    refine ⟨_, rfl, a, rfl, ⟨_, SqL.of (by rw [upd_ne (ne_of_none hH np)]; exact hH)⟩, ?_⟩
    refine for_it (walk_list (K := K) (a := a) (xs := iv l)) (fun i σ H' => ∃ fp y2 y3, σ = [some (.ref a), some (.ref fp), y2, y3] ∧ Same H H' ∧ H fp = none ∧ H' fp = some (.lst (iv (octsOf (l.take i))))) ⟨p, none, none, rfl, same_new np, np, upd_same⟩
      (fun i σ H' _ hp => let ⟨_, _, _, _, s, _⟩ := hp; SqL.of (s _ _ hH)) (fun i x σ H2 H3 hi hp hy => ?_) (fun σ H2 hp => ?_)
    · obtain ⟨fp, y2, y3, rfl, s2, nfp, hfp⟩ := hp
      obtain ⟨rfl, hx⟩ := hy
      rw [iv_len] at hi
      have hn : l[i]? = some l[i] := List.getElem?_eq_getElem hi
      rw [iv_at hn] at hx
      injection hx with hx
      subst hx
      have hrest : l[i] ≤ 65535 := (hl.1 _ (List.getElem_mem hi)).2
      generalize hN : l[i] = n at hn hrest
      have fin : ∀ (Hc : Hp) (b : Addr), Same H3 Hc → Hc b = some (.lst (iv (octs n))) → ∃ v, [some (V.ref a), some (V.ref fp), some (V.int (n : Nat)), some (V.ref b)][1]? = some (some v) ∧ ∃ w, [some (V.ref a), some (V.ref fp), some (V.int (n : Nat)), some (V.ref b)][3]? = some (some w) ∧
          ∃ p q xs ys, v = .ref p ∧ w = .ref q ∧ Hc p = some (.lst xs) ∧ Hc q = some (.lst ys) ∧ xs.length + ys.length ≤ sizeLine ∧ ∀ l', Hc l' = none → ∃ fp' y2' y3', ([some (V.ref a), some (V.ref fp), some (V.int (n : Nat)), some (V.ref b)].set 1 (some (.ref l'))) = [some (.ref a), some (.ref fp'), y2', y3'] ∧ Same H (upd Hc l' (.lst (xs ++ ys))) ∧ H fp' = none ∧ (upd Hc l' (.lst (xs ++ ys))) fp' = some (.lst (iv (octsOf (l.take (i + 1))))) := fun Hc b sc2 hb => by
        refine ⟨_, rfl, _, rfl, fp, b, _, _, rfl, rfl, sc2 _ _ hfp, hb, ?_, fun l' nl => ⟨l', _, _, rfl, (s2.trans sc2).trans (same_new nl), Same.free (s2.trans sc2) nl, ?_⟩⟩
        · rw [iv_len, iv_len]
          have e1 := octsOf_len (l.take i)
          have e2 := octs_pos n
          have e3 : (l.take i).length ≤ l.length := by rw [List.length_take]; omega
          have := hl.2
          exact Nat.le_of_lt (szl (by omega))
        · rw [upd_same, take_more hn]
          unfold octsOf
          rw [List.flatMap_append, iv_app, List.flatMap_cons, List.flatMap_nil, List.append_nil]
      refine ⟨_, rfl, (by show 1 ≤ sizeLine; decide), fun q1 n1 => ?_⟩
      refine ⟨_, rfl, _, _, rfl, rfl, _, rfl, ite2 (fun h => ?_) (fun h => ?_)⟩
      · have h2 : ¬ n < 2048 := by have := of_decide_eq_true h; omega
        refine ⟨_, rfl, _, _, rfl, rfl, ⟨by decide, by decide⟩, _, _, rfl, rfl, _, rfl, _, _, rfl, rfl, (by show (0 : Int) < 4096; decide), _, _, rfl, rfl, ⟨by decide, by decide⟩, _, _, rfl, rfl, _, rfl, _, _, rfl, rfl, (by show (0 : Int) < 64; decide), _, _, rfl, rfl, (by show 3 ≤ sizeLine; decide), fun q2 n2 => ?_⟩
        refine fin _ q2 ((same_new n1).trans (same_new n2)) ?_
        rw [upd_same]
        unfold octs
        rw [if_neg (by omega), if_neg h2]
        rfl
      · have h2 : n < 2048 := by
          have : ¬ ((n : Int) > 2047) := fun z => h (decide_eq_true z)
          omega
        refine ⟨_, rfl, _, _, rfl, rfl, _, rfl, ite2 (fun h => ?_) (fun h => ?_)⟩
        · have h1 : ¬ n < 128 := by have := of_decide_eq_true h; omega
          refine ⟨_, rfl, _, _, rfl, rfl, ⟨by decide, by decide⟩, _, _, rfl, rfl, _, rfl, _, _, rfl, rfl, (by show (0 : Int) < 64; decide), _, _, rfl, rfl, (by show 2 ≤ sizeLine; decide), fun q2 n2 => ?_⟩
          refine fin _ q2 ((same_new n1).trans (same_new n2)) ?_
          rw [upd_same]
          unfold octs
          rw [if_neg h1, if_pos h2]
          rfl
        · have h1 : n < 128 := by
            have : ¬ ((n : Int) > 127) := fun z => h (decide_eq_true z)
            omega
          refine fin _ q1 (same_new n1) ?_
          rw [upd_same]
          unfold octs
          rw [if_pos h1]
          rfl
    · obtain ⟨fp, y2, y3, rfl, s2, nfp, hfp⟩ := hp
      rw [iv_len, List.take_length] at hfp
      exact ⟨_, rfl, q H2 fp s2 nfp hfp⟩
end
end FL


namespace FL
open PySem PySem.Spec PyProof.Rows L2
def mid (b : Nat) : Bool := decide (128 ≤ b ∧ b < 192)
/-- the suite's own reading of the sign at the begin -/
def decL : List Nat → Option (Nat × Nat)
  | [] => none
  | o :: r => if 32 ≤ o ∧ o < 128 then some (o, 1)
    else if 194 ≤ o ∧ o < 224 ∧ (r.take 1).map mid = [true] then some (64 * (o - 192) + r.getD 0 0 - 128, 2)
    else if 224 ≤ o ∧ o < 240 ∧ (r.take 2).map mid = [true, true] then
      (if 4096 * (o - 224) + 64 * (r.getD 0 0 - 128) + r.getD 1 0 - 128 > 2047 then some (4096 * (o - 224) + 64 * (r.getD 0 0 - 128) + r.getD 1 0 - 128, 3) else none)
    else none
theorem decL_cons (o : Nat) (r : List Nat) : decL (o :: r) = if 32 ≤ o ∧ o < 128 then some (o, 1)
    else if 194 ≤ o ∧ o < 224 ∧ (r.take 1).map mid = [true] then some (64 * (o - 192) + r.getD 0 0 - 128, 2)
    else if 224 ≤ o ∧ o < 240 ∧ (r.take 2).map mid = [true, true] then
      (if 4096 * (o - 224) + 64 * (r.getD 0 0 - 128) + r.getD 1 0 - 128 > 2047 then some (4096 * (o - 224) + 64 * (r.getD 0 0 - 128) + r.getD 1 0 - 128, 3) else none)
    else none := rfl
theorem signR_iff (t : List Nat) (s : Nat) : signR t = some s ↔ (32 ≤ s ∧ s ≤ 65535 ∧ octs s = t) := by
  constructor
  · exact signR_some
  · rintro ⟨h1, h2, rfl⟩
    exact signR_octs h1 h2
theorem signR_none {t : List Nat} (h : ∀ s, 32 ≤ s → s ≤ 65535 → octs s = t → False) : signR t = none := by
  cases e : signR t with
  | none => rfl
  | some s =>
    obtain ⟨h1, h2, h3⟩ := signR_some e
    exact (h s h1 h2 h3).elim
theorem octs1 {s : Nat} (h : s < 128) : octs s = [s] := by unfold octs; rw [if_pos h]
theorem octs2 {s : Nat} (h1 : 128 ≤ s) (h2 : s < 2048) : octs s = [192 + s / 64, 128 + s % 64] := by unfold octs; rw [if_neg (by omega), if_pos h2]
theorem octs3 {s : Nat} (h2 : 2048 ≤ s) : octs s = [224 + s / 4096, 128 + s % 4096 / 64, 128 + s % 64] := by unfold octs; rw [if_neg (by omega), if_neg (by omega)]
theorem octs_c (s : Nat) : (s < 128 ∧ octs s = [s]) ∨ (128 ≤ s ∧ s < 2048 ∧ octs s = [192 + s / 64, 128 + s % 64]) ∨ (2048 ≤ s ∧ octs s = [224 + s / 4096, 128 + s % 4096 / 64, 128 + s % 64]) := by
  by_cases h1 : s < 128
  · exact .inl ⟨h1, octs1 h1⟩
  · by_cases h2 : s < 2048
    · exact .inr (.inl ⟨by omega, h2, octs2 (by omega) h2⟩)
    · exact .inr (.inr ⟨by omega, octs3 (by omega)⟩)
theorem dec_sign : ∀ {o : Nat} {r : List Nat}, (∀ n ∈ o :: r, n < 256) → signR ((o :: r).take (sizeFrom o)) = (decL (o :: r)).map (·.1) ∧ ∀ s k, decL (o :: r) = some (s, k) → k = ((o :: r).take (sizeFrom o)).length := by
  intro o r hb
  have ho := hb o (List.mem_cons_self ..)
  by_cases h1 : o < 128
  · have hs : sizeFrom o = 1 := by unfold sizeFrom; rw [if_pos h1]
    have ht : (o :: r).take (sizeFrom o) = [o] := by rw [hs]; rfl
    rw [ht]
    by_cases h2 : 32 ≤ o
    · have hd : decL (o :: r) = some (o, 1) := by rw [decL_cons]; rw [if_pos ⟨h2, h1⟩]
      rw [hd]
      refine ⟨by show signR _ = some o; exact (signR_iff _ _).mpr ⟨h2, by omega, octs1 h1⟩, fun s k e => ?_⟩
      injection e with e
      rw [← (Prod.mk.inj e).2]
      rfl
    · have hd : decL (o :: r) = none := by rw [decL_cons]; rw [if_neg (by omega), if_neg (by omega), if_neg (by omega)]
      rw [hd]
      refine ⟨signR_none fun s a b e => ?_, fun s k e => by cases e⟩
      rcases octs_c s with ⟨_, e2⟩ | ⟨_, _, e2⟩ | ⟨_, e2⟩ <;> rw [e2] at e <;> simp at e
      omega
  · by_cases h2 : o < 224
    · have hs : sizeFrom o = 2 := by unfold sizeFrom; rw [if_neg h1, if_pos h2]
      rw [hs]
      match r, hb with
      | [], _ =>
        have hd : decL [o] = none := by rw [decL_cons]; rw [if_neg (by omega), if_neg (by simp), if_neg (by simp)]
        rw [hd]
        refine ⟨signR_none fun s a b e => ?_, fun s k e => by cases e⟩
        rcases octs_c s with ⟨_, e2⟩ | ⟨_, _, e2⟩ | ⟨_, e2⟩ <;> rw [e2] at e <;> simp at e
        omega
      | b :: r, hb =>
        have hbb := hb b (by simp)
        by_cases h3 : 194 ≤ o ∧ 128 ≤ b ∧ b < 192
        · have hd : decL (o :: b :: r) = some (64 * (o - 192) + b - 128, 2) := by
            rw [decL_cons]
            rw [if_neg (by omega), if_pos ⟨h3.1, h2, by simp [mid, h3.2]⟩]
            rfl
          rw [hd]
          have hoct : octs (64 * (o - 192) + b - 128) = [o, b] := by
            rw [octs2 (by omega) (by omega)]
            rw [show 192 + (64 * (o - 192) + b - 128) / 64 = o by omega, show 128 + (64 * (o - 192) + b - 128) % 64 = b by omega]
          refine ⟨by show signR _ = some (64 * (o - 192) + b - 128); exact (signR_iff _ _).mpr ⟨by omega, by omega, hoct⟩, fun s k e => ?_⟩
          injection e with e
          rw [← (Prod.mk.inj e).2]
          rfl
        · have hd : decL (o :: b :: r) = none := by
            rw [decL_cons]
            rw [if_neg (by omega), if_neg (fun z => h3 ⟨z.1, by have := z.2.2; simpa [mid] using this⟩), if_neg (by omega)]
          rw [hd]
          refine ⟨signR_none fun s a c e => ?_, fun s k e => by cases e⟩
          rcases octs_c s with ⟨_, e2⟩ | ⟨_, _, e2⟩ | ⟨_, e2⟩ <;> rw [e2] at e <;> simp at e
          omega
    · have hs : sizeFrom o = 3 := by unfold sizeFrom; rw [if_neg h1, if_neg h2]
      rw [hs]
      match r, hb with
      | [], _ =>
        have hd : decL [o] = none := by rw [decL_cons]; rw [if_neg (by omega), if_neg (by simp), if_neg (by simp)]
        rw [hd]
        refine ⟨signR_none fun s a b e => ?_, fun s k e => by cases e⟩
        rcases octs_c s with ⟨_, e2⟩ | ⟨_, _, e2⟩ | ⟨_, e2⟩ <;> rw [e2] at e <;> simp at e
        omega
      | [b], _ =>
        have hd : decL [o, b] = none := by rw [decL_cons]; rw [if_neg (by omega), if_neg (by omega), if_neg (by simp)]
        rw [hd]
        refine ⟨signR_none fun s a c e => ?_, fun s k e => by cases e⟩
        rcases octs_c s with ⟨_, e2⟩ | ⟨_, _, e2⟩ | ⟨_, e2⟩ <;> rw [e2] at e <;> simp at e
        omega
      | b :: c :: r, hb =>
        have hbb := hb b (by simp)
        have hcc := hb c (by simp)
        by_cases h3 : o < 240 ∧ (128 ≤ b ∧ b < 192) ∧ (128 ≤ c ∧ c < 192)
        · by_cases h4 : 4096 * (o - 224) + 64 * (b - 128) + c - 128 > 2047
          · have hd : decL (o :: b :: c :: r) = some (4096 * (o - 224) + 64 * (b - 128) + c - 128, 3) := by
              rw [decL_cons]
              rw [if_neg (by omega), if_neg (by omega), if_pos ⟨by omega, h3.1, by simp [mid, h3.2]⟩]
              exact if_pos h4
            rw [hd]
            have hoct : octs (4096 * (o - 224) + 64 * (b - 128) + c - 128) = [o, b, c] := by
              rw [octs3 (by omega)]
              rw [show 224 + (4096 * (o - 224) + 64 * (b - 128) + c - 128) / 4096 = o by omega, show 128 + (4096 * (o - 224) + 64 * (b - 128) + c - 128) % 4096 / 64 = b by omega, show 128 + (4096 * (o - 224) + 64 * (b - 128) + c - 128) % 64 = c by omega]
            refine ⟨by show signR _ = some (4096 * (o - 224) + 64 * (b - 128) + c - 128); exact (signR_iff _ _).mpr ⟨by omega, by omega, hoct⟩, fun s k e => ?_⟩
            injection e with e
            rw [← (Prod.mk.inj e).2]
            rfl
          · have hd : decL (o :: b :: c :: r) = none := by
              rw [decL_cons]
              rw [if_neg (by omega), if_neg (by omega), if_pos ⟨by omega, h3.1, by simp [mid, h3.2]⟩]
              exact if_neg h4
            rw [hd]
            refine ⟨signR_none fun s a d e => ?_, fun s k e => by cases e⟩
            rcases octs_c s with ⟨_, e2⟩ | ⟨_, _, e2⟩ | ⟨_, e2⟩ <;> rw [e2] at e <;> simp at e
            omega
        · have hd : decL (o :: b :: c :: r) = none := by
            rw [decL_cons]
            rw [if_neg (by omega), if_neg (by omega), if_neg (fun z => h3 ⟨z.2.1, by have := z.2.2; simpa [mid] using this⟩)]
          rw [hd]
          refine ⟨signR_none fun s a d e => ?_, fun s k e => by cases e⟩
          rcases octs_c s with ⟨_, e2⟩ | ⟨_, _, e2⟩ | ⟨_, e2⟩ <;> rw [e2] at e <;> simp at e
          omega
section
variable {P : Program} {w : World} {K : PySem.W.Frag} {mg : Str → Option Value} {base : Heap}
def bv (l : List Bool) : List V := l.map V.bl
def bdt (l : List Bool) : List PyData := l.map PyData.bool
theorem dp_bools {H : Hp} : ∀ l : List Bool, DpAll K H (bv l) (bdt l)
  | [] => .nil
  | z :: r => .cons (.bl _) (dp_bools r)
theorem shaped_bools (l : List Bool) : SeqAt.shaped (.list (bdt l)) = true := by
  refine shaped_of ?_ ?_
  · rw [PyData.canLay0]
    refine canLayAll_of fun d hd => ?_
    obtain ⟨z, hz, rfl⟩ := List.mem_map.mp hd
    rw [PyData.canLay0]
  · rw [PyData.depth]
    have : PyData.depthAll (bdt l) ≤ 0 := depthAll_of fun d hd => by
      obtain ⟨z, hz, rfl⟩ := List.mem_map.mp hd
      rw [PyData.depth]
      exact Nat.le_refl _
    omega
theorem eqv_bools_all : ∀ l m : List Bool, PyData.eqvAll (bdt l) (bdt m) = decide (l = m)
  | [], [] => by simp [bdt, PyData.eqvAll]
  | [], b :: s => by simp [bdt, PyData.eqvAll]
  | a :: r, [] => by simp [bdt, PyData.eqvAll]
  | a :: r, b :: s => by
    have ih := eqv_bools_all r s
    show PyData.eqvAll (PyData.bool a :: bdt r) (PyData.bool b :: bdt s) = _
    rw [PyData.eqvAll, ih]
    cases a <;> cases b <;> by_cases h2 : r = s <;> simp [h2, PyData.eqv]
theorem eqv_bools (l m : List Bool) : PyData.eqv (.list (bdt l)) (.list (bdt m)) = decide (l = m) := by
  rw [← eqv_bools_all]
  simp only [PyData.eqv]
theorem dpb {H : Hp} {a : Addr} {l : List Bool} (h : H a = some (.lst (bv l))) : Dp K H (.ref a) (.list (bdt l)) := .lst (SqL.of h) (dp_bools l)
theorem mid_b (n : Nat) : (if decide ((128 : Int) ≤ (n : Int)) = true then decide ((n : Int) < 192) else false) = mid n := by
  unfold mid
  by_cases h1 : 128 ≤ n
  · rw [decide_eq_true (by omega : (128 : Int) ≤ (n : Int)), if_pos rfl]
    by_cases h2 : n < 192
    · rw [decide_eq_true (by omega : (n : Int) < 192), decide_eq_true ⟨h1, h2⟩]
    · rw [decide_eq_false (by omega : ¬ (n : Int) < 192), decide_eq_false (fun z => h2 z.2)]
  · rw [decide_eq_false (by omega : ¬ (128 : Int) ≤ (n : Int)), if_neg Bool.false_ne_true, decide_eq_false (fun z => h1 z.1)]
theorem chain_no {lo hi n : Int} {A B : Prop} (h : ¬ (lo ≤ n ∧ n < hi)) (b : B) : (if decide (lo ≤ n) = true then (∃ i j : Int, V.int n = .int i ∧ V.int hi = .int j ∧ ∃ k, V.bl (decide (i < j)) = V.bl k ∧ (if k = true then A else B)) else ∃ k, V.bl false = V.bl k ∧ (if k = true then A else B)) := by
  by_cases h1 : lo ≤ n
  · rw [decide_eq_true h1, if_pos rfl]
    exact ⟨n, hi, rfl, rfl, _, rfl, by rw [decide_eq_false (fun z => h ⟨h1, z⟩), if_neg Bool.false_ne_true]; exact b⟩
  · rw [decide_eq_false h1, if_neg Bool.false_ne_true]
    exact ⟨_, rfl, by rw [if_neg Bool.false_ne_true]; exact b⟩
theorem chain_yes {lo hi n : Int} {A B : Prop} (h : lo ≤ n ∧ n < hi) (a : A) : (if decide (lo ≤ n) = true then (∃ i j : Int, V.int n = .int i ∧ V.int hi = .int j ∧ ∃ k, V.bl (decide (i < j)) = V.bl k ∧ (if k = true then A else B)) else ∃ k, V.bl false = V.bl k ∧ (if k = true then A else B)) := by
  rw [decide_eq_true h.1, if_pos rfl]
  exact ⟨n, hi, rfl, rfl, _, rfl, by rw [decide_eq_true h.2, if_pos rfl]; exact a⟩
theorem cutV_take (xs : List V) (j : Nat) : cutV xs none (some (j : Nat)) = xs.take j := (cutV_none xs j).symm.trans ((cutV_nat xs 0 j).trans (by simp))
def spLawSign (K : PySem.W.Frag) : Sp := fun vs H Q _ => ∃ (a : Addr) (l : List Nat) (p : Nat), vs = [.ref a, .int (p : Nat)] ∧ H a = some (.lst (iv l)) ∧ p < l.length ∧ (∀ n ∈ l, n < 256) ∧
  (decL (l.drop p) = none → ∀ H', Same H H' → Q .non H') ∧ (∀ s k, decL (l.drop p) = some (s, k) → ∀ H' T, Same H H' → H T = none → H' T = some (.tup [.int (s : Nat), .int (k : Nat)]) → Q (.ref T) H')
theorem scLawSign : FnScope ["_law_eights", "_law_at", "_law_one", "_law_more", "_law_good", "_law_tone", "_law_octet"] ["_law_eights", "_law_at"] (defScope sLawSign) := ⟨rfl, rfl, rfl, by decide +kernel, rfl, by decide +kernel, by decide +kernel⟩
theorem r_law_sign (A : FnAt K mg "_law_sign" sLawSign) : Ready P w K mg base 1 "_law_sign" ["_law_eights", "_law_at"] (spLawSign K) := by
  refine ready_of A (fun _ _ _ _ _ _ us hl => match us, hl with | [_, _], _ => rfl) fun f fd F => ?_
  refine F.ok scLawSign (fun vs H Q E h => ?_) (fun cdv A outer s H vs Q E hr h => ?_)
  · obtain ⟨a, l, p, rfl, _⟩ := h
    rfl
  · obtain ⟨a, l, p, rfl, hH, hp, hl, qn, qs⟩ := h
    have sc := scLawSign
    refine ⟨_, pss_cons (ps_set (i := 2) sc.nd rfl (.inl rfl) (pe_ix ix_list (pv 0) (pv 1) (fun _ _ => rfl)))
      (pss_cons (ps_set (i := 3) sc.nd rfl (.inl rfl) (pe_slice sl_list (pv 0) (po_some (pe_op op_add (pv 1) pe_int)) (po_some (pe_op op_add (pv 1) pe_int))))
      (pss_cons (ps_setLc (i := 4) (own := [("_law_octet", 6)]) (g := gName 6) (tt := tYes) (by rfl) sc.nd rfl rfl (sw_true rfl rfl rfl (by decide +kernel)) (pi_list (pv 3)) (blkOk_by (own := [("_law_octet", 6)]) (N := ["_law_eights", "_law_at", "_law_one", "_law_more", "_law_good", "_law_tone", "_law_octet"]) (sc := defScope sLawSign) (by decide +kernel)) (fun _ _ _ _ _ => (pg_name (i := 6) sc.nd rfl (.inl rfl))) (fun _ _ _ _ _ => pts_nil) (fun _ _ _ _ _ => (pe_chain op_le op_lt pe_int (pv 6) pe_int (by with_unfolding_all rfl))))
      (pss_cons (ps_if (pt_chain op_le op_lt pe_int (pv 2) pe_int (by with_unfolding_all rfl))
        (pss_one (ps_ret (pe_tup (pa_cons (pv 2) (pa_cons pe_int pa_nil)))))
        pss_nil)
      (pss_cons (ps_if (PW.pt (pw_and (pt_chain op_le op_lt pe_int (pv 2) pe_int (by with_unfolding_all rfl)) (pw_and1 (pt_cmpR (op_eqD hr.units) (pe_slice sl_list (pv 4) po_none (po_some pe_int)) (pe_lst (pa_cons pe_bl pa_nil)) (nomark _)))))
        (pss_one (ps_ret (pe_tup (pa_cons (pe_op op_sub (pe_op op_add (pe_op op_mul pe_int (pe_op op_sub (pv 2) pe_int)) (pe_ix ix_list (pv 3) pe_int (fun _ _ => rfl))) pe_int) (pa_cons pe_int pa_nil)))))
        pss_nil)
      (pss_cons (ps_if (PW.pt (pw_and (pt_chain op_le op_lt pe_int (pv 2) pe_int (by with_unfolding_all rfl)) (pw_and1 (pt_cmpR (op_eqD hr.units) (pv 4) (pe_lst (pa_cons pe_bl (pa_cons pe_bl pa_nil))) (nomark _)))))
        (pss_cons (ps_set (i := 5) sc.nd rfl (.inl rfl) (pe_op op_sub (pe_op op_add (pe_op op_add (pe_op op_mul pe_int (pe_op op_sub (pv 2) pe_int)) (pe_op op_mul pe_int (pe_op op_sub (pe_ix ix_list (pv 3) pe_int (fun _ _ => rfl)) pe_int))) (pe_ix ix_list (pv 3) pe_int (fun _ _ => rfl))) pe_int))
          (pss_one (ps_if (pt_cmpR op_gt (pv 5) pe_int (nomark _))
            (pss_one (ps_ret (pe_tup (pa_cons (pv 5) (pa_cons pe_int pa_nil)))))
            pss_nil)))
        pss_nil)
      (pss_one (ps_ret pe_non))))))), ?_⟩
    obtain ⟨o, ho⟩ : ∃ o, l[p]? = some o := ⟨_, List.getElem?_eq_getElem hp⟩
    have hd := drop_at ho
    have hob : o < 256 := hl o (List.mem_of_getElem? ho)
    rw [hd] at qn qs
    generalize hR : l.drop (p + 1) = r at qn qs
    have hrb : ∀ n ∈ r, n < 256 := fun n hn => hl n (by rw [← hR] at hn; exact List.mem_of_mem_drop hn)
    refine ⟨_, rfl, _, rfl, a, _, _, .int (o : Nat), rfl, rfl, SqL.of hH, atI_nat (iv_at ho), ?_⟩
    refine ⟨_, rfl, _, rfl, _, _, rfl, rfl, _, rfl, _, rfl, _, _, rfl, rfl, _, rfl, a, _, rfl, SqL.of hH, fun m nm => ?_⟩
    rw [show ((p : Int) + 1) = ((p + 1 : Nat) : Int) from rfl, show ((p : Int) + 3) = ((p + 3 : Nat) : Int) from rfl, cutV_iv, show p + 3 - (p + 1) = 2 by omega, hR]
    refine ⟨_, rfl, m, rfl, ⟨_, SqL.of upd_same⟩, fun D hD => ?_⟩
    have hDm : D ≠ m := fun e => by rw [e, upd_same] at hD; cases hD
    refine lc_it (walk_list (K := K) (a := m) (xs := iv (r.take 2))) (fun i H' => Same (upd H m (.lst (iv (r.take 2)))) H' ∧ H' D = some (.lst (bv (((r.take 2).take i).map mid)))) ⟨same_new hD, upd_same⟩ (fun i H' _ p1 => SqL.of (p1.1 _ _ upd_same)) (fun i x H1 H2 hi hp1 hy => ?_) (fun H1 hp1 => ?_)
    · obtain ⟨rfl, hx⟩ := hy
      obtain ⟨sm, hdd⟩ := hp1
      rw [iv_len] at hi
      have hn := List.getElem?_eq_getElem hi
      rw [iv_at hn] at hx
      injection hx with hx
      subst hx
      refine ⟨rfl, ?_⟩
      unfold tYes
      refine iteT ?_
      have key : ∀ b, b = mid (r.take 2)[i] → ∃ acc, H2 D = some (.lst acc) ∧ acc.length < sizeLine ∧ (Same (upd H m (.lst (iv (r.take 2)))) (upd H2 D (.lst (acc ++ [V.bl b]))) ∧ (upd H2 D (.lst (acc ++ [V.bl b]))) D = some (.lst (bv (((r.take 2).take (i + 1)).map mid)))) := fun b hb => by
        refine ⟨_, hdd, ?_, same_set sm hD, ?_⟩
        · unfold bv
          rw [List.length_map, List.length_map]
          refine Nat.lt_of_le_of_lt (List.length_take_le _ _) (szl (by rw [List.length_take] at hi; omega))
        · rw [upd_same, take_more hn, hb]
          unfold bv
          rw [List.map_append, List.map_append]
          rfl
      refine ⟨_, rfl, _, _, rfl, rfl, _, rfl, ?_⟩
      have hb := mid_b (r.take 2)[i]
      by_cases h1 : decide ((128 : Int) ≤ ((r.take 2)[i] : Int)) = true
      · rw [h1] at hb
        rw [if_pos rfl] at hb
        rw [if_pos h1]
        exact ⟨_, _, rfl, rfl, key _ hb⟩
      · rw [eq_false_of_ne_true h1] at hb
        rw [if_neg Bool.false_ne_true] at hb
        rw [eq_false_of_ne_true h1]
        exact iteF (key _ hb)
    · obtain ⟨sm, hdd⟩ := hp1
      rw [iv_len, List.take_length] at hdd
      have s1 : Same H H1 := (same_new nm).trans sm
      have hm1 : H1 m = some (.lst (iv (r.take 2))) := sm _ _ upd_same
      refine ⟨_, rfl, _, _, rfl, rfl, _, rfl, ?_⟩
      by_cases c1 : 32 ≤ o ∧ o < 128
      · refine chain_yes (by omega) ?_
        refine ⟨_, rfl, (by show 2 ≤ sizeLine; decide), fun T nT => ?_⟩
        exact qs o 1 (by rw [decL_cons, if_pos c1]) _ T (s1.trans (same_new nT)) (Same.free s1 nT) upd_same
      · refine chain_no (by omega) ?_
        refine ⟨_, rfl, _, _, rfl, rfl, _, rfl, ?_⟩
        by_cases c2 : 194 ≤ o ∧ o < 224
        · refine chain_yes (by omega) ?_
          refine ⟨_, rfl, _, rfl, D, _, rfl, SqL.of hdd, fun g ng => ?_⟩
          rw [show cutV (bv ((r.take 2).map mid)) none (some 1) = bv (((r.take 2).map mid).take 1) from (cutV_take _ 1).trans (List.map_take ..).symm]
          refine ⟨(by show 1 ≤ sizeLine; decide), fun t1 nt1 => ?_⟩
          have hgt : g ≠ t1 := ne_of_none upd_same nt1
          have s2 : Same H1 (upd (upd H1 g (.lst (bv (((r.take 2).map mid).take 1)))) t1 (.lst (bv [true]))) := (same_new ng).trans (same_new nt1)
          refine ⟨_, _, dpb (l := ((r.take 2).map mid).take 1) (by rw [upd_ne hgt]; exact upd_same), dpb (l := [true]) upd_same, shaped_bools _, shaped_bools _, _, rfl, ?_⟩
          rw [eqv_bools]
          have ht : ((r.take 2).map mid).take 1 = (r.take 1).map mid := by rw [← List.map_take, List.take_take]; rfl
          by_cases c3 : ((r.take 2).map mid).take 1 = [true]
          · rw [decide_eq_true c3]
            rw [ht] at c3
            match r, c3, hm1, qs, hrb with
            | b :: r', c3, hm1, qs, hrb =>
              have hmb : 128 ≤ b ∧ b < 192 := by simpa [mid] using c3
              refine iteT ⟨_, rfl, _, _, rfl, rfl, _, _, rfl, rfl, .inl ⟨by decide, by decide⟩, _, rfl, m, _, _, .int (b : Nat), rfl, rfl, SqL.of (s2 _ _ hm1), atI_nat (j := 0) rfl, _, _, rfl, rfl, _, _, rfl, rfl, (by show 2 ≤ sizeLine; decide), fun T nT => ?_⟩
              refine qs (64 * (o - 192) + b - 128) 2 (by rw [decL_cons, if_neg c1, if_pos ⟨c2.1, c2.2, c3⟩]; rfl) _ T ((s1.trans s2).trans (same_new nT)) (Same.free (s1.trans s2) nT) ?_
              rw [upd_same]
              show some (HO.tup [V.int (64 * ((o : Int) - 192) + (b : Int) - 128), .int 2]) = _
              rw [show (64 * ((o : Int) - 192) + (b : Int) - 128) = ((64 * (o - 192) + b - 128 : Nat) : Int) by omega]
              rfl
          · rw [decide_eq_false c3]
            rw [ht] at c3
            refine iteF ⟨_, rfl, _, _, rfl, rfl, _, rfl, chain_no (by omega) ?_⟩
            exact qn (by rw [decL_cons, if_neg c1, if_neg (fun z => c3 z.2.2), if_neg (by omega)]) _ (s1.trans s2)
        · refine chain_no (by omega) ?_
          refine ⟨_, rfl, _, _, rfl, rfl, _, rfl, ?_⟩
          by_cases c3 : 224 ≤ o ∧ o < 240
          · refine chain_yes (by omega) ?_
            refine ⟨_, rfl, (by show 2 ≤ sizeLine; decide), fun t1 nt1 => ?_⟩
            have s2 : Same H1 (upd H1 t1 (.lst (bv [true, true]))) := same_new nt1
            refine ⟨_, _, dpb (l := (r.take 2).map mid) (s2 _ _ hdd), dpb (l := [true, true]) upd_same, shaped_bools _, shaped_bools _, _, rfl, ?_⟩
            rw [eqv_bools]
            by_cases c4 : (r.take 2).map mid = [true, true]
            · rw [decide_eq_true c4]
              match r, c4, hm1, qs, qn, hrb with
              | [_], c4, _, _, _, _ => simp at c4
              | b :: c :: r', c4, hm1, qs, qn, hrb =>
                have hmb : (128 ≤ b ∧ b < 192) ∧ (128 ≤ c ∧ c < 192) := by simpa [mid] using c4
                refine iteT ⟨_, rfl, _, _, rfl, rfl, _, _, rfl, rfl, .inl ⟨by decide, by decide⟩, _, rfl, m, _, _, .int (b : Nat), rfl, rfl, SqL.of (s2 _ _ hm1), atI_nat (j := 0) rfl, _, _, rfl, rfl, _, _, rfl, rfl, .inl ⟨by decide, by decide⟩, _, _, rfl, rfl, _, rfl, m, _, _, .int (c : Nat), rfl, rfl, SqL.of (s2 _ _ hm1), atI_nat (j := 1) rfl, _, _, rfl, rfl, _, _, rfl, rfl, ?_⟩
                have ev : (4096 * ((o : Int) - 224) + 64 * ((b : Int) - 128) + (c : Int) - 128) = ((4096 * (o - 224) + 64 * (b - 128) + c - 128 : Nat) : Int) := by omega
                dsimp only
                rw [ev]
                have hdl : decL (o :: b :: c :: r') = (if 4096 * (o - 224) + 64 * (b - 128) + c - 128 > 2047 then some (4096 * (o - 224) + 64 * (b - 128) + c - 128, 3) else none) := by
                  rw [decL_cons, if_neg c1, if_neg (fun z => c2 ⟨z.1, z.2.1⟩), if_pos ⟨c3.1, c3.2, c4⟩]
                  rfl
                generalize 4096 * (o - 224) + 64 * (b - 128) + c - 128 = tone at hdl
                refine ⟨_, rfl, _, _, rfl, rfl, _, rfl, ite2 (fun h => ?_) (fun h => ?_)⟩
                · have h1 : tone > 2047 := by have := of_decide_eq_true h; omega
                  refine ⟨_, rfl, (by show 2 ≤ sizeLine; decide), fun T nT => ?_⟩
                  exact qs tone 3 (by rw [hdl, if_pos h1]) _ T ((s1.trans s2).trans (same_new nT)) (Same.free (s1.trans s2) nT) upd_same
                · have h1 : ¬ tone > 2047 := fun z => h (decide_eq_true (by omega))
                  exact qn (by rw [hdl, if_neg h1]) _ (s1.trans s2)
            · rw [decide_eq_false c4]
              exact iteF (qn (by rw [decL_cons, if_neg c1, if_neg (fun z => c2 ⟨z.1, z.2.1⟩), if_neg (fun z => c4 z.2.2)]) _ (s1.trans s2))
          · refine chain_no (by omega) ?_
            exact qn (by rw [decL_cons, if_neg c1, if_neg (fun z => c2 ⟨z.1, z.2.1⟩), if_neg (fun z => c3 ⟨z.1, z.2.1⟩)]) _ s1
end
end FL

namespace FL
open PySem PySem.Spec PyProof.Rows L2
theorem fold_rep (c : Nat) : ∀ (n : Nat) (acc : Array Nat), ((List.replicate n #[c]).foldl (· ++ ·) acc).toList = acc.toList ++ List.replicate n c
  | 0, acc => by simp
  | n + 1, acc => by
    rw [List.replicate_succ, List.foldl_cons, fold_rep c n, List.replicate_succ, Array.toList_append]
    simp
theorem op_mulS {X : Cx} : OpR X (binaryOp .Mult) (fun x y H Q => ∃ (c k : Nat), x = .str ⟨#[c]⟩ ∧ y = .int (k : Nat) ∧ k ≤ 10000 ∧ Q (.str (mk (List.replicate k c))) H) := by
  intro pins s σ H x y v u Q I rx ry h
  obtain ⟨c, k, rfl, rfl, hk, q⟩ := h
  obtain ⟨t, rfl⟩ := rx
  obtain ⟨t', rfl⟩ := ry
  by_cases h0 : k = 0
  · subst h0
    exact PySem.P.mul_str_none (by decide) (by decide) ⟨.str (mk []), H, I.tok _, ⟨_, rfl⟩, q⟩
  · have hl1 : (⟨#[c]⟩ : Str).length = 1 := rfl
    refine PySem.P.mul_str ?_ ?_ ?_ ?_
    · rw [decide_eq_false (by omega : ¬ ((k : Int) < -(2 ^ 63))), decide_eq_false (by omega : ¬ ((k : Int) ≥ 2 ^ 63))]
      rfl
    · intro _ _
      rw [hl1]
      have : (1 : Int) ≤ (2 ^ 63 - 1) / (k : Int) := by
        refine (Int.le_ediv_iff_mul_le (by omega)).mpr ?_
        omega
      omega
    · intro _ _
      rw [hl1, Int.toNat_natCast, Nat.one_mul]
      exact decide_eq_false (Nat.not_lt.mpr (Nat.le_of_lt (szl hk)))
    · rw [if_neg (by omega : ¬ ((k : Int) < 1))]
      by_cases h1 : k = 1
      · subst h1
        rw [if_pos (by rfl)]
        exact ⟨.str (mk [c]), H, I, ⟨t, rfl⟩, q⟩
      · rw [if_neg (by rw [hl1]; simp; omega), Int.toNat_natCast]
        have e : (⟨(List.replicate k (⟨#[c]⟩ : Str).cps).foldl (· ++ ·) #[]⟩ : Str) = mk (List.replicate k c) := mk_eq (by
          show ((List.replicate k #[c]).foldl (· ++ ·) #[]).toList = _
          rw [fold_rep]
          rfl)
        rw [e]
        refine ⟨?_, .str (mk (List.replicate k c)), H, I.tok _, ⟨_, rfl⟩, q⟩
        rw [mk_len, List.length_replicate]
        exact Nat.le_of_lt (szl hk)
theorem drawn_newM {a p : Addr} {H H1 : Hp} {o : HO} (x : Drawn a H H1) (n : H1 p = none) : Drawn a H (upd H1 p o) := x.same (same_new n)
theorem Src.neM {H : Hp} {a q : Addr} (s : Src H a) (n : H q = none) : q ≠ a := fun e => by
  obtain ⟨x, y, z, h⟩ := s
  rw [e, h] at n
  cases n
/-- a thing drawn: its number is less than m -/
def spNextM : Sp := fun vs H Q _ => ∃ (a : Addr) (m : Nat), vs = [.ref a, .int (m : Nat)] ∧ 1 ≤ m ∧ m ≤ 100000 ∧ Src H a ∧ ∀ (r : Nat) H', r < m → Drawn a H H' → Q (.int (r : Nat)) H'
theorem pickM {p : V → Prop} {xs : List V} {r : Nat} (h : r < xs.length) (hp : ∀ v ∈ xs, p v) : ∃ v, atI xs (r : Int) = some v ∧ p v :=
  ⟨xs[r]'h, atI_nat (List.getElem?_eq_getElem h), hp _ (List.getElem_mem h)⟩
theorem kn {H : Hp} {q p : Addr} {o x : HO} (h : H q = some o) (n : H p = none) : upd H p x q = some o := by
  rw [upd_ne (ne_of_none h n)]
  exact h
theorem free_drawn {a p : Addr} {H H1 : Hp} (x : Drawn a H H1) (h : H1 p = none) : H p = none := by
  cases e : H p with
  | none => rfl
  | some o =>
    rw [x.old p o (x.src.neM h) e] at h
    cases h
section
variable {P : Program} {w : World} {K : PySem.W.Frag} {mg : Str → Option Value} {base : Heap}
theorem next_m (R : Ready P w K mg base 2 "_law_next" ["_law_source_here", "_law_many"] spNext) : Ready P w K mg base 2 "_law_next" ["_law_source_here", "_law_many"] spNextM := by
  obtain ⟨f, fd, g, k, b, G⟩ := R
  refine ⟨f, fd, g, k, b, G.imp fun vs H Q E h => ?_⟩
  obtain ⟨a, m, rfl, h1, h2, ⟨x, y, z, hs⟩, q⟩ := h
  exact ⟨a, m, x, y, z, rfl, h1, h2, hs, fun r x' z' hr => q r _ hr drawn_upd⟩
end
end FL


namespace FL
open PySem PySem.Spec PyProof.Rows L2
/-- the suite's reading, sign by sign: the signs, and where it stops -/
def sgnL (l : List Nat) : Nat → Nat → List Nat × Nat
  | 0, p => ([], p)
  | n + 1, p => if p < l.length then (match decL (l.drop p) with
    | none => ([], p)
    | some (s, k) => (s :: (sgnL l n (p + k)).1, (sgnL l n (p + k)).2)) else ([], p)
theorem drop_cons {l : List Nat} {p o : Nat} (h : l[p]? = some o) : l.drop p = o :: l.drop (p + 1) := by
  have hp := (List.getElem?_eq_some_iff.mp h).1
  rw [List.drop_eq_getElem_cons hp, (List.getElem?_eq_some_iff.mp h).2]
theorem sizeFrom_pos (o : Nat) : 1 ≤ sizeFrom o := by
  unfold sizeFrom
  split
  · omega
  · split <;> omega
theorem decL_len {l : List Nat} {p s k : Nat} (hb : ∀ n ∈ l, n < 256) (hp : p < l.length) (h : decL (l.drop p) = some (s, k)) : 1 ≤ k ∧ p + k ≤ l.length := by
  have ho := List.getElem?_eq_getElem hp
  generalize l[p] = o at ho
  rw [drop_cons ho] at h
  have := (dec_sign (o := o) (r := l.drop (p + 1)) fun n hn => hb n (List.mem_of_mem_drop (drop_cons ho ▸ hn))).2 s k h
  rw [this, List.length_take, List.length_cons, List.length_drop]
  have := sizeFrom_pos o
  omega
theorem sgn_say {l : List Nat} (hb : ∀ n ∈ l, n < 256) : ∀ n p, l.length - p ≤ n → p ≤ l.length → (sgnL l n p).2 ≤ l.length ∧ sayR l n p = some (if (sgnL l n p).2 < l.length then .error (sgnL l n p).2 else .ok (sgnL l n p).1)
  | 0, p, h1, h2 => by
    unfold sgnL sayR
    rw [if_neg (by omega), if_neg (by show ¬ p < l.length; omega)]
    exact ⟨h2, rfl⟩
  | n + 1, p, h1, h2 => by
    by_cases hp : p < l.length
    · have ho := List.getElem?_eq_getElem hp
      generalize l[p] = o at ho
      have hd := dec_sign (o := o) (r := l.drop (p + 1)) fun n hn => hb n (List.mem_of_mem_drop (drop_cons ho ▸ hn))
      rw [← drop_cons ho] at hd
      rw [sgnL, if_pos hp, sayR, ho]
      dsimp only
      rw [hd.1]
      cases e : decL (l.drop p) with
      | none =>
        dsimp only [Option.map]
        rw [if_pos hp]
        exact ⟨h2, rfl⟩
      | some sk =>
        obtain ⟨s, k⟩ := sk
        have hk := hd.2 s k e
        have hkl := decL_len hb hp e
        dsimp only [Option.map]
        rw [← hk]
        obtain ⟨i1, i2⟩ := sgn_say hb n (p + k) (by omega) hkl.2
        rw [i2]
        refine ⟨i1, ?_⟩
        by_cases hq : (sgnL l n (p + k)).2 < l.length
        · rw [if_pos hq, if_pos hq]
        · rw [if_neg hq, if_neg hq]
    · rw [sgnL, if_neg hp, sayR, List.getElem?_eq_none (by omega)]
      dsimp only
      rw [if_neg hp]
      exact ⟨h2, rfl⟩
def IsOct (v : V) : Prop := ∃ n : Nat, v = .int (n : Nat) ∧ n < 256
section
variable {P : Program} {w : World} {K : PySem.W.Frag} {mg : Str → Option Value} {base : Heap}
def spSignsOf : Sp := fun vs H Q _ => ∃ (a : Addr) (l : List Nat), vs = [.ref a] ∧ H a = some (.lst (iv l)) ∧ GO l ∧
  ∀ H' T fp, Same H H' → H' T = some (.tup [.ref fp, .int ((sgnL l l.length 0).2 : Nat)]) → H' fp = some (.lst (iv (sgnL l l.length 0).1)) → Q (.ref T) H'
theorem scLawSignsOf : FnScope ["_law_eights", "_law_found", "_law_at", "_law_one"] ["_law_eights"] (defScope sLawSignsOf) := ⟨rfl, rfl, rfl, by decide +kernel, rfl, by decide +kernel, by decide +kernel⟩
theorem r_signs_of (A : FnAt K mg "_law_signs_of" sLawSignsOf) (R : Ready P w K mg base 1 "_law_sign" ["_law_eights", "_law_at"] (spLawSign K)) (m_len : mg "len" = none) : Ready P w K mg base 2 "_law_signs_of" ["_law_eights"] spSignsOf := by
  obtain ⟨f1, fd1, g1, k1, b1, G1⟩ := R
  refine ready_of A (fun _ _ _ _ _ _ us hl => match us, hl with | [_], _ => rfl) fun f fd F => ?_
  refine F.ok scLawSignsOf (fun vs H Q E h => ?_) (fun cdv A outer s H vs Q E hr h => ?_)
  · obtain ⟨a, l, rfl, _⟩ := h
    rfl
  · obtain ⟨a, l, rfl, hH, hb, q⟩ := h
    have sc := scLawSignsOf
    refine ⟨_, pss_cons (ps_set (i := 1) sc.nd rfl (.inl rfl) (pe_lst pa_nil))
      (pss_cons (ps_set (i := 2) sc.nd rfl (.inl rfl) pe_int)
      (pss_cons (ps_while PassesOwn.never (pt_cmpR op_lt (pv 2) (pe_callB call_len_seq (by rfl) m_len PySem.boot_len (pa_cons (pv 0) pa_nil)) (nomark _))
        (pss_cons (ps_set (i := 3) sc.nd rfl (.inl rfl) (pe_call G1 (hr.mono (by decide)) (by rfl) g1 k1 b1 .nil pass0 (pa_cons (pv 0) (pa_cons (pv 2) pa_nil))))
          (pss_cons (ps_if (pt_cmpR op_isN (pv 3) pe_non (nomark _))
            (pss_one (ps_ret (pe_tup (pa_cons (pv 1) (pa_cons (pv 2) pa_nil)))))
            pss_nil)
          (pss_cons (ps_expr (pe_bm PySem.F.plainAttrs_list PySem.F.slot_list_append PySem.F.type_list_append mt_append (pv 1) (pa_cons (pe_ix ix_tup (pv 3) pe_int (fun _ _ => rfl)) pa_nil)))
          (pss_one (ps_set (i := 2) sc.nd rfl (.inl rfl) (pe_op op_add (pv 2) (pe_ix ix_tup (pv 3) pe_int (fun _ _ => rfl)))))))))
      (pss_one (ps_ret (pe_tup (pa_cons (pv 1) (pa_cons (pv 2) pa_nil))))))), ?_⟩
    refine ⟨(by show 0 ≤ sizeLine; decide), fun fp nfp => ?_⟩
    refine ⟨fun m σ H' => ∃ (acc : List Nat) (p : Nat) (y3 : Option V), σ = [some (.ref a), some (.ref fp), some (.int (p : Nat)), y3] ∧ Same H H' ∧ H' fp = some (.lst (iv acc)) ∧ p ≤ l.length ∧ acc.length ≤ p ∧ l.length - p ≤ m ∧ (sgnL l l.length 0).2 = (sgnL l m p).2 ∧ (sgnL l l.length 0).1 = acc ++ (sgnL l m p).1,
      ⟨l.length, [], 0, none, rfl, same_new nfp, upd_same, Nat.zero_le _, Nat.zero_le _, Nat.le_refl _, rfl, rfl⟩, fun n σ H' hW => ?_⟩
    obtain ⟨acc, p, y3, rfl, sm, hfp, hp, hac, hn, e2, e1⟩ := hW
    have hH' := sm _ _ hH
    have hGl := hb.2
    refine ⟨_, rfl, _, rfl, a, _, rfl, .inl (SqL.of hH'), _, _, rfl, rfl, _, rfl, ?_⟩
    dsimp only
    rw [iv_len]
    by_cases h : p < l.length
    case neg =>
      rw [decide_eq_false (by omega : ¬ ((p : Nat) : Int) < ((l.length : Nat) : Int))]
      refine iteF ⟨_, rfl, _, rfl, (by show 2 ≤ sizeLine; decide), fun T nT => ?_⟩
      have e : sgnL l n p = ([], p) := by
        cases n with
        | zero => rfl
        | succ n => rw [sgnL, if_neg h]
      rw [e] at e1 e2
      refine q _ T fp (sm.trans (same_new nT)) ?_ ?_
      · rw [upd_same, e2]
      · rw [e1]
        show _ = some (HO.lst (iv (acc ++ [])))
        rw [List.append_nil]
        exact kn hfp nT
    case pos =>
      rw [decide_eq_true (by omega : ((p : Nat) : Int) < ((l.length : Nat) : Int))]
      obtain ⟨n, rfl⟩ : ∃ n', n = n' + 1 := ⟨n - 1, by omega⟩
      rw [sgnL, if_pos h] at e1 e2
      refine iteT ⟨fun σ' H'' => ∃ (acc' : List Nat) (p' : Nat) (y3 : Option V), σ' = [some (.ref a), some (.ref fp), some (.int (p' : Nat)), y3] ∧ Same H H'' ∧ H'' fp = some (.lst (iv acc')) ∧ p' ≤ l.length ∧ acc'.length ≤ p' ∧ l.length - p' ≤ n ∧ (sgnL l l.length 0).2 = (sgnL l n p').2 ∧ (sgnL l l.length 0).1 = acc' ++ (sgnL l n p').1, fun σ' H'' hN => ?_, ?_⟩
      · obtain ⟨acc', p', y3', rfl, a1, a2, a3, a4, a5, a6, a7⟩ := hN
        exact ⟨n, by omega, acc', p', y3', rfl, a1, a2, a3, a4, a5, a6, a7⟩
      · refine ⟨_, rfl, _, rfl, a, l, p, rfl, hH', h, hb.1, fun e H2 s2 => ?_, fun sg k e H2 T s2 nT hT => ?_⟩
        · rw [e] at e1 e2
          refine ⟨_, rfl, rfl, _, rfl, ?_⟩
          rw [decide_eq_true (rfl : V.non = V.non)]
          refine iteT ⟨_, rfl, _, rfl, (by show 2 ≤ sizeLine; decide), fun T nT => ?_⟩
          refine q _ T fp ((sm.trans s2).trans (same_new nT)) ?_ ?_
          · rw [upd_same, e2]
          · rw [e1]
            show _ = some (HO.lst (iv (acc ++ [])))
            rw [List.append_nil]
            exact kn (s2 _ _ hfp) nT
        · rw [e] at e1 e2
          have hk := decL_len hb.1 h e
          refine ⟨_, rfl, rfl, _, rfl, ?_⟩
          rw [decide_eq_false (show ¬ V.ref T = V.non from fun z => by cases z)]
          have hfp2 := s2 _ _ hfp
          refine iteF ⟨_, rfl, .inl ⟨rfl, _, SqL.of hfp2⟩, _, rfl, T, _, _, .int (sg : Nat), rfl, rfl, SqT.of hT, rfl, fp, _, _, rfl, rfl, hfp2, by rw [iv_len]; exact szl (by omega), ?_⟩
          have hTf : T ≠ fp := Ne.symm (ne_of_none hfp nT)
          refine ⟨_, rfl, _, rfl, T, _, _, .int (k : Nat), rfl, rfl, SqT.of (by rw [upd_ne hTf]; exact hT), rfl, _, _, rfl, rfl, acc ++ [sg], p + k, some (.ref T), rfl, same_set (sm.trans s2) nfp, ?_, hk.2, ?_, by omega, e2, ?_⟩
          · rw [upd_same, iv_app]
            rfl
          · rw [List.length_append]
            show acc.length + 1 ≤ _
            omega
          · rw [e1]
            simp
def spOdd : Sp := fun vs H Q _ => ∃ sr : Addr, vs = [.ref sr] ∧ Src H sr ∧ ∀ (n : Nat) H', n < 256 → Drawn sr H H' → Q (.int (n : Nat)) H'
theorem scLawOdd : FnScope ["_law_source_here", "_law_near"] ["_law_source_here"] (defScope sLawOdd) := ⟨rfl, rfl, rfl, by decide +kernel, rfl, by decide +kernel, by decide +kernel⟩
theorem r_odd (A : FnAt K mg "_law_odd" sLawOdd) (R : Ready P w K mg base 2 "_law_next" ["_law_source_here", "_law_many"] spNext) (m_int : mg "int" = none) : Ready P w K mg base 3 "_law_odd" ["_law_source_here"] spOdd := by
  obtain ⟨f1, fd1, g1, k1, b1, G1⟩ := next_m R
  refine ready_of A (fun _ _ _ _ _ _ us hl => match us, hl with | [_], _ => rfl) fun f fd F => ?_
  refine F.ok scLawOdd (fun vs H Q E h => ?_) (fun cdv A outer s H vs Q E hr h => ?_)
  · obtain ⟨sr, rfl, _⟩ := h
    rfl
  · obtain ⟨sr, rfl, hS, q⟩ := h
    have sc := scLawOdd
    refine ⟨_, pss_cons (ps_set (i := 1) sc.nd rfl (.inl rfl) (pe_lst (pa_cons pe_int (pa_cons pe_int (pa_cons pe_int (pa_cons pe_int (pa_cons pe_int (pa_cons pe_int (pa_cons pe_int (pa_cons pe_int (pa_cons pe_int (pa_cons pe_int (pa_cons pe_int (pa_cons pe_int (pa_cons pe_int (pa_cons pe_int (pa_cons pe_int (pa_cons pe_int (pa_cons pe_int (pa_cons pe_int (pa_cons pe_int (pa_cons pe_int pa_nil))))))))))))))))))))))
      (pss_one (ps_ret (pe_ix ix_list (pe_lst (pa_cons (pe_ix ix_list (pv 1) (pe_call G1 (hr.mono (by decide)) (by rfl) g1 k1 b1 .nil pass0 (pa_cons (pv 0) (pa_cons pe_int pa_nil))) (fun _ _ => rfl)) (pa_cons (pe_call G1 (hr.mono (by decide)) (by rfl) g1 k1 b1 .nil pass0 (pa_cons (pv 0) (pa_cons pe_int pa_nil))) pa_nil))) (pe_callTy call_int1 (by rfl) m_int (by decide +kernel) (pa_cons (pe_cmpR op_eq (pe_call G1 (hr.mono (by decide)) (by rfl) g1 k1 b1 .nil pass0 (pa_cons (pv 0) (pa_cons pe_int pa_nil))) pe_int (nomark _)) pa_nil)) (fun _ _ => rfl)))), ?_⟩
    refine ⟨(by show 20 ≤ sizeLine; decide), fun pn nn => ?_⟩
    have hpn : (upd H pn (.lst [.int 0, .int 10, .int 31, .int 32, .int 127, .int 128, .int 129, .int 191, .int 192, .int 193, .int 194, .int 195, .int 223, .int 224, .int 225, .int 237, .int 239, .int 240, .int 247, .int 255])) pn = some (.lst (iv [0, 10, 31, 32, 127, 128, 129, 191, 192, 193, 194, 195, 223, 224, 225, 237, 239, 240, 247, 255])) := upd_same
    have d0 : Drawn sr H (upd H pn (.lst [.int 0, .int 10, .int 31, .int 32, .int 127, .int 128, .int 129, .int 191, .int 192, .int 193, .int 194, .int 195, .int 223, .int 224, .int 225, .int 237, .int 239, .int 240, .int 247, .int 255])) := drawn_newM (Drawn.refl hS) nn
    have npsr : pn ≠ sr := hS.neM nn
    generalize upd H pn (.lst [.int 0, .int 10, .int 31, .int 32, .int 127, .int 128, .int 129, .int 191, .int 192, .int 193, .int 194, .int 195, .int 223, .int 224, .int 225, .int 237, .int 239, .int 240, .int 247, .int 255]) = H1 at hpn d0 ⊢
    refine ⟨_, rfl, _, rfl, sr, 20, rfl, by decide, by decide, d0.src, fun r1 H2 hr1 d1 => ?_⟩
    obtain ⟨v1, hv1, o1, rfl, ho1⟩ := pickM (p := IsOct) (xs := iv [0, 10, 31, 32, 127, 128, 129, 191, 192, 193, 194, 195, 223, 224, 225, 237, 239, 240, 247, 255]) (r := r1) hr1 (fun v hv => by
      obtain ⟨n, hn, rfl⟩ := List.mem_map.mp hv
      exact ⟨n, rfl, (by decide : ∀ n ∈ [0, 10, 31, 32, 127, 128, 129, 191, 192, 193, 194, 195, 223, 224, 225, 237, 239, 240, 247, 255], n < 256) n hn⟩)
    have t1 := d0.trans d1
    refine ⟨pn, _, _, .int (o1 : Nat), rfl, rfl, SqL.of (d1.old pn _ npsr hpn), hv1, ?_⟩
    refine ⟨_, rfl, sr, 256, rfl, by decide, by decide, t1.src, fun r2 H3 hr2 d2 => ?_⟩
    have t2 := t1.trans d2
    refine ⟨(by show 2 ≤ sizeLine; decide), fun px nx => ?_⟩
    have t3 := drawn_newM (o := .lst [.int (o1 : Nat), .int (r2 : Nat)]) t2 nx
    refine ⟨_, rfl, sr, 4, rfl, by decide, by decide, t3.src, fun r4 H4 hr4 d4 => ⟨rfl, .inr ⟨_, rfl, ?_⟩⟩⟩
    have h4 := d4.old px _ (t2.src.neM nx) upd_same
    by_cases hz : V.int ((r4 : Nat) : Int) = V.int 0
    · rw [decide_eq_true hz]
      exact ⟨px, _, _, .int (r2 : Nat), rfl, rfl, SqL.of h4, rfl, q r2 _ hr2 (t3.trans d4)⟩
    · rw [decide_eq_false hz]
      exact ⟨px, _, _, .int (o1 : Nat), rfl, rfl, SqL.of h4, rfl, q o1 _ ho1 (t3.trans d4)⟩
end
end FL

namespace FL
open PySem PySem.Spec PyProof.Rows L2
section
variable {P : Program} {w : World} {K : PySem.W.Frag} {mg : Str → Option Value} {base : Heap}
def spAny : Sp := fun vs H Q _ => ∃ sr : Addr, vs = [.ref sr] ∧ Src H sr ∧ ∀ H' fp l, Drawn sr H H' → H fp = none → H' fp = some (.lst (iv l)) → (∀ n ∈ l, n < 256) → l.length ≤ 100 → Q (.ref fp) H'
theorem scLawAny : FnScope ["_law_source_here", "_law_found", "_law_k", "_law_some", "_law_j"] ["_law_source_here"] (defScope sLawAny) := ⟨rfl, rfl, rfl, by decide +kernel, rfl, by decide +kernel, by decide +kernel⟩
theorem r_any (A : FnAt K mg "_law_any" sLawAny) (R1 : Ready P w K mg base 2 "_law_next" ["_law_source_here", "_law_many"] spNext) (R2 : Ready P w K mg base 3 "_law_odd" ["_law_source_here"] spOdd) (m_int : mg "int" = none) (m_range : mg "range" = none) : Ready P w K mg base 4 "_law_any" ["_law_source_here"] spAny := by
  obtain ⟨f1, fd1, g1, k1, b1, G1⟩ := next_m R1
  obtain ⟨f2, fd2, g2, k2, b2, G2⟩ := R2
  refine ready_of A (fun _ _ _ _ _ _ us hl => match us, hl with | [_], _ => rfl) fun f fd F => ?_
  refine F.ok scLawAny (fun vs H Q E h => ?_) (fun cdv A outer s H vs Q E hr h => ?_)
  · obtain ⟨sr, rfl, _⟩ := h
    rfl
  · obtain ⟨sr, rfl, hS, q⟩ := h
    have sc := scLawAny
    refine ⟨_, pss_cons (ps_set (i := 1) sc.nd rfl (.inl rfl) (pe_lst pa_nil))
      (pss_cons (ps_for PassesOwn.never rfl (pi_range1 (by rfl) m_range (pa_cons (pe_call G1 (hr.mono (by decide)) (by rfl) g1 k1 b1 .nil pass0 (pa_cons (pv 0) (pa_cons pe_int pa_nil))) pa_nil)) (pg_name (i := 2) sc.nd rfl (.inl rfl))
        (pss_cons (ps_set (i := 3) sc.nd rfl (.inl rfl) (pe_lst (pa_cons pe_int (pa_cons pe_int (pa_cons pe_int (pa_cons pe_int (pa_cons pe_int (pa_cons pe_int (pa_cons pe_int (pa_cons pe_int pa_nil))))))))))
          (pss_cons (ps_expr (pe_bm PySem.F.plainAttrs_list PySem.F.slot_list_append PySem.F.type_list_append mt_append (pv 1) (pa_cons (pe_ix ix_list (pv 3) (pe_call G1 (hr.mono (by decide)) (by rfl) g1 k1 b1 .nil pass0 (pa_cons (pv 0) (pa_cons pe_int pa_nil))) (fun _ _ => rfl)) pa_nil)))
          (pss_cons (ps_set (i := 1) sc.nd rfl (.inl rfl) (pe_op op_cat (pv 1) (pe_lc (own := [("_law_j", 4)]) (g := gName 4) (tt := tYes) (by rfl) sc.nd (pi_range1 (by rfl) m_range (pa_cons (pe_call G1 (hr.mono (by decide)) (by rfl) g1 k1 b1 .nil pass0 (pa_cons (pv 0) (pa_cons pe_int pa_nil))) pa_nil)) (blkOk_by (own := [("_law_j", 4)]) (N := ["_law_source_here", "_law_found", "_law_k", "_law_some", "_law_j"]) (sc := defScope sLawAny) (by decide +kernel)) (fun _ _ _ _ _ => (pg_name (i := 4) sc.nd rfl (.inl rfl))) (fun _ _ _ _ _ => pts_nil) (fun _ _ _ _ _ => (pe_op op_add pe_int (pe_call G1 (hr.mono (by decide)) (by rfl) g1 k1 b1 .nil pass0 (pa_cons (pv 0) (pa_cons pe_int pa_nil))))))))
          (pss_one (ps_set (i := 1) sc.nd rfl (.inl rfl) (pe_op op_cat (pv 1) (pe_op op_rep (pe_lst (pa_cons (pe_call G2 (hr.mono (by decide)) (by rfl) g2 k2 b2 .nil pass0 (pa_cons (pv 0) pa_nil)) pa_nil)) (pe_callTy call_int1 (by rfl) m_int (by decide +kernel) (pa_cons (pe_cmpR op_eq (pe_call G1 (hr.mono (by decide)) (by rfl) g1 k1 b1 .nil pass0 (pa_cons (pv 0) (pa_cons pe_int pa_nil))) pe_int (nomark _)) pa_nil))))))))))
      (pss_one (ps_ret (pv 1)))), ?_⟩
    refine ⟨(by show 0 ≤ sizeLine; decide), fun p0 n0 => ?_⟩
    have d0 := drawn_newM (o := .lst []) (Drawn.refl hS) n0
    have hp0 : (upd H p0 (.lst [])) p0 = some (.lst (iv [])) := upd_same
    generalize upd H p0 (.lst []) = H0 at d0 hp0 ⊢
    refine ⟨_, rfl, sr, 12, rfl, by decide, by decide, d0.src, fun r0 H1 hr0 d1 => ⟨(r0 : Int), rfl, by omega, by omega, ?_⟩⟩
    have hp1 := d1.old p0 _ (hS.neM n0) hp0
    refine for_it walk_range (fun i σ H' => ∃ (fp : Addr) (l : List Nat) (y2 y3 : Option V), σ = [some (.ref sr), some (.ref fp), y2, y3, none] ∧ Drawn sr H H' ∧ H fp = none ∧ H' fp = some (.lst (iv l)) ∧ (∀ n ∈ l, n < 256) ∧ l.length ≤ 5 * i)
      ⟨p0, [], none, none, rfl, d0.trans d1, n0, hp1, (fun n h => by cases h), Nat.le_refl _⟩ (fun _ _ _ _ _ => trivial) (fun i x σ H2 H3 hi hp hy => ?_) (fun σ H2 hp => ?_)
    case refine_2 =>
      obtain ⟨fp, l, y2, y3, rfl, dr, nfp, hfp, hl, hlen⟩ := hp
      have hlen : l.length ≤ 5 * ((r0 : Int)).toNat := hlen
      exact ⟨_, rfl, q H2 fp l dr nfp hfp hl (by omega)⟩
    obtain ⟨fp, l, y2, y3, rfl, dr, nfp, hfp, hl, hlen⟩ := hp
    obtain ⟨rfl, hxv⟩ := hy
    have hi : i < ((r0 : Int)).toNat := hi
    have hfs : fp ≠ sr := hS.neM nfp
    refine ⟨(by show 8 ≤ sizeLine; decide), fun ps nps => ?_⟩
    have hps : (upd H3 ps (.lst [.int 195, .int 226, .int 224, .int 237, .int 239, .int 194, .int 223, .int 65])) ps = some (.lst (iv [195, 226, 224, 237, 239, 194, 223, 65])) := upd_same
    have d3 : Drawn sr H (upd H3 ps (.lst [.int 195, .int 226, .int 224, .int 237, .int 239, .int 194, .int 223, .int 65])) := drawn_newM dr nps
    have hfp3 : (upd H3 ps (.lst [.int 195, .int 226, .int 224, .int 237, .int 239, .int 194, .int 223, .int 65])) fp = some (.lst (iv l)) := kn hfp nps
    have pssr : ps ≠ sr := dr.src.neM nps
    generalize upd H3 ps (.lst [.int 195, .int 226, .int 224, .int 237, .int 239, .int 194, .int 223, .int 65]) = H4 at hps d3 hfp3 ⊢
    refine ⟨_, rfl, .inl ⟨rfl, _, SqL.of hfp3⟩, _, rfl, _, rfl, sr, 8, rfl, by decide, by decide, d3.src, fun r5 H5 hr5 d5 => ?_⟩
    obtain ⟨v1, hv1, o1, rfl, ho1⟩ := pickM (p := IsOct) (xs := iv [195, 226, 224, 237, 239, 194, 223, 65]) (r := r5) hr5 (fun v hv => by
      obtain ⟨n, hn, rfl⟩ := List.mem_map.mp hv
      exact ⟨n, rfl, (by decide : ∀ n ∈ [195, 226, 224, 237, 239, 194, 223, 65], n < 256) n hn⟩)
    have hfp5 := d5.old fp _ hfs hfp3
    refine ⟨ps, _, _, .int (o1 : Nat), rfl, rfl, SqL.of (d5.old ps _ pssr hps), hv1, fp, _, _, rfl, rfl, hfp5, by rw [iv_len]; exact szl (by omega), ?_⟩
    have d6 : Drawn sr H (upd H5 fp (.lst (iv l ++ [.int (o1 : Nat)]))) := drawn_set (d3.trans d5) nfp (Ne.symm hfs)
    have hfp6 : (upd H5 fp (.lst (iv l ++ [.int (o1 : Nat)]))) fp = some (.lst (iv (l ++ [o1]))) := by
      rw [upd_same, iv_app]
      rfl
    generalize upd H5 fp (.lst (iv l ++ [.int (o1 : Nat)])) = H6 at d6 hfp6 ⊢
    refine ⟨_, rfl, _, rfl, sr, 4, rfl, by decide, by decide, d6.src, fun r7 H7 hr7 d7 => ⟨(r7 : Int), rfl, by omega, by omega, fun D hD => ?_⟩⟩
    have d7' := d6.trans d7
    have hfp7 := d7.old fp _ hfs hfp6
    refine lc_it walk_range (fun j H' => Drawn sr H H' ∧ H' fp = some (.lst (iv (l ++ [o1]))) ∧ ∃ m : List Nat, H' D = some (.lst (iv m)) ∧ m.length = j ∧ ∀ n ∈ m, n < 256) ⟨drawn_newM d7' hD, kn hfp7 hD, [], upd_same, rfl, fun n h => by cases h⟩ (fun _ _ _ _ => trivial) (fun j x H8 H9 hj hp hy => ?_) (fun H8 hp => ?_)
    · obtain ⟨rfl, hx⟩ := hy
      obtain ⟨d8, hfp8, m, hm, hml, hmb⟩ := hp
      refine ⟨rfl, ?_⟩
      unfold tYes
      refine iteT ?_
      have hDsr : D ≠ sr := d7'.src.neM hD
      have hDf : fp ≠ D := ne_of_none hfp7 hD
      refine ⟨_, rfl, sr, 64, rfl, by decide, by decide, d8.src, fun r10 H10 hr10 d10 => ⟨_, _, rfl, rfl, _, d10.old D _ hDsr hm, ?_, drawn_set (d8.trans d10) (free_drawn d7' hD) (Ne.symm hDsr), ?_, m ++ [128 + r10], ?_, ?_, fun n hn => ?_⟩⟩
      · rw [iv_len, hml]
        have hj : j < ((r7 : Int)).toNat := hj
        exact szl (by omega)
      · rw [upd_ne hDf]
        exact d10.old fp _ hfs hfp8
      · rw [upd_same, iv_app]
        rfl
      · rw [List.length_append, hml]
        rfl
      · rcases List.mem_append.mp hn with hn | hn
        · exact hmb n hn
        · rw [List.mem_singleton.mp hn]
          omega
    · obtain ⟨d8, hfp8, m, hm, hml, hmb⟩ := hp
      have hml : m.length = ((r7 : Int)).toNat := hml
      refine ⟨fp, D, _, _, rfl, rfl, hfp8, hm, by rw [iv_len, iv_len, List.length_append, sizeLine_eq]; show l.length + 1 + m.length ≤ _; omega, fun pn nn => ?_⟩
      have hpn : (upd H8 pn (.lst (iv (l ++ [o1]) ++ iv m))) pn = some (.lst (iv (l ++ [o1] ++ m))) := by
        rw [upd_same, ← iv_app]
      have d9 : Drawn sr H (upd H8 pn (.lst (iv (l ++ [o1]) ++ iv m))) := drawn_newM d8 nn
      have npn := free_drawn d8 nn
      have hpsr : pn ≠ sr := hS.neM npn
      generalize upd H8 pn (.lst (iv (l ++ [o1]) ++ iv m)) = H9 at hpn d9 ⊢
      have hLb : ∀ n ∈ l ++ [o1] ++ m, n < 256 := fun n hn => by
        rcases List.mem_append.mp hn with hn | hn
        · rcases List.mem_append.mp hn with hn | hn
          · exact hl n hn
          · rw [List.mem_singleton.mp hn]
            exact ho1
        · exact hmb n hn
      have hLl : (l ++ [o1] ++ m).length ≤ 5 * i + 4 := by
        rw [List.length_append, List.length_append, hml]
        show l.length + 1 + _ ≤ _
        omega
      generalize l ++ [o1] ++ m = L at hpn hLb hLl
      refine ⟨_, rfl, _, rfl, sr, rfl, d9.src, fun o2 H10 ho2 d10 => ⟨(by show 1 ≤ sizeLine; decide), fun q1 m1 => ?_⟩⟩
      have d10' := d9.trans d10
      have hpn10 := kn (x := .lst [.int (o2 : Nat)]) (d10.old pn _ hpsr hpn) m1
      have d11 := drawn_newM (o := .lst [.int (o2 : Nat)]) d10' m1
      have hq1sr : q1 ≠ sr := d10'.src.neM m1
      refine ⟨_, rfl, sr, 6, rfl, by decide, by decide, d11.src, fun r12 H12 hr12 d12 => ⟨rfl, .inr ⟨_, rfl, ?_⟩⟩⟩
      have hq12 := d12.old q1 _ hq1sr upd_same
      have hpn12 := d12.old pn _ hpsr hpn10
      by_cases hz : V.int ((r12 : Nat) : Int) = V.int 0
      · rw [decide_eq_true hz]
        refine ⟨q1, 1, _, rfl, rfl, hq12, by decide, by decide, (by show 1 * 1 ≤ sizeLine; decide), fun q2 m2 => ?_⟩
        refine ⟨pn, q2, _, _, rfl, rfl, kn hpn12 m2, upd_same, by rw [iv_len, sizeLine_eq]; show L.length + 1 ≤ _; omega, fun q3 m3 => ?_⟩
        refine ⟨q3, L ++ [o2], _, _, rfl, drawn_newM (drawn_newM (d11.trans d12) m2) m3, free_drawn (drawn_newM (d11.trans d12) m2) m3, ?_, fun n hn => ?_, ?_⟩
        · rw [upd_same, iv_app]
          rfl
        · rcases List.mem_append.mp hn with hn | hn
          · exact hLb n hn
          · rw [List.mem_singleton.mp hn]
            exact ho2
        · rw [List.length_append]
          show L.length + 1 ≤ _
          omega
      · rw [decide_eq_false hz]
        refine ⟨q1, 0, _, rfl, rfl, hq12, by decide, by decide, (by show 1 * 0 ≤ sizeLine; decide), fun q2 m2 => ?_⟩
        refine ⟨pn, q2, _, _, rfl, rfl, kn hpn12 m2, upd_same, by rw [iv_len, sizeLine_eq]; show L.length + 0 ≤ _; omega, fun q3 m3 => ?_⟩
        refine ⟨q3, L, _, _, rfl, drawn_newM (drawn_newM (d11.trans d12) m2) m3, free_drawn (drawn_newM (d11.trans d12) m2) m3, ?_, hLb, by omega⟩
        rw [upd_same]
        show some (HO.lst (iv L ++ [])) = _
        rw [List.append_nil]
end
end FL

namespace FL
open PySem PySem.Spec PyProof.Rows L2
theorem cut_iv (l : List Nat) (lo hi : Option Int) : ∃ m, cutV (iv l) lo hi = iv m ∧ m.length ≤ l.length ∧ ∀ n ∈ m, n ∈ l := by
  refine ⟨(l.drop (HT.sIx (iv l).length 0 lo)).take (HT.sIx (iv l).length (iv l).length hi - HT.sIx (iv l).length 0 lo), ?_, ?_, fun n hn => ?_⟩
  · unfold cutV iv
    rw [List.map_take, List.map_drop]
  · rw [List.length_take, List.length_drop]
    omega
  · exact List.mem_of_mem_drop (List.mem_of_mem_take hn)
theorem lt_app {l m : List Nat} (h1 : ∀ n ∈ l, n < 256) (h2 : ∀ n ∈ m, n < 256) : ∀ n ∈ l ++ m, n < 256 := fun n hn => (List.mem_append.mp hn).elim (h1 n) (h2 n)
section
variable {P : Program} {w : World} {K : PySem.W.Frag} {mg : Str → Option Value} {base : Heap}
def spSpoilt : Sp := fun vs H Q _ => ∃ (sr a : Addr) (l : List Nat), vs = [.ref sr, .ref a] ∧ Src H sr ∧ a ≠ sr ∧ H a = some (.lst (iv l)) ∧ (∀ n ∈ l, n < 256) ∧ l.length ≤ 7000 ∧
  ∀ H' p m, Drawn sr H H' → H p = none → H' p = some (.lst (iv m)) → (∀ n ∈ m, n < 256) → m.length ≤ 3 * l.length + 1 → Q (.ref p) H'
theorem scLawSpoilt : FnScope ["_law_source_here", "_law_eights", "_law_way", "_law_at", "_law_more", "_law_one"] ["_law_source_here", "_law_eights"] (defScope sLawSpoilt) := ⟨rfl, rfl, rfl, by decide +kernel, rfl, by decide +kernel, by decide +kernel⟩
theorem r_spoilt (A : FnAt K mg "_law_spoilt" sLawSpoilt) (R1 : Ready P w K mg base 2 "_law_next" ["_law_source_here", "_law_many"] spNext) (R2 : Ready P w K mg base 3 "_law_odd" ["_law_source_here"] spOdd) (m_len : mg "len" = none) : Ready P w K mg base 4 "_law_spoilt" ["_law_source_here", "_law_eights"] spSpoilt := by
  obtain ⟨f1, fd1, g1, k1, b1, G1⟩ := next_m R1
  obtain ⟨f2, fd2, g2, k2, b2, G2⟩ := R2
  refine ready_of A (fun _ _ _ _ _ _ us hl => match us, hl with | [_, _], _ => rfl) fun f fd F => ?_
  refine F.ok scLawSpoilt (fun vs H Q E h => ?_) (fun cdv A outer s H vs Q E hr h => ?_)
  · obtain ⟨sr, a, l, rfl, _⟩ := h
    rfl
  · obtain ⟨sr, a, l, rfl, hS, has, ha, hb, hl, q⟩ := h
    have sc := scLawSpoilt
    refine ⟨_, pss_cons (ps_set (i := 2) sc.nd rfl (.inl rfl) (pe_call G1 (hr.mono (by decide)) (by rfl) g1 k1 b1 .nil pass0 (pa_cons (pv 0) (pa_cons pe_int pa_nil))))
      (pss_cons (ps_set (i := 3) sc.nd rfl (.inl rfl) (pe_call G1 (hr.mono (by decide)) (by rfl) g1 k1 b1 .nil pass0 (pa_cons (pv 0) (pa_cons (pe_op op_add (pe_callB call_len_seq (by rfl) m_len PySem.boot_len (pa_cons (pv 1) pa_nil)) pe_int) pa_nil))))
      (pss_cons (ps_if (pt_cmpR op_eq (pv 2) pe_int (nomark _))
        (pss_one (ps_ret (pe_op op_cat (pe_op op_cat (pe_slice sl_list (pv 1) po_none (po_some (pv 3))) (pe_lst (pa_cons (pe_call G2 (hr.mono (by decide)) (by rfl) g2 k2 b2 .nil pass0 (pa_cons (pv 0) pa_nil)) pa_nil))) (pe_slice sl_list (pv 1) (po_some (pv 3)) po_none))))
        pss_nil)
      (pss_cons (ps_if (pt_cmpR op_eq (pv 2) pe_int (nomark _))
        (pss_one (ps_ret (pe_op op_cat (pe_slice sl_list (pv 1) po_none (po_some (pv 3))) (pe_slice sl_list (pv 1) (po_some (pe_op op_add (pv 3) pe_int)) po_none))))
        pss_nil)
      (pss_cons (ps_if (pt_cmpR op_eq (pv 2) pe_int (nomark _))
        (pss_one (ps_ret (pe_op op_cat (pe_op op_cat (pe_slice sl_list (pv 1) po_none (po_some (pv 3))) (pe_slice sl_list (pv 1) (po_some (pv 3)) (po_some (pe_op op_add (pv 3) pe_int)))) (pe_slice sl_list (pv 1) (po_some (pv 3)) po_none))))
        pss_nil)
      (pss_cons (ps_if (pt_cmpR op_eq (pv 2) pe_int (nomark _))
        (pss_one (ps_ret (pe_op op_cat (pe_op op_cat (pe_slice sl_list (pv 1) po_none (po_some (pv 3))) (pe_revL (pe_slice sl_list (pv 1) (po_some (pv 3)) (po_some (pe_op op_add (pv 3) pe_int))))) (pe_slice sl_list (pv 1) (po_some (pe_op op_add (pv 3) pe_int)) po_none))))
        pss_nil)
      (pss_cons (ps_if (pt_cmpR op_eq (pv 2) pe_int (nomark _))
        (pss_cons (ps_setLc (i := 4) (own := [("_law_one", 5)]) (g := gName 5) (tt := tYes) (by rfl) sc.nd rfl rfl (sw_true rfl rfl rfl (by decide +kernel)) (pi_list (pe_slice sl_list (pv 1) (po_some (pv 3)) (po_some (pe_op op_add (pv 3) pe_int)))) (blkOk_by (own := [("_law_one", 5)]) (N := ["_law_source_here", "_law_eights", "_law_way", "_law_at", "_law_more", "_law_one"]) (sc := defScope sLawSpoilt) (by decide +kernel)) (fun _ _ _ _ _ => (pg_name (i := 5) sc.nd rfl (.inl rfl))) (fun _ _ _ _ _ => pts_nil) (fun _ _ _ _ _ => (pe_op op_mod (pe_op op_add (pe_op op_add (pv 5) pe_int) (pe_op op_mul pe_int (pe_call G1 (hr.mono (by decide)) (by rfl) g1 k1 b1 .nil pass0 (pa_cons (pv 0) (pa_cons pe_int pa_nil))))) pe_int)))
          (pss_one (ps_ret (pe_op op_cat (pe_op op_cat (pe_slice sl_list (pv 1) po_none (po_some (pv 3))) (pv 4)) (pe_slice sl_list (pv 1) (po_some (pe_op op_add (pv 3) pe_int)) po_none)))))
        pss_nil)
      (pss_cons (ps_if (pt_cmpR op_eq (pv 2) pe_int (nomark _))
        (pss_one (ps_ret (pe_op op_cat (pe_op op_cat (pe_slice sl_list (pv 1) po_none (po_some (pv 3))) (pe_lc (own := [("_law_one", 5)]) (g := gName 5) (tt := tYes) (by rfl) sc.nd (pi_list (pe_slice sl_list (pv 1) (po_some (pv 3)) (po_some (pe_op op_add (pv 3) pe_int)))) (blkOk_by (own := [("_law_one", 5)]) (N := ["_law_source_here", "_law_eights", "_law_way", "_law_at", "_law_more", "_law_one"]) (sc := defScope sLawSpoilt) (by decide +kernel)) (fun _ _ _ _ _ => (pg_name (i := 5) sc.nd rfl (.inl rfl))) (fun _ _ _ _ _ => pts_nil) (fun _ _ _ _ _ => (pe_call G2 (hr.mono (by decide)) (by rfl) g2 k2 b2 .nil pass0 (pa_cons (pv 0) pa_nil))))) (pe_slice sl_list (pv 1) (po_some (pe_op op_add (pv 3) pe_int)) po_none))))
        pss_nil)
      (pss_one (ps_ret (pe_slice sl_list (pv 1) po_none (po_some (pv 3)))))))))))), ?_⟩
    refine ⟨_, rfl, sr, 7, rfl, by decide, by decide, hS, fun way H1 hway d1 => ?_⟩
    have ha1 := d1.old a _ has ha
    refine ⟨_, rfl, _, rfl, a, _, rfl, .inl (SqL.of ha1), _, _, rfl, rfl, sr, l.length + 1, ?_, by omega, by omega, d1.src, fun pl H2 hpl d2 => ?_⟩
    · show [V.ref sr, V.int (((iv l).length : Int) + 1)] = _
      rw [iv_len]
      rfl
    have d2' := d1.trans d2
    have ha2 := d2.old a _ has ha1
    have hsz : l.length ≤ sizeLine := by rw [sizeLine_eq]; omega
    obtain ⟨mA, eA, lA, bA⟩ := cut_iv l none (some ((pl : Nat) : Int))
    obtain ⟨mB, eB, lB, bB⟩ := cut_iv l (some ((pl : Nat) : Int)) none
    obtain ⟨mC, eC, lC, bC⟩ := cut_iv l (some (((pl : Nat) : Int) + 1)) none
    obtain ⟨mE, eE, lE, bE⟩ := cut_iv l (some ((pl : Nat) : Int)) (some (((pl : Nat) : Int) + 2))
    obtain ⟨mF, eF, lF, bF⟩ := cut_iv l (some (((pl : Nat) : Int) + 2)) none
    obtain ⟨mD, eD, lD, bD⟩ := cut_iv l (some ((pl : Nat) : Int)) (some (((pl : Nat) : Int) + 1))
    have oA : ∀ n ∈ mA, n < 256 := fun n h => hb n (bA n h)
    have oB : ∀ n ∈ mB, n < 256 := fun n h => hb n (bB n h)
    have oC : ∀ n ∈ mC, n < 256 := fun n h => hb n (bC n h)
    have oE : ∀ n ∈ mE, n < 256 := fun n h => hb n (bE n h)
    have oF : ∀ n ∈ mF, n < 256 := fun n h => hb n (bF n h)
    have oD : ∀ n ∈ mD, n < 256 := fun n h => hb n (bD n h)
    -- one put in
    refine ⟨_, rfl, rfl, _, rfl, ite2 (fun h => ?_) (fun h => ?_)⟩
    · refine ⟨_, rfl, _, rfl, _, rfl, a, _, rfl, SqL.of ha2, fun p1 n1 => ?_⟩
      rw [eA]
      have d3 := drawn_newM (o := .lst (iv mA)) d2' n1
      refine ⟨_, rfl, sr, rfl, d3.src, fun o H4 ho d4 => ⟨(by show 1 ≤ sizeLine; decide), fun p2 n2 => ?_⟩⟩
      have h1 := d4.old p1 _ (d2'.src.neM n1) upd_same
      have ha4 := d4.old a _ has (kn ha2 n1)
      refine ⟨p1, p2, _, _, rfl, rfl, kn h1 n2, upd_same, (by simp only [List.length_append, List.length_cons, List.length_nil, iv_len, sizeLine_eq]; omega), fun p3 n3 => ?_⟩
      refine ⟨_, rfl, _, rfl, _, rfl, a, _, rfl, SqL.of (kn (kn ha4 n2) n3), fun p4 n4 => ?_⟩
      rw [eB]
      refine ⟨p3, p4, _, _, rfl, rfl, kn upd_same n4, upd_same, (by simp only [List.length_append, List.length_cons, List.length_nil, iv_len, sizeLine_eq]; omega), fun p5 n5 => ?_⟩
      refine q _ p5 (mA ++ [o] ++ mB) (drawn_newM (drawn_newM (drawn_newM (drawn_newM (d3.trans d4) n2) n3) n4) n5) (free_drawn (drawn_newM (drawn_newM (drawn_newM (d3.trans d4) n2) n3) n4) n5) ?_ (lt_app (lt_app oA fun n hn => by rw [List.mem_singleton.mp hn]; exact ho) oB) (by rw [List.length_append, List.length_append]; show _ + 1 + _ ≤ _; omega)
      rw [upd_same, iv_app, iv_app]
      rfl
    -- one left out
    refine ⟨_, rfl, rfl, _, rfl, ite2 (fun h => ?_) (fun h => ?_)⟩
    · refine ⟨_, rfl, _, rfl, _, rfl, a, _, rfl, SqL.of ha2, fun p1 n1 => ?_⟩
      rw [eA]
      refine ⟨_, rfl, _, rfl, _, _, rfl, rfl, _, rfl, a, _, rfl, SqL.of (kn ha2 n1), fun p2 n2 => ?_⟩
      dsimp only
      rw [eC]
      refine ⟨p1, p2, _, _, rfl, rfl, kn upd_same n2, upd_same, (by simp only [List.length_append, List.length_cons, List.length_nil, iv_len, sizeLine_eq]; omega), fun p3 n3 => ?_⟩
      refine q _ p3 (mA ++ mC) (drawn_newM (drawn_newM (drawn_newM d2' n1) n2) n3) (free_drawn (drawn_newM (drawn_newM d2' n1) n2) n3) ?_ (lt_app oA oC) (by rw [List.length_append]; omega)
      rw [upd_same, iv_app]
    -- told twice
    refine ⟨_, rfl, rfl, _, rfl, ite2 (fun h => ?_) (fun h => ?_)⟩
    · refine ⟨_, rfl, _, rfl, _, rfl, a, _, rfl, SqL.of ha2, fun p1 n1 => ?_⟩
      rw [eA]
      refine ⟨_, rfl, _, rfl, _, rfl, _, rfl, _, _, rfl, rfl, _, rfl, a, _, rfl, SqL.of (kn ha2 n1), fun p2 n2 => ?_⟩
      dsimp only
      rw [eD]
      refine ⟨p1, p2, _, _, rfl, rfl, kn upd_same n2, upd_same, (by simp only [List.length_append, List.length_cons, List.length_nil, iv_len, sizeLine_eq]; omega), fun p3 n3 => ?_⟩
      refine ⟨_, rfl, _, rfl, _, rfl, a, _, rfl, SqL.of (kn (kn (kn ha2 n1) n2) n3), fun p4 n4 => ?_⟩
      rw [eB]
      refine ⟨p3, p4, _, _, rfl, rfl, kn upd_same n4, upd_same, (by simp only [List.length_append, List.length_cons, List.length_nil, iv_len, sizeLine_eq]; omega), fun p5 n5 => ?_⟩
      refine q _ p5 (mA ++ mD ++ mB) (drawn_newM (drawn_newM (drawn_newM (drawn_newM (drawn_newM d2' n1) n2) n3) n4) n5) (free_drawn (drawn_newM (drawn_newM (drawn_newM (drawn_newM d2' n1) n2) n3) n4) n5) ?_ (lt_app (lt_app oA oD) oB) (by rw [List.length_append, List.length_append]; omega)
      rw [upd_same, iv_app, iv_app]
    -- exchanged
    refine ⟨_, rfl, rfl, _, rfl, ite2 (fun h => ?_) (fun h => ?_)⟩
    · refine ⟨_, rfl, _, rfl, _, rfl, a, _, rfl, SqL.of ha2, fun p1 n1 => ?_⟩
      rw [eA]
      refine ⟨_, rfl, _, rfl, _, rfl, _, rfl, _, _, rfl, rfl, _, rfl, a, _, rfl, SqL.of (kn ha2 n1), fun p2 n2 => ?_⟩
      dsimp only
      rw [eE]
      refine ⟨p2, _, rfl, SqL.of upd_same, fun p3 n3 => ?_⟩
      rw [show (iv mE).reverse = iv mE.reverse from List.map_reverse.symm]
      refine ⟨p1, p3, _, _, rfl, rfl, kn (kn upd_same n2) n3, upd_same, (by simp only [List.length_append, List.length_reverse, iv_len, sizeLine_eq]; omega), fun p4 n4 => ?_⟩
      refine ⟨_, rfl, _, rfl, _, _, rfl, rfl, _, rfl, a, _, rfl, SqL.of (kn (kn (kn (kn ha2 n1) n2) n3) n4), fun p5 n5 => ?_⟩
      dsimp only
      rw [eF]
      refine ⟨p4, p5, _, _, rfl, rfl, kn upd_same n5, upd_same, (by simp only [List.length_append, List.length_reverse, iv_len, sizeLine_eq]; omega), fun p6 n6 => ?_⟩
      refine q _ p6 (mA ++ mE.reverse ++ mF) (drawn_newM (drawn_newM (drawn_newM (drawn_newM (drawn_newM (drawn_newM d2' n1) n2) n3) n4) n5) n6) (free_drawn (drawn_newM (drawn_newM (drawn_newM (drawn_newM (drawn_newM d2' n1) n2) n3) n4) n5) n6) ?_ (lt_app (lt_app oA fun n hn => oE n (List.mem_reverse.mp hn)) oF) (by rw [List.length_append, List.length_append, List.length_reverse]; omega)
      rw [upd_same, iv_app, iv_app]
    -- one more or less
    refine ⟨_, rfl, rfl, _, rfl, ite2 (fun h => ?_) (fun h => ?_)⟩
    · refine ⟨_, rfl, _, rfl, _, rfl, _, rfl, _, _, rfl, rfl, _, rfl, a, _, rfl, SqL.of ha2, fun p2 n2 => ?_⟩
      dsimp only
      rw [eD]
      refine ⟨p2, rfl, ⟨_, SqL.of upd_same⟩, fun D hD => ?_⟩
      have d3 := drawn_newM (o := .lst (iv mD)) d2' n2
      have hp2s : p2 ≠ sr := d2'.src.neM n2
      refine lc_it (walk_list (K := K) (a := p2) (xs := iv mD)) (fun j H' => Drawn sr H H' ∧ H' p2 = some (.lst (iv mD)) ∧ H' a = some (.lst (iv l)) ∧ ∃ m : List Nat, H' D = some (.lst (iv m)) ∧ m.length = j ∧ ∀ n ∈ m, n < 256) ⟨drawn_newM d3 hD, kn upd_same hD, kn (kn ha2 n2) hD, [], upd_same, rfl, fun n h => by cases h⟩ (fun j H' _ p => SqL.of p.2.1) (fun j x H8 H9 hj hp hy => ?_) (fun H8 hp => ?_)
      · obtain ⟨rfl, hx⟩ := hy
        obtain ⟨d8, hp8, ha8, m, hm, hml, hmb⟩ := hp
        rw [iv_len] at hj
        have hn := List.getElem?_eq_getElem hj
        generalize mD[j] = nn at hn
        rw [iv_at hn] at hx
        injection hx with hx
        subst hx
        refine ⟨rfl, ?_⟩
        unfold tYes
        refine iteT ?_
        have hDsr : D ≠ sr := d3.src.neM hD
        have hDp : p2 ≠ D := ne_of_none (upd_same) hD
        have hDa : a ≠ D := ne_of_none (kn ha2 n2) hD
        refine ⟨_, rfl, _, _, rfl, rfl, _, rfl, sr, 2, rfl, by decide, by decide, d8.src, fun r10 H10 hr10 d10 => ⟨_, _, rfl, rfl, .inl ⟨by decide, by decide⟩, _, _, rfl, rfl, _, _, rfl, rfl, (by show (0 : Int) < 256; decide), _, d10.old D _ hDsr hm, ?_, drawn_set (d8.trans d10) (free_drawn d3 hD) (Ne.symm hDsr), ?_, ?_, m ++ [(nn + 255 + 2 * r10) % 256], ?_, ?_, fun n hn => ?_⟩⟩
        · rw [iv_len, hml]
          exact szl (by omega)
        · rw [upd_ne hDp]
          exact d10.old p2 _ hp2s hp8
        · rw [upd_ne hDa]
          exact d10.old a _ has ha8
        · rw [upd_same, iv_app]
          show some (HO.lst (iv m ++ [V.int (((nn : Int) + 255 + 2 * (r10 : Nat)) % 256)])) = some (HO.lst (iv m ++ [V.int (((nn + 255 + 2 * r10) % 256 : Nat) : Int)]))
          rw [show (((nn + 255 + 2 * r10) % 256 : Nat) : Int) = ((nn : Int) + 255 + 2 * (r10 : Nat)) % 256 by omega]
        · rw [List.length_append, hml]
          rfl
        · rcases List.mem_append.mp hn with hn | hn
          · exact hmb n hn
          · rw [List.mem_singleton.mp hn]
            omega
      · obtain ⟨d8, hp8, ha8, m, hm, hml, hmb⟩ := hp
        rw [iv_len] at hml
        refine ⟨_, rfl, _, rfl, _, rfl, a, _, rfl, SqL.of ha8, fun p3 n3 => ?_⟩
        rw [eA]
        refine ⟨_, rfl, p3, D, _, _, rfl, rfl, upd_same, kn hm n3, (by simp only [List.length_append, iv_len, sizeLine_eq]; omega), fun p4 n4 => ?_⟩
        refine ⟨_, rfl, _, rfl, _, _, rfl, rfl, _, rfl, a, _, rfl, SqL.of (kn (kn ha8 n3) n4), fun p5 n5 => ?_⟩
        dsimp only
        rw [eC]
        refine ⟨p4, p5, _, _, rfl, rfl, kn upd_same n5, upd_same, (by simp only [List.length_append, iv_len, sizeLine_eq]; omega), fun p6 n6 => ?_⟩
        refine q _ p6 (mA ++ m ++ mC) (drawn_newM (drawn_newM (drawn_newM (drawn_newM d8 n3) n4) n5) n6) (free_drawn (drawn_newM (drawn_newM (drawn_newM d8 n3) n4) n5) n6) ?_ (lt_app (lt_app oA hmb) oC) (by rw [List.length_append, List.length_append]; omega)
        rw [upd_same, iv_app, iv_app]
    -- another one
    refine ⟨_, rfl, rfl, _, rfl, ite2 (fun h => ?_) (fun h => ?_)⟩
    · refine ⟨_, rfl, _, rfl, _, rfl, a, _, rfl, SqL.of ha2, fun p1 n1 => ?_⟩
      rw [eA]
      have d1' := drawn_newM (o := .lst (iv mA)) d2' n1
      have hp1s : p1 ≠ sr := d2'.src.neM n1
      refine ⟨_, rfl, _, rfl, _, rfl, _, rfl, _, _, rfl, rfl, _, rfl, a, _, rfl, SqL.of (kn ha2 n1), fun p2 n2 => ?_⟩
      dsimp only
      rw [eD]
      refine ⟨p2, rfl, ⟨_, SqL.of upd_same⟩, fun D hD => ?_⟩
      have d3 := drawn_newM (o := .lst (iv mD)) d1' n2
      have hp2s : p2 ≠ sr := d1'.src.neM n2
      refine lc_it (walk_list (K := K) (a := p2) (xs := iv mD)) (fun j H' => Drawn sr H H' ∧ H' p2 = some (.lst (iv mD)) ∧ H' a = some (.lst (iv l)) ∧ H' p1 = some (.lst (iv mA)) ∧ ∃ m : List Nat, H' D = some (.lst (iv m)) ∧ m.length = j ∧ ∀ n ∈ m, n < 256) ⟨drawn_newM d3 hD, kn upd_same hD, kn (kn (kn ha2 n1) n2) hD, kn (kn upd_same n2) hD, [], upd_same, rfl, fun n h => by cases h⟩ (fun j H' _ p => SqL.of p.2.1) (fun j x H8 H9 hj hp hy => ?_) (fun H8 hp => ?_)
      · obtain ⟨rfl, hx⟩ := hy
        obtain ⟨d8, hp8, ha8, hA8, m, hm, hml, hmb⟩ := hp
        rw [iv_len] at hj
        refine ⟨rfl, ?_⟩
        unfold tYes
        refine iteT ?_
        have hDsr : D ≠ sr := d3.src.neM hD
        have hDp : p2 ≠ D := ne_of_none (upd_same) hD
        have hDa : a ≠ D := ne_of_none (kn (kn ha2 n1) n2) hD
        have hD1 : p1 ≠ D := ne_of_none (kn upd_same n2) hD
        refine ⟨_, rfl, sr, rfl, d8.src, fun o H10 ho d10 => ⟨_, d10.old D _ hDsr hm, ?_, drawn_set (d8.trans d10) (free_drawn d3 hD) (Ne.symm hDsr), ?_, ?_, ?_, m ++ [o], ?_, ?_, fun n hn => ?_⟩⟩
        · rw [iv_len, hml]
          exact szl (by omega)
        · rw [upd_ne hDp]
          exact d10.old p2 _ hp2s hp8
        · rw [upd_ne hDa]
          exact d10.old a _ has ha8
        · rw [upd_ne hD1]
          exact d10.old p1 _ hp1s hA8
        · rw [upd_same, iv_app]
          rfl
        · rw [List.length_append, hml]
          rfl
        · rcases List.mem_append.mp hn with hn | hn
          · exact hmb n hn
          · rw [List.mem_singleton.mp hn]
            exact ho
      · obtain ⟨d8, hp8, ha8, hA8, m, hm, hml, hmb⟩ := hp
        rw [iv_len] at hml
        refine ⟨p1, D, _, _, rfl, rfl, hA8, hm, (by simp only [List.length_append, iv_len, sizeLine_eq]; omega), fun p4 n4 => ?_⟩
        refine ⟨_, rfl, _, rfl, _, _, rfl, rfl, _, rfl, a, _, rfl, SqL.of (kn ha8 n4), fun p5 n5 => ?_⟩
        dsimp only
        rw [eC]
        refine ⟨p4, p5, _, _, rfl, rfl, kn upd_same n5, upd_same, (by simp only [List.length_append, iv_len, sizeLine_eq]; omega), fun p6 n6 => ?_⟩
        refine q _ p6 (mA ++ m ++ mC) (drawn_newM (drawn_newM (drawn_newM d8 n4) n5) n6) (free_drawn (drawn_newM (drawn_newM d8 n4) n5) n6) ?_ (lt_app (lt_app oA hmb) oC) (by rw [List.length_append, List.length_append]; omega)
        rw [upd_same, iv_app, iv_app]
    -- cut at the end
    refine ⟨_, rfl, _, rfl, _, rfl, a, _, rfl, SqL.of ha2, fun p1 n1 => ?_⟩
    rw [eA]
    exact q _ p1 mA (drawn_newM d2' n1) (free_drawn d2' n1) upd_same oA (by omega)
end
end FL

namespace FL
open PySem PySem.Spec PyProof.Rows L2
/-! ### several except clauses, the first one with a name, and sure to take what the body raises -/
/-- how a suite under `as n` ends: the name is gone -/
def goneE (i : Nat) (D : Ends) : Ends := { nx := fun σ H => D.nx (σ.set i none) H, rt := D.rt, bk := fun σ H => D.bk (σ.set i none) H, ct := fun σ H => D.ct (σ.set i none) H }
def wSure (K : PySem.W.Frag) (c : Value) (i : Nat) (ts : Addr → Value → Option Addr → TS) (D : Ends) : WX := fun cls d σ H =>
  PySem.W.exmOne K cls c = some true ∧ ∀ a, H a = none → ts a cls d (goneE i D) (σ.set i (some (.ref a))) H
section
variable {X : Cx} {x n : Str} {c : Value} {i : Nat} {body suite : List Stmt} {b₀ : Stmt} {np pos pos' : Pos} {tb : WX → TS} {ts : Addr → Value → Option Addr → TS} {more : List ExceptHandler}
/-- the suite's end is the statement's, once the name is gone -/
theorem end_gone {pins : List (Addr × Obj)} {a : Addr} {p : Addr × Obj} {D : Ends} (ok : X.Ok) (hN : X.N.Nodup) (hi : X.N[i]? = some n) (hln : X.env.kindOf n = some .local) {f : Flow} {s : Shared} (h : SP (X.suite a (p :: (X.pn ++ pins))) [] (goneE i D) f s) :
    wpAny (model X.prog X.w) X.A (do bindName X.env n .none; unbindBehindTheSuite X.env n pos') (fun _ s7 => SP X pins D f s7) X.xe s := by
  cases f with
  | next =>
    obtain ⟨σ, H, S, q⟩ := h
    exact gone_ok (S.unsuite ok) hN hi hln fun s7 J => ⟨_, _, J, q⟩
  | brk =>
    obtain ⟨σ, H, S, q⟩ := h
    exact gone_ok (S.unsuite ok) hN hi hln fun s7 J => ⟨_, _, J, q⟩
  | cont =>
    obtain ⟨σ, H, S, q⟩ := h
    exact gone_ok (S.unsuite ok) hN hi hln fun s7 J => ⟨_, _, J, q⟩
  | ret u =>
    obtain ⟨v, σ, H, S, r, q⟩ := h
    exact gone_ok (S.unsuite ok) hN hi hln fun s7 J => ⟨_, _, _, J, r, q⟩
/-- the body's end is the statement's -/
theorem end_body {pins : List (Addr × Obj)} {pn : List (Addr × Obj)} {xe : Value → Shared → Prop} {D : Ends} (ok : X.Ok) {f : Flow} {s : Shared} (h : SP (X.tr (X.pn ++ pins) xe) [] D f s) : f ≠ .next → SP X pins D f s := by
  intro hf
  cases f with
  | next => exact absurd rfl hf
  | brk =>
    obtain ⟨σ, H, J, q⟩ := h
    exact ⟨σ, H, J.ofTry ok, q⟩
  | cont =>
    obtain ⟨σ, H, J, q⟩ := h
    exact ⟨σ, H, J.ofTry ok, q⟩
  | ret u =>
    obtain ⟨v, σ, H, J, r, q⟩ := h
    exact ⟨v, σ, H, J.ofTry ok, r, q⟩
theorem ps_try_first (hs : X.stack = X.env :: X.outer) (hf : X.env.frame = some X.env.locals) (hN : X.N.Nodup) (hi : X.N[i]? = some n) (hln : X.env.kindOf n = some .local) (hc : Names X x c)
    (hb : ∀ (W : WX) (pn : List (Addr × Obj)) (xe : Value → Shared → Prop), Takes (X.tr pn xe) W → PassesOwn (model X.prog X.w) X.A X.env xe → PSs (X.tr pn xe) body (tb W))
    (hsu : ∀ (a : Addr) (oe : Obj) (cls : Value) (d : Option Addr) (pn : List (Addr × Obj)), Zc cls d oe → (∃ vs, oe.data = .fields vs) → PSs (X.suite a ((a, oe) :: pn)) (b₀ :: suite) (ts a cls d)) :
    PS X (.Try body (.ExceptHandler (some (.Name x np)) (some n) (b₀ :: suite) pos' :: more) [] [] pos) (fun D σ H => tb (wSure X.K c i ts D) D σ H) := by
  refine ⟨fun pins s σ H D I h => ?_⟩
  have ok := I.ok
  have hfr : X.A.frames = some (X.env :: X.outer) := by rw [ok.frames, hs]
  refine wpAny_Try_except ?_
  have bodyRun := (hb (wSure X.K c i ts D) (X.pn ++ pins) (fun e s₁ => wpAny (model X.prog X.w) X.A (noteFrame e X.env) (fun _ s₂ => wpAny (model X.prog X.w) X.A (setFlight e none) (fun _ s₃ =>
    wpAny (model X.prog X.w) X.A (handleBy e X.env (.ExceptHandler (some (.Name x np)) (some n) (b₀ :: suite) pos' :: more)) (SP X pins D) X.xe s₃) X.xe s₂) X.xe s₁) (fun u s' xx => ?land) PassesOwn.looking).run [] s σ H D (I.toTry _) h
  · refine wpAny_mono bodyRun (fun f s1 q => ?_) fun e s1 z => z
    cases f with
    | next =>
      obtain ⟨σ', H', J', q⟩ := q
      exact wpAny_execs_nil ⟨σ', H', J'.ofTry ok, q⟩
    | brk => exact end_body (pn := []) ok q (by simp)
    | cont => exact end_body (pn := []) ok q (by simp)
    | ret u => exact end_body (pn := []) ok q (by simp)
  case land =>
    obtain ⟨a, B, sI, pins', σ', H', cls, d, rfl, J', nb, up, sky, na, os, ag, hm, hsuite⟩ := xx
    have J : Inv X pins σ' H' sI := J'.ofTry ok
    rw [hs] at sky
    show wpAny (model X.prog X.w) X.A (noteFrame (.ref a) X.env) _ _ _
    refine Sky.land Zc.steady hfr hf sky fun h3 fl3 up3 => ?_
    have J3 : Inv X pins σ' H' { s' with heap := h3 } := J.landed nb fl3.1 (up.trans up3) os ag
    obtain ⟨oe3, vs3, he3, hz3, hd3⟩ := fl3.there
    have out : a ∉ frs (X.env :: X.outer) := fun hmem => by
      obtain ⟨_, o', e', hnf⟩ := fl3.2.2.1.mem hmem
      rw [he3] at e'
      cases e'
      exact hnf _ hd3
    have nL : a ≠ X.env.locals := fun z => out (List.mem_filterMap.mpr ⟨X.env, List.mem_cons_self, by rw [hf, z]⟩)
    have nF : a ∉ X.fs := fun hmem => by
      obtain ⟨e, he, q⟩ := List.mem_filterMap.mp hmem
      exact out (List.mem_filterMap.mpr ⟨e, List.mem_cons_of_mem _ he, q⟩)
    have S3 := J3.suite he3 hd3 na nL nF
    have LM := PySem.W.exm_one (M := model X.prog X.w) J3.kIn (fun A Q E s k q => wpAny_typeOf_ref (k _ _ he3) (by rw [hz3.1]; exact q)) hm
    refine wpAny_handleBy_cons (codeAny_handlers_test ?_) (by intro q; cases q)
    have hit : ∀ {Q : Value → Shared → Prop} {E : Value → Shared → Prop}, Q c { s' with heap := h3 } → wpAny (model X.prog X.w) (X.A.mark (some (.ref a))) (eval (.Name x np) X.env) Q E { s' with heap := h3 } := fun q => by
      obtain ⟨hg, hdbg, hmg | ⟨hmg, hv, hnn⟩⟩ := hc
      · exact ld_glob (X := X.suite a ((a, oe3) :: (X.pn ++ pins))) S3 hg hmg q hdbg
      · exact ld_blt (X := X.suite a ((a, oe3) :: (X.pn ++ pins))) S3 hg hmg hv q hnn hdbg
    refine hit (LM.here ?_)
    refine codeAny_handlers_suite_as (HandSPX.lands_againZ fl3 fun h4 fl4 up4 => ?_)
    have J4 : Inv X pins σ' H' { s' with heap := h4 } := J.landed nb fl4.1 ((up.trans up3).trans up4) os ag
    obtain ⟨oe4, vs4, he4, hz4, hd4⟩ := fl4.there
    have S4 := J4.suite he4 hd4 na nL nF
    refine store_ok (X := X.suite a ((a, oe4) :: (X.pn ++ pins))) (v := .ref a) S4 hN hi (.inl hln) rfl (fun s5 S5 => ?_) (.inr hln)
    exact wpAny_mono ((hsu a oe4 cls d (X.pn ++ pins) hz4 ⟨_, hd4⟩).run [] s5 _ H' _ S5 (hsuite a na)) (fun f s6 q => end_gone (p := (a, oe4)) ok hN hi hln q) fun _ _ z => z.elim
end
end FL

namespace FL
open PySem PySem.Spec PyProof.Rows L2
section
variable {P : Program} {w : World} {K : PySem.W.Frag} {mg : Str → Option Value} {base : Heap}
/-- what the suite asks of the class of NoSaying at C, of NoOctets at CN -/
structure CaughtS (K : PySem.W.Frag) (mg : Str → Option Value) (C CN : Addr) : Prop where
  gC : mg "NoSaying" = some (.ref C)
  gN : mg "NoOctets" = some (.ref CN)
  te : PySem.W.exmOne K (.ref C) (.ref C) = some true
  G : ExcC K C
  F : XfC K C
  no : PySem.W.findIn K (.ref C) "at" = some none
  kN : PySem.W.kitOne K (.ref C) (.ref CN) = some false
  kV : PySem.W.kitOne K (.ref C) (.type "ValueError") = some true
def spSaid : Sp := fun vs H Q _ => ∃ (a : Addr) (l : List Nat), vs = [.ref a] ∧ H a = some (.lst (iv l)) ∧ GO l ∧
  ((sgnL l l.length 0).2 < l.length → ∀ H' T, Same H H' → H' T = some (.tup [.str "refused", .int ((sgnL l l.length 0).2 : Nat)]) → Q (.ref T) H') ∧
  (¬ (sgnL l l.length 0).2 < l.length → ∀ H' T fp, Same H H' → H' T = some (.tup [.str "told", .ref fp]) → H' fp = some (.lst (iv (sgnL l l.length 0).1)) → Q (.ref T) H')
theorem scLawSaid : FnScope ["_law_eights", "e"] ["_law_eights"] (defScope sLawSaid) := ⟨rfl, rfl, rfl, by decide +kernel, rfl, by decide +kernel, by decide +kernel⟩
theorem r_said {C CN : Addr} (T : CaughtS K mg C CN) (A : FnAt K mg "_law_said" sLawSaid) (RF : ReadyX P w K mg base 4 "saying_of" ["octets"] (spSayingOfX K C CN)) (mi : mg "isinstance" = none) (m_int : mg "int" = none) (m_VE : mg "ValueError" = none) :
    Ready P w K mg base 5 "_law_said" ["_law_eights"] spSaid := by
  obtain ⟨f1, fd1, g1, k1, b1, G1⟩ := RF
  refine ready_of A (fun _ _ _ _ _ _ us hl => match us, hl with | [_], _ => rfl) fun f fd F => ?_
  refine F.ok scLawSaid (fun vs H Q E h => ?_) (fun cdv A outer s H vs Q E hr h => ?_)
  · obtain ⟨a, l, rfl, _⟩ := h
    rfl
  · obtain ⟨a, l, rfl, hH, hg, qr, qt⟩ := h
    have sc := scLawSaid
    refine ⟨_, pss_one (ps_try_first (i := 1) (c := .ref C) (tb := fun W => (tRet (tTup (tCons (tC (.str "told")) (tCons (tCallS (spSayingOfX K C CN) (WE W) (tCons (tVar 0) tNil)) tNil))))) rfl rfl sc.nd rfl rfl ⟨rfl, by decide, Or.inl T.gC⟩
        (fun W pn xe tk _ => pss_one (ps_ret (by exact (pe_tup (pa_cons pe_str (pa_cons (pe_callS G1 hr rfl g1 k1 b1 (fun σ => passAt tk σ) (by exact (pa_cons (pv 0) pa_nil))) pa_nil))))))
        (fun a oe cls d pn hz hf => pss_one (ps_ret (pe_tup (pa_cons pe_str (pa_cons (pe_ix (r := rIxL K) (by exact ix_list) (pe_lst (pa_cons (pe_xf T.F T.no hz hf (pv 1)) (pa_cons (pe_un un_neg pe_int) pa_nil)))
          (pe_callTy call_int1 (by rfl) m_int (by decide +kernel) (pa_cons (pe_or (pe_callB (call_isG T.G hz hf) (by rfl) mi (by decide +kernel) (pa_cons (pv 1) (pa_cons (pe_glob (v := .ref CN) rfl T.gN rfl) pa_nil))) (pe_one (pe_not (pe_callB (call_isG T.G hz hf) (by rfl) mi (by decide +kernel) (pa_cons (pv 1) (pa_cons (pe_bltn (v := .ty "ValueError") (by rfl) m_VE (by decide +kernel) rfl) pa_nil)))))) pa_nil)) (fun _ _ => rfl)) pa_nil)))))), ?_⟩
    obtain ⟨hq, hR⟩ := sgn_say hg.1 l.length 0 (by omega) (Nat.zero_le _)
    refine ⟨_, rfl, .ref a, rfl, .inl ⟨a, l, l.length, _, rfl, hH, hg, hR, fun r er H' p s' np hp => ?_, fun p er => ?_⟩⟩
    · have hnl : ¬ (sgnL l l.length 0).2 < l.length := fun z => by
        rw [if_pos z] at er
        cases er
      rw [if_neg hnl] at er
      injection er with er
      subst er
      refine ⟨(by show 2 ≤ sizeLine; decide), fun T nT => ?_⟩
      exact qt hnl _ T p (s'.trans (same_new nT)) upd_same (kn hp nT)
    · have hl : (sgnL l l.length 0).2 < l.length := by
        by_cases z : (sgnL l l.length 0).2 < l.length
        · exact z
        · rw [if_neg z] at er
          cases er
      rw [if_pos hl] at er
      injection er with er
      subst er
      intro d H' s' nd hd
      refine ⟨T.te, fun ea na => ?_⟩
      refine ⟨_, rfl, rfl, rfl, d, _, _, rfl, hd, rfl, _, rfl, (by show 2 ≤ sizeLine; decide), fun p np => ?_⟩
      have hd2 := kn (x := .lst [.int ((sgnL l l.length 0).2 : Nat), .int (-1)]) hd np
      refine ⟨_, rfl, rfl, d, rfl, .ref CN, .ref CN, false, _, rfl, hd2, fun u hu => hu, T.kN, _, rfl, iteF ?_⟩
      refine ⟨_, rfl, rfl, d, rfl, .ty "ValueError", .type "ValueError", true, _, rfl, hd2, fun u hu => hu, T.kV, _, rfl, .inr ⟨_, rfl, ?_⟩⟩
      refine ⟨p, _, _, .int ((sgnL l l.length 0).2 : Nat), rfl, rfl, SqL.of upd_same, rfl, (by show 2 ≤ sizeLine; decide), fun T2 nT => ?_⟩
      exact qr hl _ T2 (s'.trans ((same_new np).trans (same_new nT))) upd_same
end
end FL

namespace FL
open PySem PySem.Spec PyProof.Rows L2
theorem kit_ve {K : PySem.W.Frag} {C : Addr} (s : PySem.W.subIn K (.ref C) (.type "ValueError") = some true) : PySem.W.kitOne K (.ref C) (.type "ValueError") = some true := by
  unfold PySem.W.kitOne
  rw [if_neg (by intro h; cases h)]
  show (if PySem.W.kitMeta "ValueError" = true then PySem.W.subIn K (.ref C) (.type "ValueError") else none) = some true
  rw [if_pos (by decide +kernel)]
  exact s
end FL

namespace FL
open PySem PySem.Spec PyProof.Rows L2
theorem ref_sh (q : Int) : SeqAt.shaped (.tuple [.str "refused", .int q]) = true := by
  have h : PyData.strOk ("refused" : Str) = true := by decide +kernel
  refine shaped_of ?_ ?_
  · simp [PyData.canLay0, PyData.canLayAll0, h]
  · simp [PyData.depth, PyData.depthAll]
theorem ints_depth (l : List Nat) : (PyData.list (idt l)).depth ≤ 1 := by
  rw [PyData.depth]
  have : PyData.depthAll (idt l) ≤ 0 := depthAll_of fun d hd => by
    obtain ⟨z, hz, rfl⟩ := List.mem_map.mp hd
    rw [PyData.depth]
    exact Nat.le_refl _
  omega
theorem told_sh (l : List Nat) : SeqAt.shaped (.tuple [.str "told", .list (idt l)]) = true := by
  have h : PyData.strOk ("told" : Str) = true := by decide +kernel
  have hl := (Bool.and_eq_true_iff.mp (shaped_ints l)).1
  have hd := ints_depth l
  refine shaped_of ?_ ?_
  · rw [PyData.canLay0, PyData.canLayAll0, PyData.canLayAll0, PyData.canLayAll0, hl, canLay_str h]
    rfl
  · rw [PyData.depth]
    have : PyData.depthAll [PyData.str "told", PyData.list (idt l)] ≤ 1 := depthAll_of fun d hd2 => by
      rcases List.mem_cons.mp hd2 with rfl | hd2
      · rw [PyData.depth]
        omega
      · rw [List.mem_singleton.mp hd2]
        exact hd
    omega
theorem sh_eq {d : PyData} (h : SeqAt.shaped d = true) : PyData.eqv d d = true := SeqAt.eqv_refl _ (Bool.and_eq_true_iff.mp h).1
theorem ref_dp {K : PySem.W.Frag} {H : Hp} {p : Addr} {q : Int} (h : H p = some (.tup [.str "refused", .int q])) : Dp K H (.ref p) (.tuple [.str "refused", .int q]) := .tup (SqT.of h) (.cons (.str _) (.cons (.int _) .nil))
theorem told_dp {K : PySem.W.Frag} {H : Hp} {p r : Addr} {l : List Nat} (h : H p = some (.tup [.str "told", .ref r])) (hr : H r = some (.lst (iv l))) : Dp K H (.ref p) (.tuple [.str "told", .list (idt l)]) := .tup (SqT.of h) (.cons (.str _) (.cons (dpl hr) .nil))
section
variable {P : Program} {w : World} {K : PySem.W.Frag} {mg : Str → Option Value} {base : Heap}
def spLaw (K : PySem.W.Frag) : Sp := fun vs H Q _ => ∃ (a : Addr) (ns : List Int), vs = [.ref a] ∧ SqL K H a (ns.map V.int) ∧ ns.length ≤ 63 ∧ ∀ H', Q (.bl true) H'
theorem scLaw : FnScope ["_law_script", "_law_k", "_law_source_here", "_law_some", "_law_spoilt_here", "_law_turn", "_law_eights", "_law_row", "_law_behind", "_law_due", "_law_handed"] ["_law_script"] (defScope sLaw) := ⟨rfl, rfl, rfl, by decide +kernel, rfl, by decide +kernel, by decide +kernel⟩
theorem ok_law {f : Addr} {fd : FuncData} (F : Fun K "law" "law" sLaw f fd) (R1 : Ready P w K mg base 2 "_law_source" ["_law_script", "_law_k"] (spSource K)) (R2 : Ready P w K mg base 1 "_law_octets_of" ["_law_row"] (spLawOcts K)) (R3 : Ready P w K mg base 3 "_law_saying" ["_law_source_here"] (spLawSaying K))
    (R4 : Ready P w K mg base 4 "_law_any" ["_law_source_here"] spAny) (R5 : Ready P w K mg base 2 "_law_signs_of" ["_law_eights"] spSignsOf) (R6 : Ready P w K mg base 5 "_law_said" ["_law_eights"] spSaid) (R7 : Ready P w K mg base 4 "_law_spoilt" ["_law_source_here", "_law_eights"] spSpoilt)
    (m_len : mg "len" = none) (m_range : mg "range" = none) (m_max : mg "max" = none) (m_min : mg "min" = none) (m_list : mg "list" = none) :
    FnOk P w K mg base CX0 6 f fd ["_law_script"] (spLaw K) := by
  obtain ⟨f1, fd1, g1, k1, b1, G1⟩ := R1
  obtain ⟨f2, fd2, g2, k2, b2, G2⟩ := R2
  obtain ⟨f3, fd3, g3, k3, b3, G3⟩ := R3
  obtain ⟨f4, fd4, g4, k4, b4, G4⟩ := R4
  obtain ⟨f5, fd5, g5, k5, b5, G5⟩ := R5
  obtain ⟨f6, fd6, g6, k6, b6, G6⟩ := R6
  obtain ⟨f7, fd7, g7, k7, b7, G7⟩ := R7
  refine F.ok scLaw (fun vs H Q E h => ?_) (fun cdv A outer s H vs Q E hr h => ?_)
  · obtain ⟨a, ns, rfl, _⟩ := h
    rfl
  · obtain ⟨a, ns, rfl, hS, hns, q⟩ := h
    have sc := scLaw
    refine ⟨_, pss_cons (ps_for PassesOwn.never rfl (pi_range1 (by rfl) m_range (pa_cons (pe_callB (call_max2 rfl) (by rfl) m_max (by decide +kernel) (pa_cons pe_int (pa_cons (pe_callB (call_min2 rfl) (by rfl) m_min (by decide +kernel) (pa_cons pe_int (pa_cons (pe_callB call_len_seq (by rfl) m_len PySem.boot_len (pa_cons (pv 0) pa_nil)) pa_nil))) pa_nil))) pa_nil)) (pg_name (i := 1) sc.nd rfl (.inl rfl))
        (pss_cons (ps_set (i := 2) sc.nd rfl (.inl rfl) (pe_call G1 (hr.mono (by decide)) (by rfl) g1 k1 b1 .nil pass0 (pa_cons (pv 0) (pa_cons (pv 1) pa_nil))))
          (pss_cons (ps_set (i := 3) sc.nd rfl (.inl rfl) (pe_call G2 (hr.mono (by decide)) (by rfl) g2 k2 b2 .nil pass0 (pa_cons (pe_slice sl_list (pe_call G3 (hr.mono (by decide)) (by rfl) g3 k3 b3 .nil pass0 (pa_cons (pv 2) pa_nil)) po_none (po_some pe_int)) pa_nil)))
          (pss_cons (ps_set (i := 4) sc.nd rfl (.inl rfl) (pv 3))
          (pss_one (ps_for PassesOwn.never rfl (pi_range1 (by rfl) m_range (pa_cons pe_int pa_nil)) (pg_name (i := 5) sc.nd rfl (.inl rfl))
            (pss_cons (ps_for PassesOwn.never rfl (pi_list (pe_lst (pa_cons (pv 4) (pa_cons (pe_call G4 (hr.mono (by decide)) (by rfl) g4 k4 b4 .nil pass0 (pa_cons (pv 2) pa_nil)) pa_nil)))) (pg_name (i := 6) sc.nd rfl (.inl rfl))
                (pss_cons (ps_asg (pe_call G5 (hr.mono (by decide)) (by rfl) g5 k5 b5 .nil pass0 (pa_cons (pv 6) pa_nil)) (pg_tup rfl (pgs_cons (pg_name (i := 7) sc.nd rfl (.inl rfl)) (pgs_cons (pg_name (i := 8) sc.nd rfl (.inl rfl)) pgs_nil))))
                  (pss_cons (ps_set (i := 9) sc.nd rfl (.inl rfl) (pe_tup (pa_cons pe_str (pa_cons (pv 7) pa_nil))))
                  (pss_cons (ps_if (pt_cmpR op_lt (pv 8) (pe_callB call_len_seq (by rfl) m_len PySem.boot_len (pa_cons (pv 6) pa_nil)) (nomark _))
                    (pss_one (ps_set (i := 9) sc.nd rfl (.inl rfl) (pe_tup (pa_cons pe_str (pa_cons (pv 8) pa_nil)))))
                    pss_nil)
                  (pss_cons (ps_set (i := 10) sc.nd rfl (.inl rfl) (pe_callTy call_list_of (by rfl) m_list (by decide +kernel) (pa_cons (pv 6) pa_nil)))
                  (pss_one (ps_if (PW.pt (pw_or (pt_cmpR (op_neD hr.units) (pe_call G6 (hr.mono (by decide)) (by rfl) g6 k6 b6 .nil pass0 (pa_cons (pv 10) pa_nil)) (pv 9) (nomark _)) (pw_or (pt_cmpR (op_neD hr.units) (pe_call G6 (hr.mono (by decide)) (by rfl) g6 k6 b6 .nil pass0 (pa_cons (pv 10) pa_nil)) (pv 9) (nomark _)) (pw_or1 (pt_cmpR (op_neD hr.units) (pv 10) (pv 6) (nomark _))))))
                    (pss_one (ps_ret pe_bl))
                    pss_nil)))))))
              (pss_one (ps_set (i := 4) sc.nd rfl (.inl rfl) (pe_call G7 (hr.mono (by decide)) (by rfl) g7 k7 b7 .nil pass0 (pa_cons (pv 2) (pa_cons (pv 4) pa_nil))))))))))))
      (pss_one (ps_ret pe_bl)), ?_⟩
    have hlen : (ns.map V.int).length = ns.length := List.length_map ..
    refine ⟨_, rfl, a, _, rfl, .inl hS, ?_⟩
    rw [hlen]
    refine ⟨_, _, rfl, _, _, rfl, ?_⟩
    generalize hM : (if (if (ns.length : Int) < 5 then (ns.length : Int) else 5) > 1 then (if (ns.length : Int) < 5 then (ns.length : Int) else 5) else 1) = M
    have hM0 : 0 ≤ M ∧ M ≤ 100 := by
      rw [← hM]
      constructor <;> (split <;> split <;> omega)
    refine ⟨M, rfl, by omega, by omega, ?_⟩
    refine for_it walk_range (fun i σ H' => ∃ y1 y2 y3 y4 y5 y6 y7 y8 y9 y10, σ = [some (.ref a), y1, y2, y3, y4, y5, y6, y7, y8, y9, y10] ∧ Same H H') ⟨none, none, none, none, none, none, none, none, none, none, rfl, Same.refl H⟩ (fun _ _ _ _ _ => trivial) (fun i x σ H1 H2 hi hp hy => ?_) (fun σ H1 hp => ?_)
    case refine_2 => exact q H1
    obtain ⟨y1, y2, y3, y4, y5, y6, y7, y8, y9, y10, rfl, sm⟩ := hp
    obtain ⟨rfl, hxv⟩ := hy
    have hx' : x = .int (i : Nat) := by
      rw [hxv]
      exact congrArg V.int (Int.zero_add _)
    subst hx'
    refine ⟨_, rfl, _, rfl, a, ns, i, rfl, sm.seq hS, fun H3 sr s3 nsr hsr => ?_⟩
    have nsr0 : H sr = none := Same.free sm nsr
    refine ⟨_, rfl, sr, rfl, hsr, fun H4 p4 l4 d4 n4 h4 hb4 hl4 => ⟨_, rfl, p4, _, rfl, SqL.of h4, fun p5 n5 => ?_⟩⟩
    obtain ⟨m, em, lm, bm⟩ := cut_iv l4 none (some 60)
    rw [em]
    have gs : GS m := ⟨fun n hn => hb4 n (bm n hn), by omega⟩
    refine ⟨p5, m, rfl, upd_same, gs, fun H6 p6 s6 n6 h6 => ?_⟩
    have d6 : Drawn sr H3 H6 := (drawn_newM d4 n5).same s6
    have p6s : p6 ≠ sr := hsr.neM (free_drawn (drawn_newM d4 n5) n6)
    have hol : (octsOf m).length ≤ 600 := by
      have := octsOf_len m
      omega
    refine ⟨_, rfl, 3, rfl, by decide, by decide, ?_⟩
    refine for_it walk_range (fun j σ H' => ∃ (sp : Addr) (l : List Nat) (z5 z6 z7 z8 z9 z10 : Option V), σ = [some (.ref a), some (.int (i : Nat)), some (.ref sr), some (.ref p6), some (.ref sp), z5, z6, z7, z8, z9, z10] ∧ Drawn sr H3 H' ∧ sp ≠ sr ∧ H' sp = some (.lst (iv l)) ∧ (∀ n ∈ l, n < 256) ∧ l.length + 1 ≤ 700 * 3 ^ j)
      ⟨p6, octsOf m, _, _, _, _, _, _, rfl, d6, p6s, h6, octsOf_lt gs.1, by show _ ≤ 700 * 1; omega⟩ (fun _ _ _ _ _ => trivial) (fun j x σ H7 H8 hj hp hy => ?_) (fun σ H7 hp => ?_)
    case refine_2 =>
      obtain ⟨sp, l, z5, z6, z7, z8, z9, z10, rfl, d7, _⟩ := hp
      exact ⟨_, _, _, _, _, _, _, _, _, _, rfl, same_drawn (sm.trans s3) nsr0 d7⟩
    obtain ⟨sp, l, z5, z6, z7, z8, z9, z10, rfl, d7, sps, hsp, hlb, hll⟩ := hp
    obtain ⟨rfl, _⟩ := hy
    have hj : j < 3 := hj
    have hl63 : l.length ≤ 6300 := by
      have : 3 ^ j ≤ 9 := (by decide : ∀ j, j < 3 → 3 ^ j ≤ 9) j hj
      omega
    refine ⟨_, rfl, _, rfl, sr, rfl, d7.src, fun H9 an l9 d9 n9 h9 hb9 hl9 => ⟨(by show 2 ≤ sizeLine; decide), fun px nx => ?_⟩⟩
    have hsp9 := d9.old sp _ sps hsp
    have hpx : (upd H9 px (.lst [.ref sp, .ref an])) px = some (.lst [.ref sp, .ref an]) := upd_same
    have dA : Drawn sr H3 (upd H9 px (.lst [.ref sp, .ref an])) := drawn_newM (d7.trans d9) nx
    have hspA : (upd H9 px (.lst [.ref sp, .ref an])) sp = some (.lst (iv l)) := kn hsp9 nx
    have hanA : (upd H9 px (.lst [.ref sp, .ref an])) an = some (.lst (iv l9)) := kn h9 nx
    generalize upd H9 px (.lst [.ref sp, .ref an]) = HA at hpx dA hspA hanA ⊢
    refine ⟨px, rfl, ⟨_, SqL.of hpx⟩, ?_⟩
    refine for_it (walk_list (K := K) (a := px) (xs := [V.ref sp, V.ref an])) (fun jj σ H' => ∃ (z5 z6 z7 z8 z9 z10 : Option V), σ = [some (.ref a), some (.int (i : Nat)), some (.ref sr), some (.ref p6), some (.ref sp), z5, z6, z7, z8, z9, z10] ∧ Same HA H') ⟨_, _, _, _, _, _, rfl, Same.refl HA⟩ (fun jj σ H' _ hp => ?_) (fun jj x σ HB HC hjj hp hy => ?_) (fun σ HB hp => ?_)
    · obtain ⟨z5, z6, z7, z8, z9, z10, rfl, sB⟩ := hp
      exact SqL.of (sB _ _ hpx)
    · obtain ⟨z5, z6, z7, z8, z9, z10, rfl, sB⟩ := hp
      obtain ⟨rfl, hx⟩ := hy
      obtain ⟨e, le, rfl, heA, go⟩ : ∃ (e : Addr) (le : List Nat), x = .ref e ∧ HA e = some (.lst (iv le)) ∧ GO le := by
        match jj, hjj, hx with
        | 0, _, hx => exact ⟨sp, l, (Option.some.inj hx).symm, hspA, hlb, by omega⟩
        | 1, _, hx => exact ⟨an, l9, (Option.some.inj hx).symm, hanA, hb9, by omega⟩
      refine ⟨_, rfl, e, le, rfl, sB _ _ heA, go, fun HD T fp sD hT hfp => ?_⟩
      refine ⟨T, _, rfl, SqT.of hT, rfl, _, _, rfl, _, _, rfl, rfl, ?_⟩
      have tD := sB.trans sD
      refine ⟨_, rfl, (by show 2 ≤ sizeLine; decide), fun du ndu => ?_⟩
      have hdu : (upd HD du (.tup [.str "told", .ref fp])) du = some (.tup [.str "told", .ref fp]) := upd_same
      have hfpE : (upd HD du (.tup [.str "told", .ref fp])) fp = some (.lst (iv (sgnL le le.length 0).1)) := kn hfp ndu
      have tE : Same HA (upd HD du (.tup [.str "told", .ref fp])) := tD.trans (same_new ndu)
      generalize upd HD du (.tup [.str "told", .ref fp]) = HE at hdu hfpE tE ⊢
      have heE := tE _ _ heA
      refine ⟨_, rfl, _, rfl, e, _, rfl, .inl (SqL.of heE), _, _, rfl, rfl, _, rfl, ?_⟩
      dsimp only
      rw [iv_len]
      by_cases hq : (sgnL le le.length 0).2 < le.length
      · rw [decide_eq_true (by omega : (((sgnL le le.length 0).2 : Nat) : Int) < ((le.length : Nat) : Int))]
        refine iteT ⟨_, rfl, (by show 2 ≤ sizeLine; decide), fun d2 nd2 => ?_⟩
        have hd2 : (upd HE d2 (.tup [.str "refused", .int ((sgnL le le.length 0).2 : Nat)])) d2 = some (.tup [.str "refused", .int ((sgnL le le.length 0).2 : Nat)]) := upd_same
        have tF : Same HA (upd HE d2 (.tup [.str "refused", .int ((sgnL le le.length 0).2 : Nat)])) := tE.trans (same_new nd2)
        generalize upd HE d2 (.tup [.str "refused", .int ((sgnL le le.length 0).2 : Nat)]) = HF at hd2 tF ⊢
        have heF := tF _ _ heA
        refine ⟨_, rfl, e, _, rfl, .inl (SqL.of heF), fun hd nhd => ?_⟩
        have hhd : (upd HF hd (.lst (iv le))) hd = some (.lst (iv le)) := upd_same
        have tG : Same HF (upd HF hd (.lst (iv le))) := same_new nhd
        generalize upd HF hd (.lst (iv le)) = HG at hhd tG ⊢
        refine ⟨_, rfl, hd, le, rfl, hhd, go, (fun _ HI T1 sI hT1 => ?_), fun z => absurd hq z⟩
        refine ⟨_, rfl, _, _, ref_dp hT1, ref_dp (sI _ _ (tG _ _ hd2)), ref_sh _, ref_sh _, _, rfl, ?_⟩
        rw [sh_eq (ref_sh _)]
        refine iteF ⟨_, rfl, hd, le, rfl, sI _ _ hhd, go, (fun _ HJ T2 sJ hT2 => ?_), fun z => absurd hq z⟩
        refine ⟨_, rfl, _, _, ref_dp hT2, ref_dp (sJ _ _ (sI _ _ (tG _ _ hd2))), ref_sh _, ref_sh _, _, rfl, ?_⟩
        rw [sh_eq (ref_sh _)]
        refine iteF ⟨_, rfl, _, rfl, _, _, dpl (sJ _ _ (sI _ _ hhd)), dpl (sJ _ _ (sI _ _ (tG _ _ heF))), shaped_ints _, shaped_ints _, _, rfl, ?_⟩
        rw [eqv_ints, decide_eq_true rfl]
        refine iteF ⟨_, _, _, _, _, _, rfl, ((tF.trans tG).trans sI).trans sJ⟩
      · rw [decide_eq_false (by omega : ¬ (((sgnL le le.length 0).2 : Nat) : Int) < ((le.length : Nat) : Int))]
        refine iteF ?_
        refine ⟨_, rfl, e, _, rfl, .inl (SqL.of heE), fun hd nhd => ?_⟩
        have hhd : (upd HE hd (.lst (iv le))) hd = some (.lst (iv le)) := upd_same
        have tG : Same HE (upd HE hd (.lst (iv le))) := same_new nhd
        generalize upd HE hd (.lst (iv le)) = HG at hhd tG ⊢
        refine ⟨_, rfl, hd, le, rfl, hhd, go, (fun z => absurd z hq), fun _ HI T1 f1 sI hT1 hf1 => ?_⟩
        refine ⟨_, rfl, _, _, told_dp hT1 hf1, told_dp (sI _ _ (tG _ _ hdu)) (sI _ _ (tG _ _ hfpE)), told_sh _, told_sh _, _, rfl, ?_⟩
        rw [sh_eq (told_sh _)]
        refine iteF ⟨_, rfl, hd, le, rfl, sI _ _ hhd, go, (fun z => absurd z hq), fun _ HJ T2 f2 sJ hT2 hf2 => ?_⟩
        refine ⟨_, rfl, _, _, told_dp hT2 hf2, told_dp (sJ _ _ (sI _ _ (tG _ _ hdu))) (sJ _ _ (sI _ _ (tG _ _ hfpE))), told_sh _, told_sh _, _, rfl, ?_⟩
        rw [sh_eq (told_sh _)]
        refine iteF ⟨_, rfl, _, rfl, _, _, dpl (sJ _ _ (sI _ _ hhd)), dpl (sJ _ _ (sI _ _ (tG _ _ heE))), shaped_ints _, shaped_ints _, _, rfl, ?_⟩
        rw [eqv_ints, decide_eq_true rfl]
        refine iteF ⟨_, _, _, _, _, _, rfl, ((tE.trans tG).trans sI).trans sJ⟩
    · obtain ⟨z5, z6, z7, z8, z9, z10, rfl, sB⟩ := hp
      have dB := dA.same sB
      refine ⟨_, rfl, _, rfl, sr, sp, l, rfl, dB.src, sps, sB _ _ hspA, hlb, by omega, fun HK pk mk' dK nK hK hbK hlK => ?_⟩
      refine ⟨pk, mk', _, _, _, _, _, _, rfl, dB.trans dK, dB.src.neM nK, hK, hbK, ?_⟩
      rw [Nat.pow_succ]
      omega
end
end FL

namespace FL
open PySem PySem.Spec PyProof.Rows L2
theorem all_mk {l : PySem.W.OpenLaw} {w : World} {K : PySem.W.Frag} {h : Heap} {mg : Str → Option Value} {fa f1 f2 f3 f4 f5 f6 f7 f8 f9 f10 f11 f12 f13 f14 f15 f16 f17 f18 f19 f20 f21 : Addr} (X : K.In h) (G : h.Ns mainGlobals mg) (hfa : mg "law" = some (.ref fa))
    {od1 an1 od2 an2 od3 an3 od4 an4 od5 an5 od6 an6 od7 an7 od8 an8 od9 an9 od10 an10 od11 an11 od12 an12 od13 an13 od14 an14 od15 an15 od16 an16 od17 an17 od18 an18 od19 an19 od20 an20 od21 an21 : Option Addr} {sl1 sl2 sl3 sl4 sl5 sl6 sl7 sl8 sl9 sl10 sl11 sl12 sl13 sl14 sl15 sl16 sl17 sl18 sl19 sl20 sl21 : Array (Option Value)} {oc1 kV1 dc1 pm1 cd1 ct1 oc2 kV2 dc2 pm2 cd2 ct2 oc3 kV3 dc3 pm3 cd3 ct3 oc4 kV4 dc4 pm4 cd4 ct4 oc5 kV5 dc5 pm5 cd5 ct5 oc6 kV6 dc6 pm6 cd6 ct6 oc7 kV7 dc7 pm7 cd7 ct7 oc8 kV8 dc8 pm8 cd8 ct8 oc9 kV9 dc9 pm9 cd9 ct9 oc10 kV10 dc10 pm10 cd10 ct10 oc11 kV11 dc11 pm11 cd11 ct11 oc12 kV12 dc12 pm12 cd12 ct12 oc13 kV13 dc13 pm13 cd13 ct13 oc14 kV14 dc14 pm14 cd14 ct14 oc15 kV15 dc15 pm15 cd15 ct15 oc16 kV16 dc16 pm16 cd16 ct16 oc17 kV17 dc17 pm17 cd17 ct17 oc18 kV18 dc18 pm18 cd18 ct18 oc19 kV19 dc19 pm19 cd19 ct19 oc20 kV20 dc20 pm20 cd20 ct20 oc21 kV21 dc21 pm21 cd21 ct21 : Value} {tk1 tk2 : Tok}
    {CL fL TL : Addr} {odL anL odTL : Option Addr} {slL slTL : Array (Option Value)} {ocL kVL dcL pmL cdL ctL ocTL : Value} {tkL : Tok} {nTL : Nat}
    {C fC TC NC : Addr} {nmC qC : Str} {bsC bmC : List Value} {snC : List Str} {subC : List Value} {abC : Bool} {colC : Option Bool} {ddC odC anC odTC : Option Addr} {m0C m1C m2C m3C m5C : Option Value} {slC slTC : Array (Option Value)} {ocC kVC dcC pmC cdC ctC ocTC : Value} {tkC : Tok} {nTC : Nat}
    {CN NCN : Addr} {nmCN qCN : Str} {bsCN bmCN : List Value} {snCN : List Str} {subCN : List Value} {abCN : Bool} {colCN : Option Bool} {ddCN : Option Addr} {m0CN m1CN m2CN m3CN m5CN : Option Value}
    (gL : PySem.W.nsIn K mainGlobals "LetterError" = some (some (.ref CL)))
    (iL : PySem.W.findIn K (.ref CL) "__init__" = some (some (.ref fL)))
    (lL : K.lookup fL = some ⟨ocL, odL, .func (PySem.W.fnOf "__init__" "LetterError.__init__" (defArgs sLE) (defBody sLE) (defScope sLE) (.ref TL) kVL dcL pmL anL cdL ctL), slL⟩)
    (cL : PySem.W.codeIn K cdL "LetterError.__init__" = true)
    (kL : PySem.W.keepIn K (.ref fL) = true)
    (dL : K.lookup TL = some ⟨ocTL, odTL, .seq #[.str ("" : Str) tkL] nTL, slTL⟩)
    (gaL : PySem.W.specialIn K (.ref CL) "__getattribute__" = some (some (.builtin "type.__getattribute__")))
    (rdL : PySem.W.readsIn K CL (.type "type") = true)
    (atL : PySem.W.findCls K (.ref CL) (.type "type") "__init__" = some (.val (.ref fL)))
    (vV : PySem.W.findCls K (.type "ValueError") (.type "type") "__init__" = some (.val (.builtin "ValueError.__init__")))
    (zVE : PySem.W.nsIn K mainGlobals "ValueError" = some none)
    (exL : PySem.W.subIn K (.ref CL) (.type "BaseException") = some true)
    (hdL : PySem.W.hasDictIn K CL = true)
    (tyL : PySem.W.typeIn K (.ref CL) = some (.type "type"))
    (tifL : PySem.W.typeIn K (.ref fL) = some (.type "function"))
    (gC : PySem.W.nsIn K mainGlobals "NoSaying" = some (some (.ref C)))
    (xC : K.lookup C = some (excClassObj nmC qC C NC bsC bmC true snC subC abC colC ddC m0C m1C m2C m3C m5C "ValueError.__new__"))
    (rvC : PySem.HandSPX.refsVE bmC = true)
    (saC : PySem.W.findIn K (.ref C) "__setattr__" = some (some (.builtin "object.__setattr__")))
    (exC : PySem.W.subIn K (.ref C) (.type "BaseException") = some true)
    (tyC : PySem.W.typeIn K (.ref C) = some (.type "type"))
    (kcC : PySem.W.keepIn K (.ref C) = true)
    (noC : PySem.W.findIn K (.ref C) "at" = some none)
    (iC : PySem.W.findIn K (.ref C) "__init__" = some (some (.ref fC)))
    (tiC : PySem.W.typeIn K (.ref fC) = some (.type "function"))
    (lC : K.lookup fC = some ⟨ocC, odC, .func (PySem.W.fnOf "__init__" "NoSaying.__init__" (defArgs sNS) (defBody sNS) (defScope sNS) (.ref TC) kVC dcC pmC anC cdC ctC), slC⟩)
    (cC : PySem.W.codeIn K cdC "NoSaying.__init__" = true)
    (kC : PySem.W.keepIn K (.ref fC) = true)
    (dC : K.lookup TC = some ⟨ocTC, odTC, .seq #[.int 0 tkC] nTC, slTC⟩)
    (hgC : PySem.W.findIn K (.ref C) "__getattribute__" = some (some (.builtin "BaseException.__getattribute__")))
    (hkC : PySem.W.findIn K (.ref C) "__getattr__" = some none)
    (hdC : PySem.W.hasDictIn K C = true)
    (haC : PySem.W.findIn K (.ref C) "__class__" = some (some (.builtin "object.__class__")))
    (hmC : PySem.W.mroIn K C (.type "object") = some true)
    (suC : PySem.W.subIn K (.ref C) (.ref CL) = some true)
    (gCN : PySem.W.nsIn K mainGlobals "NoOctets" = some (some (.ref CN)))
    (xCN : K.lookup CN = some (excClassObj nmCN qCN CN NCN bsCN bmCN true snCN subCN abCN colCN ddCN m0CN m1CN m2CN m3CN m5CN "ValueError.__new__"))
    (rvCN : PySem.HandSPX.refsVE bmCN = true)
    (saCN : PySem.W.findIn K (.ref CN) "__setattr__" = some (some (.builtin "object.__setattr__")))
    (exCN : PySem.W.subIn K (.ref CN) (.type "BaseException") = some true)
    (tyCN : PySem.W.typeIn K (.ref CN) = some (.type "type"))
    (kcCN : PySem.W.keepIn K (.ref CN) = true)
    (iCN : PySem.W.findIn K (.ref CN) "__init__" = some (some (.ref fL)))
    (hgCN : PySem.W.findIn K (.ref CN) "__getattribute__" = some (some (.builtin "BaseException.__getattribute__")))
    (hkCN : PySem.W.findIn K (.ref CN) "__getattr__" = some none)
    (hdCN : PySem.W.hasDictIn K CN = true)
    (haCN : PySem.W.findIn K (.ref CN) "__class__" = some (some (.builtin "object.__class__")))
    (hmCN : PySem.W.mroIn K CN (.type "object") = some true)
    (suCN : PySem.W.subIn K (.ref CN) (.ref CL) = some true)
    (hn0 : PySem.W.specialIn K (.builtin "object.__class__") "__get__" = some (some (.builtin "getset_descriptor.__get__")))
    (ht0 : PySem.W.takesIn K (.builtin "object.__class__") = some true)
    (suSelf : PySem.W.subIn K (.ref C) (.ref C) = some true)
    (suVE : PySem.W.subIn K (.ref C) (.type "ValueError") = some true)
    (kitNt : PySem.W.typeIn K (.ref CN) = some (.type "type"))
    (kitNd : PySem.W.hasDictIn K CN = true)
    (kitNs : PySem.W.subIn K (.ref C) (.ref CN) = some false)
    (kitNn : ((Value.ref C) == (Value.ref CN)) = false)
    (a1 : PySem.W.nsIn K mainGlobals "is_whole" = some (some (.ref f1))) (l1 : K.lookup f1 = some ⟨oc1, od1, .func (PySem.W.fnOf "is_whole" "is_whole" (defArgs sIsWhole) (defBody sIsWhole) (defScope sIsWhole) .none kV1 dc1 pm1 an1 cd1 ct1), sl1⟩) (c1 : PySem.W.codeIn K cd1 "is_whole" = true) (k1 : PySem.W.keepIn K (.ref f1) = true)
    (a2 : PySem.W.nsIn K mainGlobals "is_octets" = some (some (.ref f2))) (l2 : K.lookup f2 = some ⟨oc2, od2, .func (PySem.W.fnOf "is_octets" "is_octets" (defArgs sIsOctets) (defBody sIsOctets) (defScope sIsOctets) .none kV2 dc2 pm2 an2 cd2 ct2), sl2⟩) (c2 : PySem.W.codeIn K cd2 "is_octets" = true) (k2 : PySem.W.keepIn K (.ref f2) = true)
    (a3 : PySem.W.nsIn K mainGlobals "_is_octet" = some (some (.ref f3))) (l3 : K.lookup f3 = some ⟨oc3, od3, .func (PySem.W.fnOf "_is_octet" "_is_octet" (defArgs sIsOctet) (defBody sIsOctet) (defScope sIsOctet) .none kV3 dc3 pm3 an3 cd3 ct3), sl3⟩) (c3 : PySem.W.codeIn K cd3 "_is_octet" = true) (k3 : PySem.W.keepIn K (.ref f3) = true)
    (a4 : PySem.W.nsIn K mainGlobals "saying_of" = some (some (.ref f4))) (l4 : K.lookup f4 = some ⟨oc4, od4, .func (PySem.W.fnOf "saying_of" "saying_of" (defArgs sSayingOf) (defBody sSayingOf) (defScope sSayingOf) .none kV4 dc4 pm4 an4 cd4 ct4), sl4⟩) (c4 : PySem.W.codeIn K cd4 "saying_of" = true) (k4 : PySem.W.keepIn K (.ref f4) = true)
    (a5 : PySem.W.nsIn K mainGlobals "_is_sign" = some (some (.ref f5))) (l5 : K.lookup f5 = some ⟨oc5, od5, .func (PySem.W.fnOf "_is_sign" "_is_sign" (defArgs sIsSaySign) (defBody sIsSaySign) (defScope sIsSaySign) .none kV5 dc5 pm5 an5 cd5 ct5), sl5⟩) (c5 : PySem.W.codeIn K cd5 "_is_sign" = true) (k5 : PySem.W.keepIn K (.ref f5) = true)
    (a6 : PySem.W.nsIn K mainGlobals "_octets_of_sign" = some (some (.ref f6))) (l6 : K.lookup f6 = some ⟨oc6, od6, .func (PySem.W.fnOf "_octets_of_sign" "_octets_of_sign" (defArgs sOctetsOfSign) (defBody sOctetsOfSign) (defScope sOctetsOfSign) .none kV6 dc6 pm6 an6 cd6 ct6), sl6⟩) (c6 : PySem.W.codeIn K cd6 "_octets_of_sign" = true) (k6 : PySem.W.keepIn K (.ref f6) = true)
    (a7 : PySem.W.nsIn K mainGlobals "_size_from" = some (some (.ref f7))) (l7 : K.lookup f7 = some ⟨oc7, od7, .func (PySem.W.fnOf "_size_from" "_size_from" (defArgs sSizeFrom) (defBody sSizeFrom) (defScope sSizeFrom) .none kV7 dc7 pm7 an7 cd7 ct7), sl7⟩) (c7 : PySem.W.codeIn K cd7 "_size_from" = true) (k7 : PySem.W.keepIn K (.ref f7) = true)
    (a8 : PySem.W.nsIn K mainGlobals "_sign_of_octets" = some (some (.ref f8))) (l8 : K.lookup f8 = some ⟨oc8, od8, .func (PySem.W.fnOf "_sign_of_octets" "_sign_of_octets" (defArgs sSignOfOctets) (defBody sSignOfOctets) (defScope sSignOfOctets) .none kV8 dc8 pm8 an8 cd8 ct8), sl8⟩) (c8 : PySem.W.codeIn K cd8 "_sign_of_octets" = true) (k8 : PySem.W.keepIn K (.ref f8) = true)
    (a9 : PySem.W.nsIn K mainGlobals "_law_cell_at" = some (some (.ref f9))) (l9 : K.lookup f9 = some ⟨oc9, od9, .func (PySem.W.fnOf "_law_cell_at" "_law_cell_at" (defArgs sCellAt) (defBody sCellAt) (defScope sCellAt) .none kV9 dc9 pm9 an9 cd9 ct9), sl9⟩) (c9 : PySem.W.codeIn K cd9 "_law_cell_at" = true) (k9 : PySem.W.keepIn K (.ref f9) = true)
    (a10 : PySem.W.nsIn K mainGlobals "_law_mixed" = some (some (.ref f10))) (l10 : K.lookup f10 = some ⟨oc10, od10, .func (PySem.W.fnOf "_law_mixed" "_law_mixed" (defArgs sMixed) (defBody sMixed) (defScope sMixed) .none kV10 dc10 pm10 an10 cd10 ct10), sl10⟩) (c10 : PySem.W.codeIn K cd10 "_law_mixed" = true) (k10 : PySem.W.keepIn K (.ref f10) = true)
    (a11 : PySem.W.nsIn K mainGlobals "_law_source" = some (some (.ref f11))) (l11 : K.lookup f11 = some ⟨oc11, od11, .func (PySem.W.fnOf "_law_source" "_law_source" (defArgs sSource) (defBody sSource) (defScope sSource) .none kV11 dc11 pm11 an11 cd11 ct11), sl11⟩) (c11 : PySem.W.codeIn K cd11 "_law_source" = true) (k11 : PySem.W.keepIn K (.ref f11) = true)
    (a12 : PySem.W.nsIn K mainGlobals "_law_next" = some (some (.ref f12))) (l12 : K.lookup f12 = some ⟨oc12, od12, .func (PySem.W.fnOf "_law_next" "_law_next" (defArgs sNext) (defBody sNext) (defScope sNext) .none kV12 dc12 pm12 an12 cd12 ct12), sl12⟩) (c12 : PySem.W.codeIn K cd12 "_law_next" = true) (k12 : PySem.W.keepIn K (.ref f12) = true)
    (a13 : PySem.W.nsIn K mainGlobals "_law_saying" = some (some (.ref f13))) (l13 : K.lookup f13 = some ⟨oc13, od13, .func (PySem.W.fnOf "_law_saying" "_law_saying" (defArgs sLawSaying) (defBody sLawSaying) (defScope sLawSaying) .none kV13 dc13 pm13 an13 cd13 ct13), sl13⟩) (c13 : PySem.W.codeIn K cd13 "_law_saying" = true) (k13 : PySem.W.keepIn K (.ref f13) = true)
    (a14 : PySem.W.nsIn K mainGlobals "_law_octets_of" = some (some (.ref f14))) (l14 : K.lookup f14 = some ⟨oc14, od14, .func (PySem.W.fnOf "_law_octets_of" "_law_octets_of" (defArgs sLawOctetsOf) (defBody sLawOctetsOf) (defScope sLawOctetsOf) .none kV14 dc14 pm14 an14 cd14 ct14), sl14⟩) (c14 : PySem.W.codeIn K cd14 "_law_octets_of" = true) (k14 : PySem.W.keepIn K (.ref f14) = true)
    (a15 : PySem.W.nsIn K mainGlobals "_law_sign" = some (some (.ref f15))) (l15 : K.lookup f15 = some ⟨oc15, od15, .func (PySem.W.fnOf "_law_sign" "_law_sign" (defArgs sLawSign) (defBody sLawSign) (defScope sLawSign) .none kV15 dc15 pm15 an15 cd15 ct15), sl15⟩) (c15 : PySem.W.codeIn K cd15 "_law_sign" = true) (k15 : PySem.W.keepIn K (.ref f15) = true)
    (a16 : PySem.W.nsIn K mainGlobals "_law_signs_of" = some (some (.ref f16))) (l16 : K.lookup f16 = some ⟨oc16, od16, .func (PySem.W.fnOf "_law_signs_of" "_law_signs_of" (defArgs sLawSignsOf) (defBody sLawSignsOf) (defScope sLawSignsOf) .none kV16 dc16 pm16 an16 cd16 ct16), sl16⟩) (c16 : PySem.W.codeIn K cd16 "_law_signs_of" = true) (k16 : PySem.W.keepIn K (.ref f16) = true)
    (a17 : PySem.W.nsIn K mainGlobals "_law_odd" = some (some (.ref f17))) (l17 : K.lookup f17 = some ⟨oc17, od17, .func (PySem.W.fnOf "_law_odd" "_law_odd" (defArgs sLawOdd) (defBody sLawOdd) (defScope sLawOdd) .none kV17 dc17 pm17 an17 cd17 ct17), sl17⟩) (c17 : PySem.W.codeIn K cd17 "_law_odd" = true) (k17 : PySem.W.keepIn K (.ref f17) = true)
    (a18 : PySem.W.nsIn K mainGlobals "_law_spoilt" = some (some (.ref f18))) (l18 : K.lookup f18 = some ⟨oc18, od18, .func (PySem.W.fnOf "_law_spoilt" "_law_spoilt" (defArgs sLawSpoilt) (defBody sLawSpoilt) (defScope sLawSpoilt) .none kV18 dc18 pm18 an18 cd18 ct18), sl18⟩) (c18 : PySem.W.codeIn K cd18 "_law_spoilt" = true) (k18 : PySem.W.keepIn K (.ref f18) = true)
    (a19 : PySem.W.nsIn K mainGlobals "_law_any" = some (some (.ref f19))) (l19 : K.lookup f19 = some ⟨oc19, od19, .func (PySem.W.fnOf "_law_any" "_law_any" (defArgs sLawAny) (defBody sLawAny) (defScope sLawAny) .none kV19 dc19 pm19 an19 cd19 ct19), sl19⟩) (c19 : PySem.W.codeIn K cd19 "_law_any" = true) (k19 : PySem.W.keepIn K (.ref f19) = true)
    (a20 : PySem.W.nsIn K mainGlobals "_law_said" = some (some (.ref f20))) (l20 : K.lookup f20 = some ⟨oc20, od20, .func (PySem.W.fnOf "_law_said" "_law_said" (defArgs sLawSaid) (defBody sLawSaid) (defScope sLawSaid) .none kV20 dc20 pm20 an20 cd20 ct20), sl20⟩) (c20 : PySem.W.codeIn K cd20 "_law_said" = true) (k20 : PySem.W.keepIn K (.ref f20) = true)
    (a21 : PySem.W.nsIn K mainGlobals "law" = some (some (.ref f21))) (l21 : K.lookup f21 = some ⟨oc21, od21, .func (PySem.W.fnOf "law" "law" (defArgs sLaw) (defBody sLaw) (defScope sLaw) .none kV21 dc21 pm21 an21 cd21 ct21), sl21⟩) (c21 : PySem.W.codeIn K cd21 "law" = true) (k21 : PySem.W.keepIn K (.ref f21) = true)
    (z1 : PySem.W.nsIn K mainGlobals "isinstance" = some none) (z2 : PySem.W.nsIn K mainGlobals "int" = some none) (z3 : PySem.W.nsIn K mainGlobals "bool" = some none) (z4 : PySem.W.nsIn K mainGlobals "list" = some none) (z5 : PySem.W.nsIn K mainGlobals "all" = some none) (z6 : PySem.W.nsIn K mainGlobals "len" = some none) (z7 : PySem.W.nsIn K mainGlobals "range" = some none) (z8 : PySem.W.nsIn K mainGlobals "max" = some none) (z9 : PySem.W.nsIn K mainGlobals "min" = some none) (v1 : PySem.W.nsIn K mainGlobals "BLANK" = some (some (.int 32 tk1))) (v2 : PySem.W.nsIn K mainGlobals "GREATEST_SIGN" = some (some (.int 65535 tk2))) :
    ∃ fd : FuncData, (∀ (s : Shared) (v : Value), BindsTo s fd ⟨[v], []⟩ [("_law_script", v)]) ∧ ∀ base : Heap, K.In base → base.Ns mainGlobals mg → FnOk l.prog w K mg base CX0 6 fa fd ["_law_script"] (spLaw K) := by
  have e := hfa.symm.trans (PySem.W.mg_of X G a21)
  cases e
  have m_ValueError : mg "ValueError" = none := PySem.W.mg_none_of X G zVE
  have m_LetterError := PySem.W.mg_of X G gL
  have FL : FunA K "LetterError.__init__" sLE [.str ""] fL _ := ⟨⟨_, _, _, _, _, _, _, _, _, _, rfl, lL, cL, .inr ⟨by simp, TL, _, [.str ("" : Str) tkL], nTL, rfl, dL, rfl, .cons ⟨tkL, rfl⟩ .nil⟩, .inl rfl⟩, kL⟩
  have TLc : ClsFn K CL fL := ⟨gaL, rdL, atL, kL⟩
  have m_NoSaying := PySem.W.mg_of X G gC
  have FC : FunA K "NoSaying.__init__" sNS [.int 0] fC _ := ⟨⟨_, _, _, _, _, _, _, _, _, _, rfl, lC, cC, .inr ⟨by simp, TC, _, [.int 0 tkC], nTC, rfl, dC, rfl, .cons ⟨tkC, rfl⟩ .nil⟩, .inl rfl⟩, kC⟩
  have OC : OexC K C := ⟨⟨nmC, qC, NC, bsC, bmC, snC, subC, abC, colC, ddC, m0C, m1C, m2C, m3C, m5C, xC, rvC⟩, saC, exC, tyC, kcC⟩
  have ECC : ExcC K C := ⟨hgC, hkC, exC, hdC, haC, hn0, ht0, hmC⟩
  have teC : PySem.W.exmOne K (.ref C) (.ref CL) = some true := PySem.W.exm_ref exL hdL tyL suC
  have XFC : XfC K C := ⟨hgC, hkC, exC, hdC⟩
  have m_NoOctets := PySem.W.mg_of X G gCN
  have OCN : OexC K CN := ⟨⟨nmCN, qCN, NCN, bsCN, bmCN, snCN, subCN, abCN, colCN, ddCN, m0CN, m1CN, m2CN, m3CN, m5CN, xCN, rvCN⟩, saCN, exCN, tyCN, kcCN⟩
  have ECCN : ExcC K CN := ⟨hgCN, hkCN, exCN, hdCN, haCN, hn0, ht0, hmCN⟩
  have teCN : PySem.W.exmOne K (.ref CN) (.ref CL) = some true := PySem.W.exm_ref exL hdL tyL suCN
  have XFCN : XfC K CN := ⟨hgCN, hkCN, exCN, hdCN⟩
  have kitN : PySem.W.kitOne K (.ref C) (.ref CN) = some false := kit_own kitNn kitNt kitNd kitNs
  have A1 : FnAt K mg "is_whole" sIsWhole := ⟨f1, _, fun_mk (st := sIsWhole) l1 c1 k1, PySem.W.mg_of X G a1⟩
  have A2 : FnAt K mg "is_octets" sIsOctets := ⟨f2, _, fun_mk (st := sIsOctets) l2 c2 k2, PySem.W.mg_of X G a2⟩
  have A3 : FnAt K mg "_is_octet" sIsOctet := ⟨f3, _, fun_mk (st := sIsOctet) l3 c3 k3, PySem.W.mg_of X G a3⟩
  have A4 : FnAt K mg "saying_of" sSayingOf := ⟨f4, _, fun_mk (st := sSayingOf) l4 c4 k4, PySem.W.mg_of X G a4⟩
  have A5 : FnAt K mg "_is_sign" sIsSaySign := ⟨f5, _, fun_mk (st := sIsSaySign) l5 c5 k5, PySem.W.mg_of X G a5⟩
  have A6 : FnAt K mg "_octets_of_sign" sOctetsOfSign := ⟨f6, _, fun_mk (st := sOctetsOfSign) l6 c6 k6, PySem.W.mg_of X G a6⟩
  have A7 : FnAt K mg "_size_from" sSizeFrom := ⟨f7, _, fun_mk (st := sSizeFrom) l7 c7 k7, PySem.W.mg_of X G a7⟩
  have A8 : FnAt K mg "_sign_of_octets" sSignOfOctets := ⟨f8, _, fun_mk (st := sSignOfOctets) l8 c8 k8, PySem.W.mg_of X G a8⟩
  have A9 : FnAt K mg "_law_cell_at" sCellAt := ⟨f9, _, fun_mk (st := sCellAt) l9 c9 k9, PySem.W.mg_of X G a9⟩
  have A10 : FnAt K mg "_law_mixed" sMixed := ⟨f10, _, fun_mk (st := sMixed) l10 c10 k10, PySem.W.mg_of X G a10⟩
  have A11 : FnAt K mg "_law_source" sSource := ⟨f11, _, fun_mk (st := sSource) l11 c11 k11, PySem.W.mg_of X G a11⟩
  have A12 : FnAt K mg "_law_next" sNext := ⟨f12, _, fun_mk (st := sNext) l12 c12 k12, PySem.W.mg_of X G a12⟩
  have A13 : FnAt K mg "_law_saying" sLawSaying := ⟨f13, _, fun_mk (st := sLawSaying) l13 c13 k13, PySem.W.mg_of X G a13⟩
  have A14 : FnAt K mg "_law_octets_of" sLawOctetsOf := ⟨f14, _, fun_mk (st := sLawOctetsOf) l14 c14 k14, PySem.W.mg_of X G a14⟩
  have A15 : FnAt K mg "_law_sign" sLawSign := ⟨f15, _, fun_mk (st := sLawSign) l15 c15 k15, PySem.W.mg_of X G a15⟩
  have A16 : FnAt K mg "_law_signs_of" sLawSignsOf := ⟨f16, _, fun_mk (st := sLawSignsOf) l16 c16 k16, PySem.W.mg_of X G a16⟩
  have A17 : FnAt K mg "_law_odd" sLawOdd := ⟨f17, _, fun_mk (st := sLawOdd) l17 c17 k17, PySem.W.mg_of X G a17⟩
  have A18 : FnAt K mg "_law_spoilt" sLawSpoilt := ⟨f18, _, fun_mk (st := sLawSpoilt) l18 c18 k18, PySem.W.mg_of X G a18⟩
  have A19 : FnAt K mg "_law_any" sLawAny := ⟨f19, _, fun_mk (st := sLawAny) l19 c19 k19, PySem.W.mg_of X G a19⟩
  have A20 : FnAt K mg "_law_said" sLawSaid := ⟨f20, _, fun_mk (st := sLawSaid) l20 c20 k20, PySem.W.mg_of X G a20⟩
  have F21 := fun_mk (st := sLaw) l21 c21 k21
  have m_isinstance : mg "isinstance" = none := PySem.W.mg_none_of X G z1
  have m_int : mg "int" = none := PySem.W.mg_none_of X G z2
  have m_bool : mg "bool" = none := PySem.W.mg_none_of X G z3
  have m_list : mg "list" = none := PySem.W.mg_none_of X G z4
  have m_all : mg "all" = none := PySem.W.mg_none_of X G z5
  have m_len : mg "len" = none := PySem.W.mg_none_of X G z6
  have m_range : mg "range" = none := PySem.W.mg_none_of X G z7
  have m_max : mg "max" = none := PySem.W.mg_none_of X G z8
  have m_min : mg "min" = none := PySem.W.mg_none_of X G z9
  have m_BLANK := PySem.W.mg_of X G v1
  have m_GREATEST_SIGN := PySem.W.mg_of X G v2
  refine ⟨PySem.W.fnOf "law" "law" (defArgs sLaw) (defBody sLaw) (defScope sLaw) .none kV21 dc21 pm21 an21 cd21 ct21, fun s v => .of_eq rfl, fun base _ _ => ?_⟩
  have MC := mk_NS (P := l.prog) (w := w) (base := base) FC FL TLc m_LetterError m_ValueError vV OC noC m_NoSaying iC tiC
  have MCN : MkN l.prog w K mg base "NoOctets" CN := ⟨OCN, m_NoOctets, fL, _, iCN, tifL, ok_LE FL m_ValueError vV, bind_LE FL⟩
  have R1 := r_is_whole (P := l.prog) (w := w) (base := base) A1 m_isinstance m_int m_bool
  have R2 := r_is_say_sign (FnAt.as A5) R1 m_BLANK m_GREATEST_SIGN
  have R3 := r_is_octet A3 R1
  have R4 := r_is_octets A2 R3 m_isinstance m_list m_all
  have R6 := r_octets_of_sign (P := l.prog) (w := w) (base := base) A6
  have R7 := r_size_from (P := l.prog) (w := w) (base := base) A7
  have R8 := r_sign_of_octets A8 R6 R2 m_len
  have R11 := x_saying_of MC MCN A4 R4 R7 R8 m_len
  have R13 := r_cell_at (P := l.prog) (w := w) (base := base) A9 m_len
  have R14 := r_mixed (P := l.prog) (w := w) (base := base) A10
  have R15 := r_source A11 R13 R14 m_len
  have R16 := r_next A12 R14
  have R17 := r_law_saying A13 R16 m_len m_range
  have R18 := r_law_octets_of (P := l.prog) (w := w) (base := base) A14
  have R19 := r_law_sign (P := l.prog) (w := w) (base := base) A15
  have R20 := r_signs_of A16 R19 m_len
  have R21 := r_odd A17 R16 m_int
  have R22 := r_spoilt A18 R16 R21 m_len
  have R23 := r_any A19 R16 R21 m_int m_range
  have teS : PySem.W.exmOne K (.ref C) (.ref C) = some true := PySem.W.exm_ref exC hdC tyC suSelf
  have TC : CaughtS K mg C CN := ⟨m_NoSaying, m_NoOctets, teS, ECC, XFC, noC, kitN, kit_ve suVE⟩
  have R24 := r_said TC A20 R11.x m_isinstance m_int m_ValueError
  exact ok_law F21 R15 R18 R17 R23 R20 R24 R22 m_len m_range m_max m_min m_list
end FL
open PySem PySem.W PyProof.Rows
set_option maxRecDepth 100000 in
set_option maxHeartbeats 8000000 in
theorem PySem.Challenge.cw_foldletter_k11_octets_that_tell_no_sayin_holds : PySem.Challenge.rw_foldletter_k11_octets_that_tell_no_sayin.Holds := by
  w_on; o_law; k_head; (case hw => w_witness2)
  k_fill
  refine L2.walk_of (l := PySem.Challenge.rw_foldletter_k11_octets_that_tell_no_sayin) (n := 63) (k := 6) (x := "_law_script") (CX := fun _ => L2.CX0) (sp := fun w => FL.spLaw _) rfl (by decide) rfl ⟨rfl, by decide, by decide⟩ (fun w h Y => PySem.W.kIn_of Y) ?F (fun _ _ a ns hl _ hS => ⟨a, ns, rfl, hS, hl, fun _ => rfl⟩) (fun _ _ _ _ _ h => h)
  case F =>
    intro w mg fa h KX G hmg
    refine' FL.all_mk KX G hmg ?gL ?iL ?lL ?cL ?kL ?dL ?gaL ?rdL ?atL ?vV ?zVE ?exL ?hdL ?tyL ?tifL ?gC ?xC ?rvC ?saC ?exC ?tyC ?kcC ?noC ?iC ?tiC ?lC ?cC ?kC ?dC ?hgC ?hkC ?hdC ?haC ?hmC ?suC ?gCN ?xCN ?rvCN ?saCN ?exCN ?tyCN ?kcCN ?iCN ?hgCN ?hkCN ?hdCN ?haCN ?hmCN ?suCN ?hn0 ?ht0 ?suSelf ?suVE ?kitNt ?kitNd ?kitNs ?kitNn ?a1 ?l1 ?c1 ?k1 ?a2 ?l2 ?c2 ?k2 ?a3 ?l3 ?c3 ?k3 ?a4 ?l4 ?c4 ?k4 ?a5 ?l5 ?c5 ?k5 ?a6 ?l6 ?c6 ?k6 ?a7 ?l7 ?c7 ?k7 ?a8 ?l8 ?c8 ?k8 ?a9 ?l9 ?c9 ?k9 ?a10 ?l10 ?c10 ?k10 ?a11 ?l11 ?c11 ?k11 ?a12 ?l12 ?c12 ?k12 ?a13 ?l13 ?c13 ?k13 ?a14 ?l14 ?c14 ?k14 ?a15 ?l15 ?c15 ?k15 ?a16 ?l16 ?c16 ?k16 ?a17 ?l17 ?c17 ?k17 ?a18 ?l18 ?c18 ?k18 ?a19 ?l19 ?c19 ?k19 ?a20 ?l20 ?c20 ?k20 ?a21 ?l21 ?c21 ?k21 ?z1 ?z2 ?z3 ?z4 ?z5 ?z6 ?z7 ?z8 ?z9 ?v1 ?v2
    (case gL => k_is); (case iL => k_is); (case lL => k_is); (case cL => k_is); (case kL => k_is); (case dL => k_is); (case gaL => k_is); (case rdL => k_is); (case atL => k_is); (case vV => k_is); (case zVE => k_is); (case exL => k_is); (case hdL => k_is); (case tyL => k_is); (case tifL => k_is); (case gC => k_is); (case xC => k_is); (case rvC => first | rfl | k_is); (case saC => k_is); (case exC => k_is); (case tyC => k_is); (case kcC => k_is); (case noC => k_is); (case iC => k_is); (case tiC => k_is); (case lC => k_is); (case cC => k_is); (case kC => k_is); (case dC => k_is); (case hgC => k_is); (case hkC => k_is); (case hdC => k_is); (case haC => k_is); (case hmC => k_is); (case suC => k_is); (case gCN => k_is); (case xCN => k_is); (case rvCN => first | rfl | k_is); (case saCN => k_is); (case exCN => k_is); (case tyCN => k_is); (case kcCN => k_is); (case iCN => k_is); (case hgCN => k_is); (case hkCN => k_is); (case hdCN => k_is); (case haCN => k_is); (case hmCN => k_is); (case suCN => k_is); (case hn0 => k_is); (case ht0 => k_is); (case suSelf => k_is); (case suVE => k_is); (case kitNt => k_is); (case kitNd => k_is); (case kitNs => k_is); (case kitNn => first | rfl | k_is); (case a1 => k_is); (case l1 => k_is); (case c1 => k_is); (case k1 => k_is); (case a2 => k_is); (case l2 => k_is); (case c2 => k_is); (case k2 => k_is); (case a3 => k_is); (case l3 => k_is); (case c3 => k_is); (case k3 => k_is); (case a4 => k_is); (case l4 => k_is); (case c4 => k_is); (case k4 => k_is); (case a5 => k_is); (case l5 => k_is); (case c5 => k_is); (case k5 => k_is); (case a6 => k_is); (case l6 => k_is); (case c6 => k_is); (case k6 => k_is); (case a7 => k_is); (case l7 => k_is); (case c7 => k_is); (case k7 => k_is); (case a8 => k_is); (case l8 => k_is); (case c8 => k_is); (case k8 => k_is); (case a9 => k_is); (case l9 => k_is); (case c9 => k_is); (case k9 => k_is); (case a10 => k_is); (case l10 => k_is); (case c10 => k_is); (case k10 => k_is); (case a11 => k_is); (case l11 => k_is); (case c11 => k_is); (case k11 => k_is); (case a12 => k_is); (case l12 => k_is); (case c12 => k_is); (case k12 => k_is); (case a13 => k_is); (case l13 => k_is); (case c13 => k_is); (case k13 => k_is); (case a14 => k_is); (case l14 => k_is); (case c14 => k_is); (case k14 => k_is); (case a15 => k_is); (case l15 => k_is); (case c15 => k_is); (case k15 => k_is); (case a16 => k_is); (case l16 => k_is); (case c16 => k_is); (case k16 => k_is); (case a17 => k_is); (case l17 => k_is); (case c17 => k_is); (case k17 => k_is); (case a18 => k_is); (case l18 => k_is); (case c18 => k_is); (case k18 => k_is); (case a19 => k_is); (case l19 => k_is); (case c19 => k_is); (case k19 => k_is); (case a20 => k_is); (case l20 => k_is); (case c20 => k_is); (case k20 => k_is); (case a21 => k_is); (case l21 => k_is); (case c21 => k_is); (case k21 => k_is); (case z1 => k_is); (case z2 => k_is); (case z3 => k_is); (case z4 => k_is); (case z5 => k_is); (case z6 => k_is); (case z7 => k_is); (case z8 => k_is); (case z9 => k_is); (case v1 => k_is); (case v2 => k_is)
