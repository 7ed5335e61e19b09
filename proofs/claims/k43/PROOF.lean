import PyProof.Rows.All
import Wide.All
import OpenK.AllK
import Wide.FinOn
import PySem.Challenge.RW_foldletter_k43_texts_by_marks_read
import HandS.ForMost
import HandS.Walk
import HandS.IsInst
import HandS.Wide
import HandS.ReplaceDef
import HandS.ReplaceLit
import HandS.ReplaceList
import HandS.StrMore
import HandS.ExcInit
import HandS.ExcIs
import HandS.ExcField
import HandS.Defaults
import HandS.TryOnly
import HandS.WordsExc
import HandS.Rev
import HandS.Conv
import HandS.ClsMeth
import HandS.FStr
import HandS.Flow
import HandS.Style
import HandS.Strs
import PyProof.FString3
import KE.GoesEnum
import HandS.More
import HandS.CallLocal
import HandS.Text
set_option Elab.async false
set_option linter.all false
set_option maxRecDepth 100000
set_option maxHeartbeats 4000000
namespace FL
open PySem PySem.Spec PyProof.Rows L2
def topS (i : Nat) : Stmt := PySem.Challenge.pw_foldletter_k43_texts_by_marks_read.main.body.getD i (.Pass ⟨0, 0, 0, 0⟩)
abbrev cLetterError : Stmt := topS 1
abbrev cNoOctets : Stmt := topS 2
abbrev cNoCode : Stmt := topS 3
abbrev sIsText : Stmt := topS 9
abbrev sIsNumbered : Stmt := topS 10
abbrev sTextOf : Stmt := topS 11
abbrev sNumbersOf : Stmt := topS 12
abbrev sIsSign : Stmt := topS 13
abbrev sSignOf : Stmt := topS 14
abbrev sReadBy : Stmt := topS 20
abbrev sSixesOf : Stmt := topS 21
abbrev sBySixteen : Stmt := topS 22
abbrev sCheckCode : Stmt := topS 23
abbrev sIsPlain : Stmt := topS 24
abbrev sWritePlain : Stmt := topS 25
abbrev sReadPlain : Stmt := topS 26
abbrev sWriteSixes : Stmt := topS 27
abbrev sFourOf : Stmt := topS 28
abbrev sReadSixes : Stmt := topS 29
abbrev sMayFill : Stmt := topS 30
abbrev sOctetsOfFour : Stmt := topS 31
abbrev sWriteMarks : Stmt := topS 32
abbrev sUnitAt : Stmt := topS 33
abbrev sReadMarks : Stmt := topS 34
abbrev sReadStretch : Stmt := topS 35
abbrev sReadEquals : Stmt := topS 36
abbrev sBlanksEnd : Stmt := topS 37
abbrev sFigureAt : Stmt := topS 38
abbrev sCellAt : Stmt := topS 42
abbrev sMixed : Stmt := topS 43
abbrev sSource : Stmt := topS 44
abbrev sNext : Stmt := topS 45
abbrev sLawRow : Stmt := topS 46
abbrev sLawText : Stmt := topS 47
abbrev sLawUnits : Stmt := topS 48
abbrev sLawMarks : Stmt := topS 49
abbrev sLawTouched : Stmt := topS 50
abbrev sLawLoose : Stmt := topS 51
abbrev sLawNumbers : Stmt := topS 52
abbrev sLawLine : Stmt := topS 53
abbrev sDue : Stmt := topS 54
abbrev sLawSaid : Stmt := topS 55
abbrev sLaw : Stmt := topS 56
end FL

namespace FL
open PySem PySem.Spec PyProof.Rows L2
/-! ### small words -/
theorem pe_weak {X : Cx} {e : Expr} {t t' : TE} (h : PE X e t) (m : ∀ σ H Q, t' σ H Q → t σ H Q) : PE X e t' := ⟨fun pins s σ H Q I q => h.run pins s σ H Q I (m σ H Q q)⟩
theorem lt_one {a b : Nat} : ((([a] : List Nat) < [b])) ↔ a < b := by
  rw [List.cons_lt_cons_iff]
  simp
theorem bl_to {Q : V → Hp → Prop} {H : Hp} {a b : Bool} (e : a = b) (q : Q (.bl b) H) : Q (.bl a) H := by
  rw [e]
  exact q
def tBtw (i lo hi : Nat) : TE := fun σ H Q => ∃ c : Nat, σ[i]? = some (some (.str ⟨#[c]⟩)) ∧ Q (.bl (decide (lo ≤ c ∧ c ≤ hi))) H
theorem pe_btw {X : Cx} (i : Nat) {x a b : Str} {lo hi k1 k2 : Nat} {p1 p2 p3 pos : Pos} (ea : a.cps.toList = [lo]) (eb : b.cps.toList = [hi]) (hx : PE X (.Name x p2) (tVar i))
    (hm : lastMarks [.LtE, .LtE] [.Name x p2, .Constant (.str b) k2 p3] = false := by with_unfolding_all rfl) :
    PE X (.Compare (.Constant (.str a) k1 p1) [.LtE, .LtE] [.Name x p2, .Constant (.str b) k2 p3] pos) (tBtw i lo hi) := by
  refine pe_weak (pe_chain op_le_str op_le_str pe_str hx pe_str hm) ?_
  rintro σ H Q ⟨c, hc, q⟩
  refine ⟨_, hc, _, _, rfl, rfl, _, rfl, ?_⟩
  have e1 : (!decide (((⟨#[c]⟩ : Str).cps.toList) < a.cps.toList)) = decide (lo ≤ c) := by
    rw [ea]
    show (!decide (([c] : List Nat) < [lo])) = decide (lo ≤ c)
    rw [decide_eq_decide.mpr (lt_one (a := c) (b := lo))]
    by_cases h : lo ≤ c
    · rw [decide_eq_true h, decide_eq_false (by omega)]; rfl
    · rw [decide_eq_false h, decide_eq_true (by omega)]; rfl
  have e2 : (!decide (b.cps.toList < ((⟨#[c]⟩ : Str).cps.toList))) = decide (c ≤ hi) := by
    rw [eb]
    show (!decide (([hi] : List Nat) < [c])) = decide (c ≤ hi)
    rw [decide_eq_decide.mpr (lt_one (a := hi) (b := c))]
    by_cases h : c ≤ hi
    · rw [decide_eq_true h, decide_eq_false (by omega)]; rfl
    · rw [decide_eq_false h, decide_eq_true (by omega)]; rfl
  rw [e1]
  by_cases h1 : lo ≤ c
  · rw [decide_eq_true h1, if_pos rfl]
    refine ⟨_, _, rfl, rfl, bl_to e2 (bl_to ?_ q)⟩
    by_cases h2 : c ≤ hi
    · rw [decide_eq_true h2, decide_eq_true ⟨h1, h2⟩]
    · rw [decide_eq_false h2, decide_eq_false (fun z => h2 z.2)]
  · rw [decide_eq_false h1, if_neg Bool.false_ne_true]
    exact bl_to (decide_eq_false (fun z => h1 z.1)).symm q
/-- x or y of two truths -/
theorem pe_orB {X : Cx} {a b : Expr} {rest : List Expr} {pos : Pos} {ta tb : TE} (ha : PE X a ta) (hb : PE X (.BoolOp .Or (b :: rest) pos) tb) :
    PE X (.BoolOp .Or (a :: b :: rest) pos) (tOrV ta tb) := pe_or ha hb
/-! ### what stands where -/
structure FnAt (K : PySem.W.Frag) (mg : Str → Option Value) (x : Str) (st : Stmt) : Prop where
  ex : ∃ f fd, Fun K x x st f fd ∧ mg x = some (.ref f)
def Ready (P : Program) (w : World) (K : PySem.W.Frag) (mg : Str → Option Value) (base : Heap) (k : Nat) (x : Str) (ps : List Str) (sp : Sp) : Prop :=
  ∃ f fd, mg x = some (.ref f) ∧ PySem.W.keepIn K (.ref f) = true ∧ Binds K fd ps [] ∧ FnOk P w K mg base CX0 k f fd ps sp
section
variable {P : Program} {w : World} {K : PySem.W.Frag} {mg : Str → Option Value} {base : Heap}
theorem ready_of {x : Str} {st : Stmt} {k : Nat} {ps : List Str} {sp : Sp} (A : FnAt K mg x st)
    (hb : ∀ (kV doc pm : Value) (an : Option Addr) (cdv ct : Value) (us : List Value), us.length = ps.length → bindArgs (PySem.W.fnOf x x (defArgs st) (defBody st) (defScope st) .none kV doc pm an cdv ct) ⟨us, []⟩ = pure (ps.zip us))
    (ok : ∀ f fd, Fun K x x st f fd → FnOk P w K mg base CX0 k f fd ps sp) : Ready P w K mg base k x ps sp := by
  obtain ⟨f, fd, F, g⟩ := A.ex
  exact ⟨f, fd, g, F.kp, F.binds hb, ok f fd F⟩
/-! ### the mathematics of signs -/
def isLet (c : Nat) : Bool := decide (97 ≤ c ∧ c ≤ 122) || decide (65 ≤ c ∧ c ≤ 90)
def isFig (c : Nat) : Bool := decide (48 ≤ c ∧ c ≤ 57)
def isSig (c : Nat) : Bool := decide (c = 10) || (decide (32 ≤ c ∧ c ≤ 126) && !decide (c = 37))
def atomSigns : List Nat := [33, 35, 36, 38, 39, 42, 43, 45, 46, 47, 61, 63, 94, 95, 96, 123, 124, 125, 126]
def isAtm (c : Nat) : Bool := isLet c || (isFig c || decide (c ∈ atomSigns))
def spSign (f : Nat → Bool) : Sp := fun vs H Q _ => ∃ c : Nat, vs = [.str ⟨#[c]⟩] ∧ Q (.bl (f c)) H
theorem str_one {c d : Nat} : (V.str ⟨#[c]⟩ = V.str ⟨#[d]⟩) ↔ c = d := by
  constructor
  · intro h
    injection h with h
    injection h with h
    have h2 := congrArg Array.toList h
    simpa using h2
  · intro h
    rw [h]
theorem scIsSign : FnScope ["sign"] ["sign"] (defScope sIsSign) := ⟨rfl, rfl, rfl, by decide +kernel, rfl, by decide +kernel, by decide +kernel⟩
theorem r_is_sign (A : FnAt K mg "_is_sign" sIsSign) (mo : mg "ord" = none) {tp : Tok} (mp : mg "PERCENT" = some (.int 37 tp)) : Ready P w K mg base 1 "_is_sign" ["sign"] (spSign isSig) := by
  refine ready_of A (fun _ _ _ _ _ _ us hl => match us, hl with | [_], _ => rfl) fun f fd F => ?_
  refine F.ok scIsSign (fun vs H Q E h => ?_) (fun cdv A outer s H vs Q E hr h => ?_)
  · obtain ⟨c, rfl, _⟩ := h
    rfl
  · obtain ⟨c, rfl, q⟩ := h
    refine ⟨_, pss_one (ps_ret (pe_or (pe_cmpR op_eq (pv 0) pe_str (nomark _)) (pe_one (pe_and (pe_btw (lo := 32) (hi := 126) 0 rfl rfl (pv 0))
      (pe_one (pe_cmpR op_ne (pe_callB call_ord (by rfl) mo (by decide +kernel) (pa_cons (pv 0) pa_nil)) (pe_glob (v := .int 37) rfl mp ⟨tp, rfl⟩) (nomark _))))))), ?_⟩
    refine ⟨_, rfl, rfl, _, rfl, ?_⟩
    have e1 : decide (V.str ⟨#[c]⟩ = V.str ("\n" : Str)) = decide (c = 10) := decide_eq_decide.mpr (str_one (d := 10))
    rw [e1]
    by_cases h1 : c = 10
    · rw [decide_eq_true h1, if_pos rfl]
      exact bl_to (by unfold isSig; rw [decide_eq_true h1]; rfl) q
    · rw [decide_eq_false h1, if_neg Bool.false_ne_true]
      refine ⟨c, rfl, _, rfl, ?_⟩
      by_cases h2 : 32 ≤ c ∧ c ≤ 126
      · rw [decide_eq_true h2, if_pos rfl]
        refine ⟨_, rfl, _, rfl, rfl, rfl, bl_to ?_ q⟩
        unfold isSig
        rw [decide_eq_false h1, decide_eq_true h2, Bool.false_or, Bool.true_and]
        show (!decide (V.int ((c : Nat) : Int) = V.int 37)) = !decide (c = 37)
        congr 1
        refine decide_eq_decide.mpr ⟨fun h => ?_, fun h => by rw [h]; rfl⟩
        injection h with h
        omega
      · rw [decide_eq_false h2, if_neg Bool.false_ne_true]
        exact bl_to (by unfold isSig; rw [decide_eq_false h1, decide_eq_false h2]; rfl) q
end
end FL

namespace FL
open PySem PySem.Spec PyProof.Rows L2
section
variable {P : Program} {w : World} {K : PySem.W.Frag} {mg : Str → Option Value} {base : Heap}
theorem szl {n : Nat} (h : n ≤ 10000) : n < sizeLine := Nat.lt_of_le_of_lt h (by decide)
theorem same_new {H : Hp} {p : Addr} {o : HO} (h : H p = none) : Same H (upd H p o) := fun b x e => by
  rw [upd_ne (ne_of_none e h)]
  exact e
/-- a store to what was not there at the start -/
theorem same_set {H H1 : Hp} {p : Addr} {o : HO} (s : Same H H1) (h : H p = none) : Same H (upd H1 p o) := fun b x e => by
  rw [upd_ne (ne_of_none e h)]
  exact s b x e
theorem take_more {α : Type} {l : List α} {i : Nat} {x : α} (h : l[i]? = some x) : l.take (i + 1) = l.take i ++ [x] := by
  rw [List.take_add_one, h]
  rfl
def allSig (l : List Nat) : Bool := l.all isSig
def isLn (l : List Nat) : Bool := allSig l && !decide (10 ∈ l)
/-- of a text f of its signs; of what is none, False -/
def spLine (K : PySem.W.Frag) (f : List Nat → Bool) : Sp := fun vs H Q _ => ∃ v, vs = [v] ∧
  ((∃ z : Str, v = .str z ∧ z.length ≤ 10000 ∧ ∀ H', Same H H' → Q (.bl (f z.cps.toList)) H') ∨ (∃ t, TyX K H v t ∧ PySem.W.kitOne K t (.type "str") = some false ∧ Q (.bl false) H))
theorem scIsText : FnScope ["value", "sign"] ["value"] (defScope sIsText) := ⟨rfl, rfl, rfl, by decide +kernel, rfl, by decide +kernel, by decide +kernel⟩
theorem r_is_text (A : FnAt K mg "is_text" sIsText) (RS : Ready P w K mg base 1 "_is_sign" ["sign"] (spSign isSig)) (mi : mg "isinstance" = none) (ms : mg "str" = none) (ma : mg "all" = none) :
    Ready P w K mg base 2 "is_text" ["value"] (spLine K allSig) := by
  obtain ⟨fS, fdS, gS, kS, bS, GS⟩ := RS
  refine ready_of A (fun _ _ _ _ _ _ us hl => match us, hl with | [_], _ => rfl) fun f fd F => ?_
  refine F.ok scIsText (fun vs H Q E h => ?_) (fun cdv A outer s H vs Q E hr h => ?_)
  · obtain ⟨v, rfl, _⟩ := h
    rfl
  · obtain ⟨v, rfl, q⟩ := h
    refine ⟨_, pss_one (ps_ret (pe_and (pe_callB call_isi (by rfl) mi (by decide +kernel) (pa_cons (pv 0) (pa_cons (pe_bltn (v := .ty "str") (by rfl) ms (by decide +kernel) rfl) pa_nil)))
      (pe_one (pe_callB (cr_all rfl) (by rfl) ma (by decide +kernel) (pa_cons (pe_lc (own := [("sign", 1)]) (g := gName 1) (tt := tYes) (by rfl) scIsText.nd (pi_str (pv 0))
        (blkOk_by (own := [("sign", 1)]) (N := ["value", "sign"]) (sc := defScope sIsText) (by decide +kernel)) (fun _ _ _ _ _ => pg_name (i := 1) scIsText.nd rfl (Or.inl rfl)) (fun _ _ _ _ _ => pts_nil)
        (fun _ _ _ _ _ => pe_call GS hr (by rfl) gS kS bS .nil pass0 (pa_cons (pv 1) pa_nil))) pa_nil))))), ?_⟩
    rcases q with ⟨z, rfl, hz, q⟩ | ⟨t, ht, hk, q⟩
    · refine ⟨_, rfl, _, _, .type "str", .type "str", true, rfl, ClsV.ty "str", .base (.str z), kit_ty (by decide +kernel), true, rfl, iteT ?_⟩
      refine ⟨_, rfl, z, rfl, fun D hD => ?_⟩
      refine lc_it walk_str (fun i H' => Same H H' ∧ H' D = some (.lst ((z.cps.toList.take i).map fun c => V.bl (isSig c)))) ⟨same_new hD, upd_same⟩ (fun _ _ _ _ => trivial) (fun i x H1 H2 hi hp hy => ?_) (fun H1 hp => ?_)
      · obtain ⟨rfl, c, hc, rfl⟩ := hy
        obtain ⟨sm, hd⟩ := hp
        have hc' : z.cps.toList[i]? = some c := by
          rw [Array.getElem?_toList]
          exact hc
        refine ⟨rfl, ?_⟩
        unfold tYes
        refine iteT ?_
        refine ⟨_, rfl, c, rfl, _, hd, ?_, same_set sm hD, ?_⟩
        · rw [List.length_map]
          exact Nat.lt_of_le_of_lt (List.length_take_le _ _) (szl (by have h2 : z.cps.size = z.length := rfl; omega))
        · rw [upd_same, take_more hc', List.map_append]
          rfl
      · obtain ⟨sm, hd⟩ := hp
        have e : z.cps.toList.take z.cps.size = z.cps.toList := List.take_of_length_le (by simp)
        rw [e] at hd
        refine ⟨D, z.cps.toList.map isSig, rfl, SqL.of (by rw [List.map_map]; exact hd), bl_to ?_ (q H1 sm)⟩
        unfold allSig
        rw [List.all_map]
        rfl
    · exact ⟨_, rfl, _, _, t, .type "str", false, rfl, ClsV.ty "str", ht, hk, false, rfl, iteF q⟩
theorem len_cps (z : Str) : z.cps.toList.length = z.length := by simp [Str.length]
end
end FL

namespace FL
open PySem PySem.Spec PyProof.Rows L2
section
variable {P : Program} {w : World} {K : PySem.W.Frag} {mg : Str → Option Value} {base : Heap}
def spCellAt (K : PySem.W.Frag) : Sp := fun vs H Q _ => ∃ (a : Addr) (ns : List Int) (k : Nat), vs = [.ref a, .int (k : Nat)] ∧ SqL K H a (ns.map V.int) ∧ ∀ x : Int, Q (.int x) H
theorem scCellAt : FnScope ["_law_script", "_law_k"] ["_law_script", "_law_k"] (defScope sCellAt) := ⟨rfl, rfl, rfl, by decide +kernel, rfl, by decide +kernel, by decide +kernel⟩
theorem r_cell_at (A : FnAt K mg "_law_cell_at" sCellAt) (ml : mg "len" = none) : Ready P w K mg base 1 "_law_cell_at" ["_law_script", "_law_k"] (spCellAt K) := by
  refine ready_of A (fun _ _ _ _ _ _ us hl => match us, hl with | [_, _], _ => rfl) fun f fd F => ?_
  refine F.ok scCellAt (fun vs H Q E h => ?_) (fun cdv A outer s H vs Q E hr h => ?_)
  · obtain ⟨a, ns, k, rfl, _⟩ := h
    rfl
  · obtain ⟨a, ns, k, rfl, hS, q⟩ := h
    refine ⟨_, pss_cons (ps_if (pt_cmpR op_lt (pv 1) (pe_callB call_len_seq (by rfl) ml PySem.boot_len (pa_cons (pv 0) pa_nil)) (nomark _)) (pss_one (ps_ret (pe_ix ix_list (pv 0) (pv 1) (fun _ _ => rfl)))) pss_nil)
      (pss_one (ps_ret pe_int)), ?_⟩
    refine ⟨_, rfl, _, rfl, a, _, rfl, .inl hS, _, _, rfl, rfl, _, rfl, ite2 (fun h => ?_) (fun h => ?_)⟩
    · have h1 : k < ns.length := by
        have := of_decide_eq_true h
        rw [List.length_map] at this
        omega
      refine ⟨_, rfl, _, rfl, a, _, _, _, rfl, rfl, hS, atI_nat (v := .int ns[k]) ?_, q _⟩
      rw [List.getElem?_map, List.getElem?_eq_getElem h1]
      rfl
    · exact q 0
def spMixed : Sp := fun vs H Q _ => ∃ (c k : Int), vs = [.int c, .int k] ∧ ∀ r : Int, 0 ≤ r → r < 2147483563 → Q (.int r) H
theorem scMixed : FnScope ["_law_cell", "_law_k", "_law_low"] ["_law_cell", "_law_k"] (defScope sMixed) := ⟨rfl, rfl, rfl, by decide +kernel, rfl, by decide +kernel, by decide +kernel⟩
theorem r_mixed (A : FnAt K mg "_law_mixed" sMixed) : Ready P w K mg base 1 "_law_mixed" ["_law_cell", "_law_k"] spMixed := by
  refine ready_of A (fun _ _ _ _ _ _ us hl => match us, hl with | [_, _], _ => rfl) fun f fd F => ?_
  refine F.ok scMixed (fun vs H Q E h => ?_) (fun cdv A outer s H vs Q E hr h => ?_)
  · obtain ⟨c, k, rfl, _⟩ := h
    rfl
  · obtain ⟨c, k, rfl, q⟩ := h
    refine ⟨_, pss_cons (ps_set (i := 2) scMixed.nd rfl (.inl rfl) (pe_op op_add (pe_op op_mod (pv 0) pe_int) (pe_op op_mul (pe_op op_fdivW (pv 0) pe_int) pe_int)))
      (pss_cons (ps_set (i := 2) scMixed.nd rfl (.inl rfl) (pe_op op_mod (pe_op op_mul (pe_op op_add (pe_op op_add (pv 2) (pe_op op_mul pe_int (pv 1))) pe_int) pe_int) pe_int))
      (pss_cons (ps_set (i := 2) scMixed.nd rfl (.inl rfl) (pe_op op_mod (pe_op op_mul (pv 2) (pe_op op_add (pe_op op_add (pe_op op_fdivN (pv 2) pe_int) pe_int) (pv 1))) pe_int))
      (pss_one (ps_ret (pe_op op_mod (pe_op op_mul (pv 2) (pe_op op_add (pe_op op_fdivN (pv 2) pe_int) pe_int)) pe_int))))), ?_⟩
    refine ⟨_, rfl, _, _, rfl, rfl, (show (0 : Int) < 2147483629 by decide), _, rfl, _, _, rfl, rfl, wide_div (b := 40) (by decide) (by decide) (by decide) (by decide), _, _, rfl, rfl, .inr (by decide), _, _, rfl, rfl, ?_⟩
    generalize c % 2147483629 + c / 2147483629 * 30011 = x1
    refine ⟨_, rfl, _, rfl, _, _, rfl, rfl, .inl (by decide), _, _, rfl, rfl, _, _, rfl, rfl, _, _, rfl, rfl, .inr (by decide), _, _, rfl, rfl, (show (0 : Int) < 2147483629 by decide), ?_⟩
    have a2 := Int.emod_nonneg ((x1 + 69621 * k + 1) * 48271) (by decide : (2147483629 : Int) ≠ 0)
    have b2 := Int.emod_lt_of_pos ((x1 + 69621 * k + 1) * 48271) (by decide : (0 : Int) < 2147483629)
    generalize ((x1 + 69621 * k + 1) * 48271) % 2147483629 = x2 at a2 b2
    refine ⟨_, rfl, _, rfl, _, _, rfl, rfl, ⟨by decide, by decide⟩, _, _, rfl, rfl, _, rfl, _, _, rfl, rfl, _, _, rfl, rfl, .inl ⟨by omega, by omega⟩, _, _, rfl, rfl, (show (0 : Int) < 2147483587 by decide), ?_⟩
    generalize hX : x2 * (x2.fdiv 907 + 16831 + k) = X3
    have a3 := Int.emod_nonneg X3 (by decide : (2147483587 : Int) ≠ 0)
    have b3 := Int.emod_lt_of_pos X3 (by decide : (0 : Int) < 2147483587)
    generalize X3 % 2147483587 = x3 at a3 b3
    refine ⟨_, rfl, _, rfl, _, _, rfl, rfl, ⟨by decide, by decide⟩, _, _, rfl, rfl, _, _, rfl, rfl, .inl ⟨by omega, by omega⟩, _, _, rfl, rfl, (show (0 : Int) < 2147483563 by decide), ?_⟩
    exact q _ (Int.emod_nonneg _ (by decide)) (Int.emod_lt_of_pos _ (by decide))
/-- a source: three numbers at a -/
def Src (H : Hp) (a : Addr) : Prop := ∃ x y z : Int, H a = some (.lst [.int x, .int y, .int z])
def spSource (K : PySem.W.Frag) : Sp := fun vs H Q _ => ∃ (a : Addr) (ns : List Int) (k : Nat), vs = [.ref a, .int (k : Nat)] ∧ SqL K H a (ns.map V.int) ∧ ∀ H' p, Same H H' → H p = none → Src H' p → Q (.ref p) H'
theorem scSource : FnScope ["_law_script", "_law_k", "_law_cell"] ["_law_script", "_law_k"] (defScope sSource) := ⟨rfl, rfl, rfl, by decide +kernel, rfl, by decide +kernel, by decide +kernel⟩
theorem r_source (A : FnAt K mg "_law_source" sSource) (RC : Ready P w K mg base 1 "_law_cell_at" ["_law_script", "_law_k"] (spCellAt K)) (RM : Ready P w K mg base 1 "_law_mixed" ["_law_cell", "_law_k"] spMixed) (ml : mg "len" = none) :
    Ready P w K mg base 2 "_law_source" ["_law_script", "_law_k"] (spSource K) := by
  obtain ⟨f1, fd1, g1, k1, b1, G1⟩ := RC
  obtain ⟨f2, fd2, g2, k2, b2, G2⟩ := RM
  refine ready_of A (fun _ _ _ _ _ _ us hl => match us, hl with | [_, _], _ => rfl) fun f fd F => ?_
  refine F.ok scSource (fun vs H Q E h => ?_) (fun cdv A outer s H vs Q E hr h => ?_)
  · obtain ⟨a, ns, k, rfl, _⟩ := h
    rfl
  · obtain ⟨a, ns, k, rfl, hS, q⟩ := h
    have ix : ∀ e1 e2, PlainIx (.Name e1 e2) := fun _ _ _ _ => rfl
    refine ⟨_, pss_cons (ps_if (pt_cmpR op_lt (pv 1) (pe_callB call_len_seq (by rfl) ml PySem.boot_len (pa_cons (pv 0) pa_nil)) (nomark _))
        (pss_one (ps_ret (pe_lst (pa_cons (pe_ix ix_list (pv 0) (pv 1) (fun _ _ => rfl)) (pa_cons (pe_ix ix_list (pv 0) (pv 1) (fun _ _ => rfl)) (pa_cons pe_int pa_nil)))))) pss_nil)
      (pss_cons (ps_set (i := 2) scSource.nd rfl (.inl rfl) (pe_call G2 hr (by rfl) g2 k2 b2 .nil pass0 (pa_cons (pe_call G1 hr (by rfl) g1 k1 b1 .nil pass0 (pa_cons (pv 0) (pa_cons pe_int pa_nil))) (pa_cons (pe_op op_add pe_int (pv 1)) pa_nil))))
      (pss_one (ps_ret (pe_lst (pa_cons (pv 2) (pa_cons (pv 2) (pa_cons pe_int pa_nil))))))), ?_⟩
    refine ⟨_, rfl, _, rfl, a, _, rfl, .inl hS, _, _, rfl, rfl, _, rfl, ite2 (fun h => ?_) (fun h => ?_)⟩
    · have h1 : k < ns.length := by
        have := of_decide_eq_true h
        rw [List.length_map] at this
        omega
      have g : (ns.map V.int)[k]? = some (.int ns[k]) := by
        rw [List.getElem?_map, List.getElem?_eq_getElem h1]
        rfl
      refine ⟨_, rfl, _, rfl, a, _, _, _, rfl, rfl, hS, atI_nat g, _, rfl, _, rfl, a, _, _, _, rfl, rfl, hS, atI_nat g, (by show 3 ≤ sizeLine; decide), fun l hl => ?_⟩
      exact q _ l (same_new hl) hl ⟨_, _, _, upd_same⟩
    · refine ⟨_, rfl, a, ns, 0, rfl, hS, fun x => ⟨_, rfl, _, _, rfl, rfl, x, _, rfl, fun r _ _ => ?_⟩⟩
      refine ⟨_, rfl, _, rfl, (by show 3 ≤ sizeLine; decide), fun l hl => ?_⟩
      exact q _ l (same_new hl) hl ⟨_, _, _, upd_same⟩
def spNext : Sp := fun vs H Q _ => ∃ (a : Addr) (m : Nat) (x y z : Int), vs = [.ref a, .int (m : Nat)] ∧ 1 ≤ m ∧ m ≤ 100000 ∧ H a = some (.lst [.int x, .int y, .int z]) ∧
  ∀ (r : Nat) (x' z' : Int), r < m → Q (.int (r : Nat)) (upd H a (.lst [.int x', .int y, .int z']))
theorem scNext : FnScope ["_law_source_here", "_law_many", "_law_found"] ["_law_source_here", "_law_many"] (defScope sNext) := ⟨rfl, rfl, rfl, by decide +kernel, rfl, by decide +kernel, by decide +kernel⟩
theorem r_next (A : FnAt K mg "_law_next" sNext) (RM : Ready P w K mg base 1 "_law_mixed" ["_law_cell", "_law_k"] spMixed) : Ready P w K mg base 2 "_law_next" ["_law_source_here", "_law_many"] spNext := by
  obtain ⟨f2, fd2, g2, k2, b2, G2⟩ := RM
  refine ready_of A (fun _ _ _ _ _ _ us hl => match us, hl with | [_, _], _ => rfl) fun f fd F => ?_
  refine F.ok scNext (fun vs H Q E h => ?_) (fun cdv A outer s H vs Q E hr h => ?_)
  · obtain ⟨a, m, x, y, z, rfl, _⟩ := h
    rfl
  · obtain ⟨a, m, x, y, z, rfl, hm1, hm2, hS, q⟩ := h
    refine ⟨_, pss_cons (ps_if (pt_cmpR op_ge (pe_ix ix_list (pv 0) pe_int (fun _ _ => rfl)) (pe_op op_pow pe_int pe_int) (nomark _))
        (pss_cons (ps_set (i := 2) scNext.nd rfl (.inl rfl) (pe_op op_mod (pe_ix ix_list (pv 0) pe_int (fun _ _ => rfl)) (pv 1)))
          (pss_cons (ps_asg (pe_op op_fdivN (pe_ix ix_list (pv 0) pe_int (fun _ _ => rfl)) (pv 1)) (pg_sub (pv 0) pe_int set_list))
          (pss_one (ps_ret (pv 2))))) pss_nil)
      (pss_cons (ps_asg (pe_op op_add (pe_ix ix_list (pv 0) pe_int (fun _ _ => rfl)) pe_int) (pg_sub (pv 0) pe_int set_list))
      (pss_one (ps_ret (pe_op op_mod (pe_call G2 hr (by rfl) g2 k2 b2 .nil pass0 (pa_cons (pe_ix ix_list (pv 0) pe_int (fun _ _ => rfl)) (pa_cons (pe_ix ix_list (pv 0) pe_int (fun _ _ => rfl)) pa_nil))) (pv 1))))), ?_⟩
    have hm0 : (0 : Int) < (m : Int) := by omega
    refine ⟨_, rfl, a, _, _, .int x, rfl, rfl, SqL.of hS, rfl, _, _, rfl, rfl, ⟨by decide, by decide, by decide⟩, _, _, rfl, rfl, _, rfl, ite2 (fun h => ?_) (fun h => ?_)⟩
    · refine ⟨_, rfl, a, _, _, .int x, rfl, rfl, SqL.of hS, rfl, _, rfl, _, _, rfl, rfl, hm0, ?_⟩
      refine ⟨_, rfl, a, _, _, .int x, rfl, rfl, SqL.of hS, rfl, _, rfl, _, _, rfl, rfl, ⟨by omega, by omega⟩, _, rfl, a, _, _, 0, rfl, rfl, hS, rfl, ?_⟩
      have h1 := Int.emod_nonneg x (by omega : (m : Int) ≠ 0)
      have h2 := Int.emod_lt_of_pos x hm0
      have e : ((x % (m : Int)).toNat : Int) = x % (m : Int) := Int.toNat_of_nonneg h1
      refine ⟨_, rfl, ?_⟩
      have := q (x % (m : Int)).toNat (x.fdiv m) z (by omega)
      rw [e] at this
      exact this
    · refine ⟨_, rfl, a, _, _, .int z, rfl, rfl, SqL.of hS, rfl, _, _, rfl, rfl, _, rfl, a, _, _, 2, rfl, rfl, hS, rfl, ?_⟩
      refine ⟨_, rfl, a, _, _, .int y, rfl, rfl, SqL.of upd_same, rfl, _, rfl, a, _, _, .int (z + 1), rfl, rfl, SqL.of upd_same, rfl, y, _, rfl, fun r _ _ => ?_⟩
      refine ⟨_, rfl, _, _, rfl, rfl, hm0, ?_⟩
      have h1 := Int.emod_nonneg r (by omega : (m : Int) ≠ 0)
      have h2 := Int.emod_lt_of_pos r hm0
      have e : ((r % (m : Int)).toNat : Int) = r % (m : Int) := Int.toNat_of_nonneg h1
      have := q (r % (m : Int)).toNat x (z + 1) (by omega)
      rw [e] at this
      exact this
end
end FL

namespace FL
open PySem PySem.Spec PyProof.Rows L2
section
variable {P : Program} {w : World} {K : PySem.W.Frag} {mg : Str → Option Value} {base : Heap}
/-- only the source at a has changed, and new things came -/
structure Drawn (a : Addr) (H H' : Hp) : Prop where
  old : ∀ b o, b ≠ a → H b = some o → H' b = some o
  src : Src H' a
theorem Drawn.refl {a : Addr} {H : Hp} (h : Src H a) : Drawn a H H := ⟨fun _ _ _ h => h, h⟩
theorem Drawn.trans {a : Addr} {H H1 H2 : Hp} (x : Drawn a H H1) (y : Drawn a H1 H2) : Drawn a H H2 := ⟨fun b o n h => y.old b o n (x.old b o n h), y.src⟩
theorem Drawn.same {a : Addr} {H H1 H2 : Hp} (x : Drawn a H H1) (s : Same H1 H2) : Drawn a H H2 :=
  ⟨fun b o n h => s b o (x.old b o n h), let ⟨p, q, r, e⟩ := x.src; ⟨p, q, r, s _ _ e⟩⟩
theorem drawn_upd {a : Addr} {H : Hp} {x y z : Int} : Drawn a H (upd H a (.lst [.int x, .int y, .int z])) := ⟨fun b o n h => by rw [upd_ne n]; exact h, ⟨x, y, z, upd_same⟩⟩
theorem drawn_set {a p : Addr} {H H1 : Hp} {o : HO} (x : Drawn a H H1) (h : H p = none) (n : a ≠ p) : Drawn a H (upd H1 p o) :=
  ⟨fun b u nb e => by rw [upd_ne (ne_of_none e h)]; exact x.old b u nb e, let ⟨u, v, r, e⟩ := x.src; ⟨u, v, r, by rw [upd_ne n]; exact e⟩⟩
theorem joinL_nil : ∀ L : List (List Nat), TL.joinL [] L = L.flatten
  | [] => rfl
  | [p] => by simp [TL.joinL]
  | p :: q :: r => by
    have := joinL_nil (q :: r)
    show p ++ ([] ++ TL.joinL [] (q :: r)) = _
    rw [List.nil_append, this]
    rfl
theorem join_codes (ys : List Str) : (Txt.join ("" : Str) ys).cps.toList = (ys.map fun y => y.cps.toList).flatten := by
  have e : TL.tl ("" : Str) = [] := by decide +kernel
  have h := TL.tl_join ("" : Str) ys
  rw [← TL.join_eq, e, joinL_nil] at h
  exact h
theorem sum_one {ys : List Str} (h : ∀ t ∈ ys, t.length ≤ 1) : (ys.map (·.length)).sum ≤ ys.length := by
  induction ys with
  | nil => exact Nat.le_refl _
  | cons y r ih =>
    have h1 := h y (List.mem_cons_self ..)
    have h2 := ih fun t ht => h t (List.mem_cons_of_mem _ ht)
    rw [List.map_cons, List.sum_cons, List.length_cons]
    omega
theorem codes_one (c : Nat) : (⟨#[c]⟩ : Str).cps.toList = [c] := rfl
theorem flat_ones {ys : List Str} {l : List Nat} (h : ∀ t ∈ ys, ∃ c ∈ l, t = ⟨#[c]⟩) : (∀ c ∈ (ys.map fun y => y.cps.toList).flatten, c ∈ l) ∧ ((ys.map fun y => y.cps.toList).flatten).length = ys.length := by
  induction ys with
  | nil => exact ⟨fun c hc => by simp at hc, rfl⟩
  | cons y r ih =>
    obtain ⟨i1, i2⟩ := ih fun t ht => h t (List.mem_cons_of_mem _ ht)
    obtain ⟨c, hc, rfl⟩ := h y (List.mem_cons_self ..)
    rw [List.map_cons, List.flatten_cons]
    show (∀ d ∈ [c] ++ _, d ∈ l) ∧ ([c] ++ _).length = _
    refine ⟨fun d hd => ?_, by rw [List.length_append, i2, List.length_cons]; simp; omega⟩
    rcases List.mem_append.mp hd with hd | hd
    · rw [List.mem_singleton.mp hd]; exact hc
    · exact i1 d hd
def spSigns : Sp := fun vs H Q _ => ∃ (a : Addr) (s : Str) (m : Nat), vs = [.ref a, .str s, .int (m : Nat)] ∧ 1 ≤ s.length ∧ s.length ≤ 10000 ∧ m ≤ 10000 ∧ Src H a ∧
  ∀ (t : Str) (H' : Hp), (∀ c ∈ t.cps.toList, c ∈ s.cps.toList) → t.length = m → Drawn a H H' → Q (.str t) H'
end
end FL

namespace FL
open PySem PySem.Spec PyProof.Rows L2
/-! ### the class of a caught error that has a dict of its own -/
section
open PySem.W PySem.Calls
theorem cls_found {K : Frag} {D : Addr} {oo : Option Obj} (G : ExcC K D) : findObj K D oo "__class__" = some (.bind (.builtin "getset_descriptor.__get__") (.builtin "object.__class__")) := by
  obtain ⟨cd, hc, _⟩ := any_some G.hd
  unfold findObj
  rw [hc, Option.bind_some, G.ha, Option.bind_some]
  simp [G.hn, G.ht]
theorem cls_of_exc {prog : Program} {w : World} {A : Around} {E : Value → Shared → Prop} {s : Shared} {K : Frag} {x D : Addr} {ox : Obj} {oo : Option Obj} {Q : Option Value → Shared → Prop}
    (G : ExcC K D) (Y : K.In s.heap) (J : InstAt s.heap x ox D oo) (q : Q (some (.ref D)) { s with toks := s.toks + 1 }) : wpAny (model prog w) A (getAttr? (.ref x) "__class__") Q E s := by
  have found := cls_found (oo := oo) G
  obtain ⟨hh, gg, dd, tt, oos⟩ := s
  have t0 : Looks (model prog w) hh (typeOf (.ref x)) (.ref D) := J.type
  have t1 := looks_findIn (M := model prog w) Y G.hg
  have t2 := looks_findIn (M := model prog w) Y G.hk
  have t3 := looks_find (M := model prog w) Y J found
  have isB : Looks (model prog w) hh (isInstance (.ref x) (.type "BaseException")) true := t0.andThen (looks_subIn Y G.hs)
  have n0 : (false && onTheHeap (Value.builtin "BaseException.__getattribute__")) = false := rfl
  have n1 : (onTheHeap (Value.ref D) && Value.builtin "BaseException.__getattribute__" == Value.builtin "object.__getattribute__") = false := by
    rw [show (Value.builtin "BaseException.__getattribute__" == Value.builtin "object.__getattribute__") = false by decide +kernel]
    rfl
  unfold getAttr? getAttrBy? getAttrBy
  refine wpAny_bind (wpAny_mkText (wpAny_bind (wpAny_attempt (wpAny_holding (wpAny_bind (t0.at (wpAny_bind (t1.at ?_))))))))
  refine (show wpAny (model prog w) A (if (onTheHeap (Value.ref D) && Value.builtin "BaseException.__getattribute__" == Value.builtin "object.__getattribute__") = true then _ else _) _ _ _ from ?_)
  rw [n1, if_neg Bool.false_ne_true]
  unfold getAttrByItsOwn hookBefore
  refine wpAny_bind ?_
  rw [if_pos (show onTheHeap (Value.ref D) = true from rfl)]
  refine t2.at (wpAny_bind (wpAny_attempt (wpAny_holding ?_)))
  unfold callGetattribute
  rw [n0, if_neg Bool.false_ne_true]
  unfold boundAndCalled
  rw [PySem.F.excAttr_ValueError.ga.bind (.ref x)]
  refine wpAny_bind (wpAny_pure ?_)
  refine (show wpAny (model prog w) _ (call (.builtin "BaseException.__getattribute__") [.ref x, .str "__class__" tt]) _ _ _ from ?_)
  refine wpAny_call (codeAny_call_builtin PySem.F.excAttr_ValueError.ga.plain PySem.F.entry_bexc_ga ?_)
  refine @check_slot (model prog w) _ _ ⟨hh, gg, dd, tt + 1, oos⟩ "BaseException.__getattribute__" "BaseException" "__getattribute__" (.ref x) [.str "__class__" tt] [] _ (by decide +kernel) (by decide +kernel) isB (PySem.F.args_bexc_ga (.ref x) (.str "__class__" tt)) ?_
  unfold Builtin.«object.__getattribute__»
  refine wpAny_bind (wpAny_of_eq (a := ((Value.ref x : Value), [Value.str "__class__" tt])) (by first | rfl | (simp only [slotArgs]; rfl)) ?_)
  refine wpAny_bind (wpAny_pure (wpAny_bind (t0.at (wpAny_bind (t3.at ?_)))))
  refine (show wpAny (model prog w) _ (holding [Value.builtin "object.__class__"] (call (.builtin "getset_descriptor.__get__") [.builtin "object.__class__", .ref x, .ref D]) >>= ret) _ _ _ from ?_)
  refine wpAny_bind (wpAny_holding (wpAny_call (class_get (s := ⟨hh, gg, dd, tt + 1, oos⟩) (ox := ox) (od := oo) Y J G.hm (wpAny_pure ?_))))
  refine (show wpAny (model prog w) _ (handedOut (.ref D)) _ _ _ from ?_)
  rw [handedOut_of (v := .ref D) rfl]
  first
    | exact wpAny_pure (wpAny_pure q)
    | exact wpAny_pure q
    | exact wpAny_pure (wpAny_bind (wpAny_pure (wpAny_pure q)))
/-- an own class at D stands in the written part as a class -/
theorem cls_there {K : Frag} {D : Addr} (h : hasDictIn K D = true) : ∃ c d' cd sl, K.lookup D = some ⟨c, d', .cls cd, sl⟩ := by
  obtain ⟨cd, hc, _⟩ := any_some h
  unfold clsIn at hc
  split at hc
  · rename_i c' d' cd' sl' ho
    exact ⟨c', d', cd', sl', ho⟩
  · cases hc
theorem kitx_excD {K : Frag} {x D : Addr} {ox : Obj} {oo : Option Obj} (G : ExcC K D) : KitX K (.ref x) (.ref D) (fun h => InstAt h x ox D oo) where
  ty := fun _ _ _ J => J.type
  it := fun _ _ Y _ => by
    obtain ⟨c', d', cd', sl', ho⟩ := cls_there G.hd
    intro A' Q' E' s' k q
    unfold isType loadHead
    exact wpAny_bind (wpAny_loadPart (k _ _ (Y _ _ ho)) (wpAny_pure q))
  ne := fun h tp dd its n sl Y htp => by
    obtain ⟨c', d', cd', sl', ho⟩ := cls_there G.hd
    refine Bool.eq_false_iff.mpr fun z => ?_
    have e : D = tp := Value.ref.inj (beq_iff_eq.mp z)
    subst e
    have z2 := (Y _ _ ho).symm.trans htp
    cases z2
  ca := fun Y J k => cls_of_exc G Y J k
end
theorem kit_same {K : PySem.W.Frag} {C : Addr} : PySem.W.kitOne K (.ref C) (.ref C) = some true := by
  unfold PySem.W.kitOne
  rw [if_pos (beq_self_eq_true _)]
theorem kit_own {K : PySem.W.Frag} {C D : Addr} {b : Bool} (n : ((Value.ref C) == (Value.ref D)) = false) (t : PySem.W.typeIn K (.ref D) = some (.type "type")) (d : PySem.W.hasDictIn K D = true) (s : PySem.W.subIn K (.ref C) (.ref D) = some b) : PySem.W.kitOne K (.ref C) (.ref D) = some b := by
  obtain ⟨cd, hc, _⟩ := PySem.W.any_some d
  unfold PySem.W.kitOne
  rw [if_neg (by rw [n]; exact Bool.false_ne_true)]
  show (if ((PySem.W.clsIn K D).isSome && PySem.W.typeIn K (.ref D) == some (.type "type")) = true then PySem.W.subIn K (.ref C) (.ref D) else none) = some b
  rw [hc, t, if_pos (by rfl)]
  exact s
/-- isinstance(e, c), e the caught error at a, its own dict at dd -/
def rIsD (K : PySem.W.Frag) (D a : Addr) (dd : Addr) : List V → Hp → VK → Prop := fun xs H Q => ∃ (c : V) (cv : Value) (b : Bool) (fs : List (Str × V)), xs = [.ref a, c] ∧ H dd = some (.xd fs) ∧ (∀ u, RelV c u → u = cv) ∧ PySem.W.kitOne K (.ref D) cv = some b ∧ Q (.bl b) H
theorem call_isD {X : Cx} {a D dd : Addr} {oe : Obj} {pn : List (Addr × Obj)} (G : ExcC X.K D) (hz : Zc (.ref D) (some dd) oe) (hf : ∃ vs, oe.data = .fields vs) : CallR (X.suite a ((a, oe) :: pn)) (.builtin "isinstance") (rIsD X.K D a dd) := by
  intro pins s σ H xs us Q I r h
  obtain ⟨c, cv, b, fs, rfl, hd, hcv, e, q⟩ := h
  obtain ⟨u1, u2, rfl, rx, rt⟩ := vals2 r
  cases rx
  have ec := hcv _ rt
  subst ec
  obtain ⟨hget, _⟩ := I.pin (a, oe) (List.mem_append.mpr (.inl List.mem_cons_self))
  obtain ⟨vs, hv⟩ := hf
  have hx : ObjOk X.prog X.w H s.heap dd (.xd fs) := I.hok dd _ hd
  obtain ⟨mA, hns, _⟩ := hx
  obtain ⟨od, ho, _⟩ := lookIn_ns hns
  have J : PySem.W.InstAt s.heap a oe D (some od) := ⟨hget, hz.1, by unfold PySem.W.notCls; rw [hv] <;> rfl, by rw [hz.2]; exact ho⟩
  exact PySem.W.kia_one (kitx_excD G) I.kIn J e (fun z => nomatch z) fun tk => ⟨.bl b, H, I.kept (t' := tk) fun _ _ z => z, rfl, q⟩
/-- the same, where it is told only later which class and which dict the caught error has -/
def rIsG (K : PySem.W.Frag) (D a : Addr) (cls : Value) (d : Option Addr) : List V → Hp → VK → Prop := fun xs H Q => cls = .ref D ∧ ∃ dd, d = some dd ∧ rIsD K D a dd xs H Q
theorem call_isG {X : Cx} {a D : Addr} {cls : Value} {d : Option Addr} {oe : Obj} {pn : List (Addr × Obj)} (G : ExcC X.K D) (hz : Zc cls d oe) (hf : ∃ vs, oe.data = .fields vs) : CallR (X.suite a ((a, oe) :: pn)) (.builtin "isinstance") (rIsG X.K D a cls d) := by
  intro pins s σ H xs us Q I r h
  obtain ⟨rfl, dd, rfl, h⟩ := h
  exact call_isD G hz hf pins s σ H xs us Q I r h
/-! ### C.__init__(self, ..), C an own class -/
structure ClsFn (K : PySem.W.Frag) (C fI : Addr) : Prop where
  ga : PySem.W.specialIn K (.ref C) "__getattribute__" = some (some (.builtin "type.__getattribute__"))
  rd : PySem.W.readsIn K C (.type "type") = true
  at_ : PySem.W.findCls K (.ref C) (.type "type") "__init__" = some (.val (.ref fI))
  kp : PySem.W.keepIn K (.ref fI) = true
theorem pe_cinit {X : Cx} {x : Str} {C fI : Addr} {CX : CXT} {k : Nat} {fd : FuncData} {ps : List Str} {sp : Sp} {ds : List Value} {dvs : List V} {E : XK} {e : Expr} {es : List Expr} {t : TA} {p1 p2 pos : Pos} {pl : Sem Bool} (T : ClsFn X.K C fI) (F : FnOk X.prog X.w X.K X.mg X.base CX k fI fd ps sp) (hr : Room k X.A)
    (hg : Gl X x) (hm : X.mg x = some (.ref C)) (hb : Binds X.K fd ps ds) (hd : Vals dvs ds) (hx : Passes CX X E) (ha : PA X (e :: es) t)
    (hc : eval (.Call (.Attribute (.Name x p1) "__init__" p2) (e :: es) [] pos) X.env = (do
      let ov ← eval (.Name x p1) X.env
      standAt p2.atName
      let (f, first) ← holding [ov] (getMethod ov "__init__" pl)
      callWith pos f first (backTo pos (starEach (e :: es) X.env)) (backToKw pos (keywordEach [] X.env))) := by rfl)
    (hdb : (x == ("__debug__" : Str)) = false := by decide) (he : starEach (e :: es) X.env = (false, eval e X.env) :: starEach es X.env := by rfl) (hpl : (backTo pos (starEach es X.env)).any (·.1) = false := by rfl) :
    PE X (.Call (.Attribute (.Name x p1) "__init__" p2) (e :: es) [] pos) (tCall sp dvs E t) := by
  refine ⟨fun pins s σ H Q I h => ?_⟩
  refine PySem.W.methodCall_KW (ld_glob I hg hm ?_ hdb) hc
  refine PySem.W.method_cls I.kIn T.ga (ClX.getcval_ok (v := .ref fI) (u := .ref fI) I ⟨T.rd, T.ga⟩ ⟨T.at_, rfl⟩ fun s1 I1 => ?_)
  refine (show wpAny (model X.prog X.w) X.A (callWith pos (.ref fI) [] (backTo pos (starEach (e :: es) X.env)) []) _ _ _ from ?_)
  refine PySem.W.callWith_K (h₀ := X.base) I.ok.mod.kin T.kp (thn (ha.run pos pins s1 σ H _ I1 h) fun us s2 ⟨vs, H1, I2, r, q⟩ => ⟨I2.kIn, ?_⟩) he hpl
  exact run_fn F hr hb hd hx I2 r q
section
variable {P : Program} {w : World} {K : PySem.W.Frag} {mg : Str → Option Value} {base : Heap}
abbrev sLE : Stmt := inClass cLetterError 0
abbrev FunA (K : PySem.W.Frag) (qual : Str) (st : Stmt) (dvs : List V) (f : Addr) (fd : FuncData) : Prop := FunD K "__init__" qual (defArgs st) (defBody st) (defScope st) dvs [] f fd
def spLE (K : PySem.W.Frag) : Sp := fun vs H Q _ => ∃ (a C : Addr) (v : V), vs = [.ref a, v] ∧ OexC K C ∧ H a = some (exo a C none) ∧ Q .non H
theorem scLE : FnScope ["self", "why"] ["self", "why"] (defScope sLE) := ⟨rfl, rfl, rfl, by decide +kernel, rfl, by decide +kernel, by decide +kernel⟩
theorem ok_LE {f : Addr} {fd : FuncData} (F : FunA K "LetterError.__init__" sLE [.str ""] f fd) (mV : mg "ValueError" = none) (vV : PySem.W.findCls K (.type "ValueError") (.type "type") "__init__" = some (.val (.builtin "ValueError.__init__"))) :
    FnOk P w K mg base CX0 1 f fd ["self", "why"] (spLE K) := by
  refine FunD.ok F scLE (fun vs H Q E h => ?_) (fun cdv A outer s H vs Q E hr h => ?_)
  · obtain ⟨a, C, v, rfl, _⟩ := h
    rfl
  · obtain ⟨a, C, v, rfl, T, hH, q⟩ := h
    refine ⟨_, pss_one (ps_expr (pe_veinit (by rfl) mV vV (pa_cons (pv 0) (pa_cons (pv 1) pa_nil)))), ?_⟩
    exact ⟨_, rfl, _, rfl, a, C, [v], rfl, by show 1 ≤ 1000; decide, T, hH, q⟩
theorem bind_LE {f : Addr} {fd : FuncData} (F : FunA K "LetterError.__init__" sLE [.str ""] f fd) : ∃ ds, Vals [] ds ∧ Binds K fd ["self", "why"] ds :=
  FunD.binds1 (ps := ["self", "why"]) F 2 1 (by simp) rfl fun T kV doc pm an cdv ct us its hu hi => match us, its, hu, hi with | [_, _], [_], _, _ => ⟨_, rfl, rfl⟩
/-- C(why, y): a new error of the class at C, its field set -/
def spFld (C : Addr) (fld : Str) : Sp := fun vs H Q _ => ∃ (a : Addr) (v y : V), vs = [.ref a, v, y] ∧ H a = some (exo a C none) ∧ ∀ dx, H dx = none → dx ≠ a → Q .non (upd (upd H dx (exd dx [(fld, y)])) a (exo a C (some dx)))
/-- what a raise of C(..) asks and gives -/
structure MkFld (P : Program) (w : World) (K : PySem.W.Frag) (mg : Str → Option Value) (base : Heap) (x : Str) (C : Addr) (fld : Str) : Prop where
  T : OexC K C
  g : mg x = some (.ref C)
  init : ∃ fI fd, PySem.W.findIn K (.ref C) "__init__" = some (some (.ref fI)) ∧ PySem.W.typeIn K (.ref fI) = some (.type "function") ∧ FnOk P w K mg base CX0 2 fI fd ["self", "why", fld] (spFld C fld) ∧
    (∃ ds, Vals [] ds ∧ Binds K fd ["self", "why", fld] ds) ∧ ∃ ds, Vals [.int 0] ds ∧ Binds K fd ["self", "why", fld] ds
/-- the leaf: what the raise gives -/
theorem mk_leaf {C : Addr} {fld : Str} {v y : V} {vs dvs : List V} {H1 : Hp} {Q : XK} (hv : vs ++ dvs = [v, y]) (hl : vs.length ≤ 2) (h : ∀ (d : Addr) (H' : Hp), Same H1 H' → H1 d = none → H' d = some (.xd [(fld, y)]) → Q (.ref C) (some d) H') :
    vs.length ≤ 1000 ∧ ∀ a, H1 a = none → spFld C fld (.ref a :: (vs ++ dvs)) (upd H1 a (exo a C none))
      (fun v H2 => v = .non ∧ ∃ (d : Addr) (fs : List (Str × V)), H2 a = some (exo a C (some d)) ∧ H2 d = some (exd d fs) ∧ H1 d = none ∧ Q (.ref C) (some d) (upd (del H2 a) d (.xd fs))) (fun _ _ _ => False) := by
  refine ⟨by omega, fun a na => ⟨a, v, y, by rw [hv], upd_same, fun dx n1 n2 => ?_⟩⟩
  rw [upd_ne n2] at n1
  refine ⟨rfl, dx, [(fld, y)], upd_same, by rw [upd_ne n2, upd_same], n1, h dx _ (fun b o e => ?_) n1 upd_same⟩
  have hb1 : b ≠ a := ne_of_none e na
  have hb2 : b ≠ dx := ne_of_none e n1
  rw [upd_ne hb2, del_ne hb1, upd_ne hb1, upd_ne hb2, upd_ne hb1]
  exact e
theorem pmk_fld {X : Cx} {x fld : Str} {C : Addr} {e : Expr} {es : List Expr} {ta : TA} {p pos : Pos} (M : MkFld X.prog X.w X.K X.mg X.base x C fld) (hr : Room (2 + 1) X.A) (hg : Gl X x) (ha : PA X (e :: es) ta) (dvs : List V) (hdv : dvs = [] ∨ dvs = [.int 0])
    (hdb : (x == ("__debug__" : Str)) = false := by decide) (he : starEach (e :: es) X.env = (false, eval e X.env) :: starEach es X.env := by rfl) (hpl : (backTo pos (starEach es X.env)).any (·.1) = false := by rfl) :
    PMk X (.Call (.Name x p) (e :: es) [] pos) (tMkO C (spFld C fld) dvs ta) := by
  obtain ⟨fI, fd, iC, tI, F1, ⟨ds1, v1, b1⟩, ⟨ds2, v2, b2⟩⟩ := M.init
  rcases hdv with rfl | rfl
  · exact pmk_oex M.T iC tI F1 hr b1 v1 pass0 hg M.g ha hdb he hpl
  · exact pmk_oex M.T iC tI F1 hr b2 v2 pass0 hg M.g ha hdb he hpl
end
end FL

namespace FL
open PySem PySem.Spec PyProof.Rows L2
/-! ### texts as lists of signs -/
def mk (l : List Nat) : Str := ⟨l.toArray⟩
theorem mk_codes (l : List Nat) : (mk l).cps.toList = l := by simp [mk]
theorem mk_of (z : Str) : mk z.cps.toList = z := TL.mk_tl z
theorem mk_eq {z : Str} {l : List Nat} (h : z.cps.toList = l) : z = mk l := by rw [← h, mk_of]
theorem mk_inj {l m : List Nat} (h : mk l = mk m) : l = m := by rw [← mk_codes l, h, mk_codes]
theorem mk_len (l : List Nat) : (mk l).length = l.length := by simp [mk, Str.length]
theorem mk_one (c : Nat) : mk [c] = ⟨#[c]⟩ := rfl
theorem mk_app (l m : List Nat) : mk l ++ mk m = mk (l ++ m) := by
  have h : (mk l ++ mk m).cps.toList = l ++ m := by
    have := TL.tl_append (mk l) (mk m)
    show (mk l ++ mk m).cps.toList = l ++ m
    rw [show (mk l ++ mk m).cps.toList = (mk l).cps.toList ++ (mk m).cps.toList from this, mk_codes, mk_codes]
  exact mk_eq h
/-! ### slices -/
theorem cutS_one (z : Str) (p : Nat) : (cutS z (some (p : Nat)) (some ((p + 1 : Nat) : Int))).cps.toList = (z.cps.toList.drop p).take 1 := by
  unfold cutS
  rw [HT.sIx_nat, HT.sIx_nat]
  show (List.take _ (List.drop _ _)) = _
  have hl := len_cps z
  by_cases h : p < z.length
  · rw [Nat.min_eq_left (by omega), Nat.min_eq_left (by omega), show p + 1 - p = 1 by omega]
  · rw [Nat.min_eq_right (by omega), Nat.min_eq_right (by omega), Nat.sub_self, List.take_zero, List.drop_eq_nil_of_le (by omega)]
    rfl
theorem cutS_nat (z : Str) {i j : Nat} (h1 : i ≤ z.length) (h2 : j ≤ z.length) : (cutS z (some (i : Nat)) (some (j : Nat))).cps.toList = (z.cps.toList.drop i).take (j - i) := by
  unfold cutS
  rw [HT.sIx_nat, HT.sIx_nat]
  show (List.take _ (List.drop _ _)) = _
  rw [Nat.min_eq_left h1, Nat.min_eq_left h2]
theorem cps_at {z : Str} {p c : Nat} (h : z.cps[p]? = some c) : z.cps.toList[p]? = some c := by rw [Array.getElem?_toList]; exact h
theorem drop_at {l : List Nat} {p c : Nat} (h : l[p]? = some c) : l.drop p = c :: l.drop (p + 1) := by
  have hb : p < l.length := (List.getElem?_eq_some_iff.mp h).1
  have e : l[p] = c := (List.getElem?_eq_some_iff.mp h).2
  rw [List.drop_eq_getElem_cons hb, e]
section
variable {P : Program} {w : World} {K : PySem.W.Frag} {mg : Str → Option Value} {base : Heap}
theorem sign_is {c d : Nat} {x : Str} (hx : x = ⟨#[d]⟩) : decide (V.str ⟨#[c]⟩ = V.str x) = decide (c = d) := by
  rw [hx]
  exact decide_eq_decide.mpr str_one
def ReadyX (P : Program) (w : World) (K : PySem.W.Frag) (mg : Str → Option Value) (base : Heap) (k : Nat) (x : Str) (ps : List Str) (sp : Sp) : Prop :=
  ∃ f fd, mg x = some (.ref f) ∧ PySem.W.keepIn K (.ref f) = true ∧ Binds K fd ps [] ∧ FnOk P w K mg base (L2.CX P w) k f fd ps sp
theorem readyX_of {x : Str} {st : Stmt} {k : Nat} {ps : List Str} {sp : Sp} (A : FnAt K mg x st)
    (hb : ∀ (kV doc pm : Value) (an : Option Addr) (cdv ct : Value) (us : List Value), us.length = ps.length → bindArgs (PySem.W.fnOf x x (defArgs st) (defBody st) (defScope st) .none kV doc pm an cdv ct) ⟨us, []⟩ = pure (ps.zip us))
    (ok : ∀ f fd, Fun K x x st f fd → FnOk P w K mg base (L2.CX P w) k f fd ps sp) : ReadyX P w K mg base k x ps sp := by
  obtain ⟨f, fd, F, g⟩ := A.ex
  exact ⟨f, fd, g, F.kp, F.binds hb, ok f fd F⟩
/-- v is no text without line feeds -/
def NoLine (K : PySem.W.Frag) (H : Hp) (v : V) : Prop := (∃ z : Str, v = .str z ∧ z.length ≤ 10000 ∧ isLn z.cps.toList = false) ∨ (∃ t, TyX K H v t ∧ PySem.W.kitOne K t (.type "str") = some false)
/-- an error of the class at C with its field at y is wished for -/
def Fails (C : Addr) (fld : Str) (y : Int) (H : Hp) (E : XK) : Prop := ∀ (d : Addr) H', Same H H' → H d = none → H' d = some (.xd [(fld, .int y)]) → E (.ref C) (some d) H'
theorem Fails.later {C : Addr} {fld : Str} {y : Int} {H H1 : Hp} {E : XK} (h : Fails C fld y H E) (s : Same H H1) : Fails C fld y H1 E := fun d H' s' n e => h d H' (s.trans s') (Same.free s n) e
theorem len_append (a b : Str) : (a ++ b).length = a.length + b.length := by
  have := TL.tl_append a b
  rw [← len_cps, ← len_cps, ← len_cps]
  rw [show (a ++ b).cps.toList = a.cps.toList ++ b.cps.toList from this, List.length_append]
end
end FL

namespace FL
open PySem PySem.Spec PyProof.Rows L2
theorem strOk_of {z : Str} (h : ∀ c ∈ z.cps.toList, c < 128) : PyData.strOk z = true := by
  unfold PyData.strOk
  rw [← Array.all_toList]
  refine List.all_eq_true.mpr fun c hc => decide_eq_true ?_
  have := h c hc
  omega
theorem canLayAll_of : ∀ {ds : List PyData}, (∀ d ∈ ds, d.canLay0 = true) → PyData.canLayAll0 ds = true
  | [], _ => by simp [PyData.canLayAll0]
  | d :: r, h => by
    rw [PyData.canLayAll0, h d (List.mem_cons_self ..), canLayAll_of fun x hx => h x (List.mem_cons_of_mem _ hx)]
    rfl
theorem depthAll_of {k : Nat} : ∀ {ds : List PyData}, (∀ d ∈ ds, d.depth ≤ k) → PyData.depthAll ds ≤ k
  | [], _ => by simp [PyData.depthAll]
  | d :: r, h => by
    rw [PyData.depthAll]
    exact Nat.max_le.mpr ⟨h d (List.mem_cons_self ..), depthAll_of fun x hx => h x (List.mem_cons_of_mem _ hx)⟩
theorem canLay_str {z : Str} (h : PyData.strOk z = true) : (PyData.str z).canLay0 = true := by
  unfold PyData.canLay0
  exact h
theorem shaped_of {d : PyData} (h : d.canLay0 = true) (k : d.depth ≤ 64) : SeqAt.shaped d = true := by
  unfold SeqAt.shaped
  rw [h, decide_eq_true k]
  rfl
theorem shaped_strs {zs : List Str} (h : ∀ z ∈ zs, PyData.strOk z = true) : SeqAt.shaped (.list (zs.map PyData.str)) = true := by
  refine shaped_of ?_ ?_
  · rw [PyData.canLay0]
    refine canLayAll_of fun d hd => ?_
    obtain ⟨z, hz, rfl⟩ := List.mem_map.mp hd
    exact canLay_str (h z hz)
  · rw [PyData.depth]
    have : PyData.depthAll (zs.map PyData.str) ≤ 0 := depthAll_of fun d hd => by
      obtain ⟨z, hz, rfl⟩ := List.mem_map.mp hd
      rw [PyData.depth]
      exact Nat.le_refl _
    omega
theorem dp_strs {K : PySem.W.Frag} {H : Hp} : ∀ zs : List Str, DpAll K H (zs.map V.str) (zs.map PyData.str)
  | [] => .nil
  | z :: r => .cons (.str z) (dp_strs r)
theorem eqv_nil (ds : List PyData) : PyData.eqv (.list ds) (.list []) = ds.isEmpty := by
  cases ds <;> simp [PyData.eqv, PyData.eqvAll]
theorem same_drawn {H H1 H2 : Hp} {p : Addr} (s : Same H H1) (n : H p = none) (d : Drawn p H1 H2) : Same H H2 := fun b o e => d.old b o (ne_of_none e n) (s b o e)
theorem app_codes (a b : Str) : (a ++ b).cps.toList = a.cps.toList ++ b.cps.toList := TL.tl_append a b
/-- a list of texts as data: in order, and itself -/
theorem strs_ok {zs : List Str} (h : ∀ z ∈ zs, PyData.strOk z = true) : SeqAt.shaped (.list (zs.map PyData.str)) = true ∧ PyData.eqv (.list (zs.map PyData.str)) (.list (zs.map PyData.str)) = true := by
  have hs := shaped_strs h
  exact ⟨hs, SeqAt.eqv_refl _ (Bool.and_eq_true_iff.mp hs).1⟩
end FL


namespace FL
open PySem PySem.Spec PyProof.Rows L2
/-! ### lists of whole numbers -/
def iv (l : List Nat) : List V := l.map fun n : Nat => V.int (n : Int)
theorem iv_len (l : List Nat) : (iv l).length = l.length := List.length_map ..
theorem iv_app (l m : List Nat) : iv (l ++ m) = iv l ++ iv m := List.map_append ..
theorem iv_at {l : List Nat} {i n : Nat} (h : l[i]? = some n) : (iv l)[i]? = some (.int (n : Int)) := by
  unfold iv
  rw [List.getElem?_map, h]
  rfl
theorem iv_take (l : List Nat) (n : Nat) : iv (l.take n) = (iv l).take n := List.map_take ..
theorem iv_drop (l : List Nat) (n : Nat) : iv (l.drop n) = (iv l).drop n := List.map_drop ..
theorem iv_inj {l m : List Nat} (h : iv l = iv m) : l = m := by
  induction l generalizing m with
  | nil => cases m with
    | nil => rfl
    | cons b r => cases h
  | cons a r ih => cases m with
    | nil => cases h
    | cons b s =>
      have h1 := (List.cons.inj h).1
      have h2 := (List.cons.inj h).2
      injection h1 with h1
      rw [show a = b by omega, ih h2]
def idt (l : List Nat) : List PyData := l.map fun n : Nat => PyData.int (n : Int)
theorem dp_ints {K : PySem.W.Frag} {H : Hp} : ∀ l : List Nat, DpAll K H (iv l) (idt l)
  | [] => .nil
  | z :: r => .cons (.int _) (dp_ints r)
theorem shaped_ints (l : List Nat) : SeqAt.shaped (.list (idt l)) = true := by
  refine shaped_of ?_ ?_
  · rw [PyData.canLay0]
    refine canLayAll_of fun d hd => ?_
    obtain ⟨z, hz, rfl⟩ := List.mem_map.mp hd
    rw [PyData.canLay0]
  · rw [PyData.depth]
    have : PyData.depthAll (idt l) ≤ 0 := depthAll_of fun d hd => by
      obtain ⟨z, hz, rfl⟩ := List.mem_map.mp hd
      rw [PyData.depth]
      exact Nat.le_refl _
    omega
theorem eqv_ints_all : ∀ l m : List Nat, PyData.eqvAll (idt l) (idt m) = decide (l = m)
  | [], [] => by simp [idt, PyData.eqvAll]
  | [], b :: s => by simp [idt, PyData.eqvAll]
  | a :: r, [] => by simp [idt, PyData.eqvAll]
  | a :: r, b :: s => by
    have ih := eqv_ints_all r s
    show PyData.eqvAll (PyData.int a :: idt r) (PyData.int b :: idt s) = _
    rw [PyData.eqvAll, ih]
    have e : PyData.eqv (.int (a : Int)) (.int (b : Int)) = decide (a = b) := by
      simp only [PyData.eqv]
      by_cases h : a = b
      · subst h; simp
      · rw [decide_eq_false h]
        simp [h]
        try omega
    rw [e]
    by_cases h1 : a = b <;> by_cases h2 : r = s <;> simp [h1, h2]
theorem eqv_ints (l m : List Nat) : PyData.eqv (.list (idt l)) (.list (idt m)) = decide (l = m) := by
  rw [← eqv_ints_all]
  simp only [PyData.eqv]
/-- two lists of whole numbers as data -/
theorem dpl {K : PySem.W.Frag} {H : Hp} {a : Addr} {l : List Nat} (h : H a = some (.lst (iv l))) : Dp K H (.ref a) (.list (idt l)) := .lst (SqL.of h) (dp_ints l)
theorem dplS {K : PySem.W.Frag} {H : Hp} {a : Addr} {l : List Nat} (h : SqL K H a (iv l)) : Dp K H (.ref a) (.list (idt l)) := .lst h (dp_ints l)
/-! ### whole numbers -/
inductive Whole (K : PySem.W.Frag) (H : Hp) : V → Option Int → Prop
  | int (n : Int) : Whole K H (.int n) (some n)
  | bl (b : Bool) : Whole K H (.bl b) none
  | oth {v : V} {t : Value} (h : TyX K H v t) (k : PySem.W.kitOne K t (.type "int") = some false) : Whole K H v none
theorem TyOf.same {K : PySem.W.Frag} {H H' : Hp} {v : V} {t : Value} (s : Same H H') (h : TyOf K H v t) : TyOf K H' v t := by
  cases h with
  | non => exact .non
  | bl x => exact .bl x
  | int i => exact .int i
  | str x => exact .str x
  | flt x => exact .flt x
  | lst e => exact .lst (s _ _ e)
  | frz e => exact .frz (s _ _ e)
  | tup e => exact .tup (s _ _ e)
  | dK e => exact .dK (s _ _ e)
  | dT e => exact .dT (s _ _ e)
  | ins e cl ha hn htk hm => exact .ins (s _ _ e) cl ha hn htk hm
theorem TyX.same {K : PySem.W.Frag} {H H' : Hp} {v : V} {t : Value} (s : Same H H') (h : TyX K H v t) : TyX K H' v t := by
  cases h with
  | base h => exact .base (TyOf.same s h)
  | byt b => exact .byt b
  | set e => exact .set (s _ _ e)
  | kList e c => exact .kList e c
  | kTuple e c => exact .kTuple e c
  | kDict e c => exact .kDict e c
  | fTuple e => exact .fTuple (s _ _ e)
  | fDict e => exact .fDict (s _ _ e)
theorem Whole.same {K : PySem.W.Frag} {H H' : Hp} {v : V} {o : Option Int} (s : Same H H') (h : Whole K H v o) : Whole K H' v o := by
  cases h with
  | int n => exact .int n
  | bl b => exact .bl b
  | oth h k => exact .oth (TyX.same s h) k
/-- a def by another global name -/
structure FnAs (K : PySem.W.Frag) (mg : Str → Option Value) (x y : Str) (st : Stmt) : Prop where
  ex : ∃ f fd, Fun K y y st f fd ∧ mg x = some (.ref f)
section
variable {P : Program} {w : World} {K : PySem.W.Frag} {mg : Str → Option Value} {base : Heap}
theorem FnAt.as {x : Str} {st : Stmt} (A : FnAt K mg x st) : FnAs K mg x x st := ⟨A.ex⟩
theorem ready_as {x y : Str} {st : Stmt} {k : Nat} {ps : List Str} {sp : Sp} (A : FnAs K mg x y st)
    (hb : ∀ (kV doc pm : Value) (an : Option Addr) (cdv ct : Value) (us : List Value), us.length = ps.length → bindArgs (PySem.W.fnOf y y (defArgs st) (defBody st) (defScope st) .none kV doc pm an cdv ct) ⟨us, []⟩ = pure (ps.zip us))
    (ok : ∀ f fd, Fun K y y st f fd → FnOk P w K mg base CX0 k f fd ps sp) : Ready P w K mg base k x ps sp := by
  obtain ⟨f, fd, F, g⟩ := A.ex
  exact ⟨f, fd, g, F.kp, F.binds hb, ok f fd F⟩
def spWhole (K : PySem.W.Frag) (f : Option Int → Bool) : Sp := fun vs H Q _ => ∃ v o, vs = [v] ∧ Whole K H v o ∧ Q (.bl (f o)) H
def isSgnI (n : Int) : Bool := decide (32 ≤ n ∧ n ≤ 65535)
def isOctI (n : Int) : Bool := decide (0 ≤ n ∧ n ≤ 255)
theorem rng_b {a b c : Int} : (if decide (a ≤ b) = true then decide (b ≤ c) else false) = decide (a ≤ b ∧ b ≤ c) := by
  by_cases h1 : a ≤ b <;> by_cases h2 : b ≤ c <;> simp [h1, h2]
/-- is a list all of whose things are such whole numbers; of a list told by what its things are, of no list, False -/
def spAll (K : PySem.W.Frag) (f : Option Int → Bool) : Sp := fun vs H Q _ => ∃ v, vs = [v] ∧
  ((∃ a xs os, v = .ref a ∧ H a = some (.lst xs) ∧ xs.length ≤ 10000 ∧ Paired (Whole K H) xs os ∧ ∀ H', Same H H' → Q (.bl (os.all f)) H') ∨
   (∃ t, TyX K H v t ∧ PySem.W.kitOne K t (.type "list") = some false ∧ Q (.bl false) H))
theorem paired_at {α β : Type} {R : α → β → Prop} : ∀ {xs : List α} {os : List β} {i : Nat} {x : α}, Paired R xs os → xs[i]? = some x → ∃ o, os[i]? = some o ∧ R x o
  | _, _, _, _, .nil, h => by simp at h
  | _, _, 0, _, .cons h _, e => by
    injection e with e
    subst e
    exact ⟨_, rfl, h⟩
  | _, _, i + 1, _, .cons _ t, e => paired_at (i := i) t e
theorem whole_ints {K : PySem.W.Frag} {H : Hp} : ∀ l : List Nat, Paired (Whole K H) (iv l) (l.map fun n : Nat => some (n : Int))
  | [] => .nil
  | n :: r => .cons (.int _) (whole_ints r)
theorem all_oct {l : List Nat} (h : ∀ n ∈ l, n < 256) : (l.map fun n : Nat => some (n : Int)).all (fun o => o.any isOctI) = true := by
  rw [List.all_map]
  refine List.all_eq_true.mpr fun n hn => ?_
  have := h n hn
  show isOctI (n : Int) = true
  exact decide_eq_true (by omega)
theorem all_sgn {l : List Nat} (h : ∀ n ∈ l, 32 ≤ n ∧ n ≤ 65535) : (l.map fun n : Nat => some (n : Int)).all (fun o => o.any isSgnI) = true := by
  rw [List.all_map]
  refine List.all_eq_true.mpr fun n hn => ?_
  have := h n hn
  show isSgnI (n : Int) = true
  exact decide_eq_true (by omega)
end
end FL


namespace FL
open PySem PySem.Spec PyProof.Rows L2
/-! ### C(why), C an own exception class without an own __init__, its base's one sets no field -/
section
variable {X : Cx} {e : Expr} {es : List Expr} {ta : TA} {p pos : Pos}
theorem mk_endN {pins : List (Addr × Obj)} {σ : L2.St} {H1 H2 : Hp} {hp hp2 h2 : Heap} {g1 g2 : Array GenState} {d1 d2 : PySem.Drawn} {t1 t2 : Nat} {os1 os2 : OsState} {a C : Addr} (I1 : Inv X pins σ H1 ⟨hp, g1, d1, t1, os1⟩)
    (ha : hp.objs.size ≤ a) (k : ∀ b o, hp.get? b = some o → hp2.get? b = some o) (un : Un (frs X.stack) [] (upd H1 a (exo a C none)) H2 hp2 h2) (hok : HOk X.prog X.w H2 h2) (ho : os2 = os1) (hb : AllBare g2)
    (ea : H2 a = some (exo a C none)) :
    ∃ (t0 : Addr) (G : Heap), Inv X pins σ (del H2 a) ⟨G, g2, d2, t2, os2⟩ ∧ (∀ b o, G.get? b = some o → h2.get? b = some o) ∧ G.get? a = none ∧
      h2.get? a = some ({ cls := .ref C, dict := none, data := .fields #[.ref t0, .none, .none, .none, .bool false, .none] } : Obj) ∧ (del H2 a) a = none := by
  obtain ⟨t0, hoe⟩ := exo_at hok ea
  have hn : H1 a = none := I1.hok.fresh ha
  obtain ⟨G, g1', g2'⟩ := restrict h2 fun b => decide (b ≠ a)
  have gk : ∀ b, b ≠ a → G.get? b = h2.get? b := fun b hb => g1' b (decide_eq_true hb)
  have ge : G.get? a = none := g2' a (by simp)
  have nha : ∀ {b : Addr} {o : Obj}, hp.get? b = some o → b ≠ a := fun {b o} z => Nat.ne_of_lt (Nat.lt_of_lt_of_le (Heap.lt_size z) ha)
  have up : ∀ {b : Addr}, b ≠ a → H1 b = none → upd H1 a (exo a C none) b = none := fun {b} hb n => by rw [upd_ne hb]; exact n
  have U : Un (frs X.stack) [] H1 (del H2 a) hp G := {
    keep := fun b o z n hf hx => by
      rw [gk b (nha z)]
      exact un.keep b o (k b o z) (up (nha z) n) hf hx
    slot := fun b o z n hf hx => by
      rw [gk b (nha z)]
      exact un.slot b o (k b o z) (up (nha z) n) hf hx
    free := fun b o z n hx => by
      rw [del_ne (nha z)]
      exact un.free b o (k b o z) (up (nha z) n) hx
    there := fun b o z hx => by
      rw [gk b (nha z)]
      exact un.there b o (k b o z) hx
    tups := fun b xs z => by
      rw [del_ne (ne_of_none z hn)]
      exact un.tups b xs (by rw [upd_ne (ne_of_none z hn)]; exact z)
    frzs := fun b o v z => by
      rw [del_ne (ne_of_none z hn)]
      exact un.frzs b o v (by rw [upd_ne (ne_of_none z hn)]; exact z)
    tbls := fun b ps z => by
      rw [del_ne (ne_of_none z hn)]
      exact un.tbls b ps (by rw [upd_ne (ne_of_none z hn)]; exact z) }
  have hok3 : HOk X.prog X.w (del H2 a) G := fun b o z => by
    have hba : b ≠ a := fun e => by
      rw [e, del_same] at z
      cases z
    rw [del_ne hba] at z
    have noa : ∀ {c : Addr}, H2 c = some (.own b) → c ≠ a := fun {c} hc => at_ne ea hc exo_own
    exact (hok b o z).stay (fun c v hc y => by
        have hca : c ≠ a := by
          rcases hc with hc | hc
          · rw [hc]
            exact hba
          · exact noa hc
        rw [gk c hca]
        exact y)
      (fun c hc => by rw [del_ne (noa hc)]; exact hc) (fun c xs hc => by rw [del_ne (at_ne ea hc exo_tup)]; exact hc)
  have J : Inv X pins σ (del H2 a) ⟨G, g2, d2, t2, os2⟩ := I1.call' (ch := []) ho U hok3 hb (fun b z => absurd z (by simp))
  refine ⟨t0, G, J, fun b o z => ?_, ge, hoe, del_same⟩
  by_cases hba : b = a
  · rw [hba, ge] at z
    cases z
  · exact (gk b hba).symm.trans z
/-- what a raise of such a C(..) asks -/
structure MkN (P : Program) (w : World) (K : PySem.W.Frag) (mg : Str → Option Value) (base : Heap) (x : Str) (C : Addr) : Prop where
  T : OexC K C
  g : mg x = some (.ref C)
  init : ∃ fI fd, PySem.W.findIn K (.ref C) "__init__" = some (some (.ref fI)) ∧ PySem.W.typeIn K (.ref fI) = some (.type "function") ∧ FnOk P w K mg base CX0 1 fI fd ["self", "why"] (spLE K) ∧ ∃ ds, Vals [] ds ∧ Binds K fd ["self", "why"] ds
theorem del_upd {H : Hp} {a : Addr} {o : HO} (h : H a = none) : del (upd H a o) a = H := by
  funext b
  by_cases e : b = a
  · rw [e, del_same, h]
  · rw [del_ne e, upd_ne e]
theorem pmk_non {x : Str} {C : Addr} (M : MkN X.prog X.w X.K X.mg X.base x C) (hr : Room (1 + 1) X.A) (hg : Gl X x) (ha : PA X (e :: es) ta)
    (hdb : (x == ("__debug__" : Str)) = false := by decide) (he : starEach (e :: es) X.env = (false, eval e X.env) :: starEach es X.env := by rfl) (hpl : (backTo pos (starEach es X.env)).any (·.1) = false := by rfl) :
    PMk X (.Call (.Name x p) (e :: es) [] pos) (fun σ H Q => ta σ H fun vs H1 => (∃ v, vs = [v]) ∧ Q (.ref C) none H1) := by
  intro pins s σ H Q I h
  obtain ⟨T, hm, fI, fd, iC, tI, F1, ds, hd, hb⟩ := M
  obtain ⟨nm, q, N, bs, bm, sn, sub, ab, col, dd, k0, k1, k2, k3, k5, hC, hbm⟩ := T.cls
  refine wpAny_Call_Name_kw (ld_glob I hg hm ?_ hdb)
  refine PySem.W.callWith_K (h₀ := X.base) I.ok.mod.kin T.kC (thn (ha.run pos pins s σ H _ I h) fun us s1 ⟨vs, H1, I1, r1, ⟨w0, hz⟩, q1⟩ => ⟨I1.kIn, ?_⟩) he hpl
  subst hz
  show wpAny _ _ (call (.ref C) us) _ _ _
  obtain ⟨hp, g, dr, tk, os⟩ := s1
  have hsz : hp.objs.size ≤ hp.objs.size + 1 := Nat.le_succ _
  have hn : H1 (hp.objs.size + 1) = none := I1.hok.fresh hsz
  have kk : ∀ b o, hp.get? b = some o → ((hp.push (PySem.W.kdv_tup us)).push (PySem.HandSPX.excO C hp.objs.size)).get? b = some o := fun b o e => Heap.get?_push_of_some _ (Heap.get?_push_of_some _ e)
  have hget : ((hp.push (PySem.W.kdv_tup us)).push (PySem.HandSPX.excO C hp.objs.size)).get? (hp.objs.size + 1) = some (PySem.HandSPX.excO C hp.objs.size) := by heap_get
  have I2 : Inv X pins σ (upd H1 (hp.objs.size + 1) (exo (hp.objs.size + 1) C none)) ⟨(hp.push (PySem.W.kdv_tup us)).push (PySem.HandSPX.excO C hp.objs.size), g, dr, tk, os⟩ :=
    I1.laid (t' := tk) (a := hp.objs.size + 1) (o := exo (hp.objs.size + 1) C none) (h' := (hp.push (PySem.W.kdv_tup us)).push (PySem.HandSPX.excO C hp.objs.size)) kk hsz (exo_ok hget)
  have r2 : Vals (V.ref (hp.objs.size + 1) :: ([w0] ++ [])) (Value.ref (hp.objs.size + 1) :: (us ++ ds)) := .cons rfl (r1.append hd)
  have hq : spLE X.K [.ref (hp.objs.size + 1), w0] (upd H1 (hp.objs.size + 1) (exo (hp.objs.size + 1) C none)) (fun v H2 => v = .non ∧ H2 (hp.objs.size + 1) = some (exo (hp.objs.size + 1) C none) ∧ Q (.ref C) none (del H2 (hp.objs.size + 1))) (fun _ _ _ => False) :=
    ⟨_, C, w0, rfl, T, upd_same, rfl, upd_same, by rw [del_upd hn]; exact q1⟩
  have hl : (Value.ref (hp.objs.size + 1) :: us ++ ds).length = 2 := by
    exact r2.length.symm
  have hus : us.length ≤ sizeLine := by
    rw [← Paired.length r1, sizeLine_eq]
    show 1 ≤ _
    omega
  refine wpAny_call (PySem.HandSPX.call_own F.excBase_ValueError (fun Y => PySem.HandSPX.refsVE_contains Y bm hbm) (I1.kIn _ _ hC) (PySem.W.looks_findIn I1.kIn iC) (fun self => PySem.W.bind_fn I1.kIn self tI) hus
    (codeAny_mono (F1.run _ X.stack _ _ ⟨Value.ref (hp.objs.size + 1) :: us, []⟩ (Value.ref (hp.objs.size + 1) :: (us ++ ds)) _ _ (fun _ _ _ => False) (hr.make C us []) (I2.env0.make C us []) (hb _ (Value.ref (hp.objs.size + 1) :: us) I2.kIn hl) r2 hq) fun r s' hq' => ?_))
  cases r with
  | error er => exact pass0 pins σ _ _ er s' I2 hq'
  | ok fl =>
    cases fl with
    | ret u =>
      obtain ⟨v, H2, os2, bare2, un2, hok2, rv, ev, ea, q2⟩ := hq'
      subst ev
      obtain ⟨h2, g2, d2, t2, os'⟩ := s'
      obtain ⟨t0, G, J, kG, ge, hoe, na⟩ := mk_endN (d2 := d2) (t2 := t2) I1 hsz kk un2 hok2 os2 bare2 ea
      exact ⟨rv, _, _, _, ⟨G, g2, d2, t2, os'⟩, _, .ref C, none, rfl, J, kG, ge, hoe, ⟨rfl, rfl⟩, rfl, rfl, na, rfl, bare2, raises_own T.exC T.tyC, q2⟩
    | next => exact False.elim hq'
    | brk => exact False.elim hq'
    | cont => exact False.elim hq'
end
theorem pe_callN0 {X : Cx} {CX : CXT} {k : Nat} {f : Addr} {fd : FuncData} {ps ks : List Str} {sp : Sp} {E : XK} {x : Str} {p pos : Pos} {kws : List Keyword} {tk : TA} {g : List Value → List Value → List Value} {gV : List V → List V → List V}
    (F : FnOk X.prog X.w X.K X.mg X.base CX k f fd ps sp) (hr : Room k X.A) (hg : Gl X x) (hm : X.mg x = some (.ref f)) (hk : PySem.W.keepIn X.K (.ref f) = true) (hb : KBn X.K fd ps 0 ks g gV) (hx : Passes CX X E)
    (hkw : PK X kws tk) (hall : (backToKw pos (keywordEach kws X.env)).all (·.1.isSome) = true := by rfl) (hks : (backToKw pos (keywordEach kws X.env)).filterMap (·.1) = ks := by rfl)
    (hdb : (x == ("__debug__" : Str)) = false := by decide) (hpl : ((backTo pos (starEach [] X.env)).any (·.1) || (backToKw pos (keywordEach kws X.env)).any (·.1.isNone)) = false := by rfl) :
    PE X (.Call (.Name x p) [] kws pos) (fun σ H Q => tk σ H fun zs H1 => zs.length = ks.length ∧ sp (gV [] zs) H1 Q E) := by
  refine ⟨fun pins s σ H Q I h => ?_⟩
  refine wpAny_Call_Name_kw (ld_glob I hg hm ?_ hdb)
  refine PySem.W.callWith_KW0 (h₀ := X.base) I.ok.mod.kin hk hall (thn (hkw.run pos pins s σ H _ I h) fun ws s2 ⟨zs, H2, I2, rz, l2, q2⟩ => ⟨I2.kIn, ?_⟩) hpl
  rw [hks]
  exact run_fnN (us := []) (vs := []) F hr hb hx I2 .nil rz rfl l2 q2
def swp {α : Type} : List α → List α
  | [a, b] => [b, a]
  | l => l
section
variable {P : Program} {w : World} {K : PySem.W.Frag} {mg : Str → Option Value} {base : Heap}
/-- f(x=..): all by keywords, in the def's order -/
abbrev KBs (K : PySem.W.Frag) (fd : FuncData) (ps : List Str) := KBn K fd ps 0 ps (fun _ ws => ws) (fun _ zs => zs)
theorem kb_of {x : Str} {st : Stmt} {f : Addr} {fd : FuncData} {ps : List Str} (F : Fun K x x st f fd)
    (hk : ∀ (kV doc pm : Value) (an : Option Addr) (cdv ct : Value) (ws : List Value), ws.length = ps.length → bindArgs (PySem.W.fnOf x x (defArgs st) (defBody st) (defScope st) .none kV doc pm an cdv ct) ⟨[], ps.zip ws⟩ = pure (ps.zip ws)) : KBs K fd ps := by
  obtain ⟨oc, od, kV, doc, pm, an, cdv, ct, osl, rfl, lk, hcd⟩ := F.ex
  refine ⟨fun s us ws _ hu hw => ?_, fun _ r => r⟩
  match us, hu with
  | [], _ => exact .of_eq (hk _ _ _ _ _ _ ws hw)
/-- two by keywords, the other way round -/
abbrev KBr (K : PySem.W.Frag) (fd : FuncData) (p q : Str) := KBn K fd [p, q] 0 [q, p] (fun _ ws => swp ws) (fun _ zs => swp zs)
theorem kbr_of {x : Str} {st : Stmt} {f : Addr} {fd : FuncData} {p q : Str} (F : Fun K x x st f fd)
    (hk : ∀ (kV doc pm : Value) (an : Option Addr) (cdv ct : Value) (a b : Value), bindArgs (PySem.W.fnOf x x (defArgs st) (defBody st) (defScope st) .none kV doc pm an cdv ct) ⟨[], [(q, a), (p, b)]⟩ = pure [(p, b), (q, a)]) : KBr K fd p q := by
  obtain ⟨oc, od, kV, doc, pm, an, cdv, ct, osl, rfl, lk, hcd⟩ := F.ex
  refine ⟨fun s us ws _ hu hw => ?_, fun {vs us zs ws} _ r => ?_⟩
  · match us, ws, hu, hw with
    | [], [a, b], _, _ => exact .of_eq (hk _ _ _ _ _ _ a b)
  · cases r with
    | nil => exact .nil
    | cons r1 r2 =>
      cases r2 with
      | nil => exact .cons r1 .nil
      | cons r3 r4 =>
        cases r4 with
        | nil => exact .cons r3 (.cons r1 .nil)
        | cons r5 r6 => exact .cons r1 (.cons r3 (.cons r5 r6))
def ReadyKX (P : Program) (w : World) (K : PySem.W.Frag) (mg : Str → Option Value) (base : Heap) (k : Nat) (x : Str) (ps : List Str) (sp : Sp) (kb : FuncData → Prop) : Prop :=
  ∃ f fd, mg x = some (.ref f) ∧ PySem.W.keepIn K (.ref f) = true ∧ Binds K fd ps [] ∧ kb fd ∧ FnOk P w K mg base (L2.CX P w) k f fd ps sp
theorem ReadyKX.x {k : Nat} {x : Str} {ps : List Str} {sp : Sp} {kb : FuncData → Prop} (R : ReadyKX P w K mg base k x ps sp kb) : ReadyX P w K mg base k x ps sp :=
  let ⟨f, fd, g, kp, b, _, G⟩ := R
  ⟨f, fd, g, kp, b, G⟩
theorem readyKX_of {x : Str} {st : Stmt} {k : Nat} {ps : List Str} {sp : Sp} {kb : FuncData → Prop} (A : FnAt K mg x st)
    (hb : ∀ (kV doc pm : Value) (an : Option Addr) (cdv ct : Value) (us : List Value), us.length = ps.length → bindArgs (PySem.W.fnOf x x (defArgs st) (defBody st) (defScope st) .none kV doc pm an cdv ct) ⟨us, []⟩ = pure (ps.zip us))
    (hk : ∀ f fd, Fun K x x st f fd → kb fd)
    (ok : ∀ f fd, Fun K x x st f fd → FnOk P w K mg base (L2.CX P w) k f fd ps sp) : ReadyKX P w K mg base k x ps sp kb := by
  obtain ⟨f, fd, F, g⟩ := A.ex
  exact ⟨f, fd, g, F.kp, F.binds hb, hk f fd F, ok f fd F⟩
end
end FL


namespace FL
open PySem PySem.Spec PyProof.Rows L2
theorem fold_rep (c : Nat) : ∀ (n : Nat) (acc : Array Nat), ((List.replicate n #[c]).foldl (· ++ ·) acc).toList = acc.toList ++ List.replicate n c
  | 0, acc => by simp
  | n + 1, acc => by
    rw [List.replicate_succ, List.foldl_cons, fold_rep c n, List.replicate_succ, Array.toList_append]
    simp
theorem op_mulS {X : Cx} : OpR X (binaryOp .Mult) (fun x y H Q => ∃ (c k : Nat), x = .str ⟨#[c]⟩ ∧ y = .int (k : Nat) ∧ k ≤ 10000 ∧ Q (.str (mk (List.replicate k c))) H) := by
  intro pins s σ H x y v u Q I rx ry h
  obtain ⟨c, k, rfl, rfl, hk, q⟩ := h
  obtain ⟨t, rfl⟩ := rx
  obtain ⟨t', rfl⟩ := ry
  by_cases h0 : k = 0
  · subst h0
    exact PySem.P.mul_str_none (by decide) (by decide) ⟨.str (mk []), H, I.tok _, ⟨_, rfl⟩, q⟩
  · have hl1 : (⟨#[c]⟩ : Str).length = 1 := rfl
    refine PySem.P.mul_str ?_ ?_ ?_ ?_
    · rw [decide_eq_false (by omega : ¬ ((k : Int) < -(2 ^ 63))), decide_eq_false (by omega : ¬ ((k : Int) ≥ 2 ^ 63))]
      rfl
    · intro _ _
      rw [hl1]
      have : (1 : Int) ≤ (2 ^ 63 - 1) / (k : Int) := by
        refine (Int.le_ediv_iff_mul_le (by omega)).mpr ?_
        omega
      omega
    · intro _ _
      rw [hl1, Int.toNat_natCast, Nat.one_mul]
      exact decide_eq_false (Nat.not_lt.mpr (Nat.le_of_lt (szl hk)))
    · rw [if_neg (by omega : ¬ ((k : Int) < 1))]
      by_cases h1 : k = 1
      · subst h1
        rw [if_pos (by rfl)]
        exact ⟨.str (mk [c]), H, I, ⟨t, rfl⟩, q⟩
      · rw [if_neg (by rw [hl1]; simp; omega), Int.toNat_natCast]
        have e : (⟨(List.replicate k (⟨#[c]⟩ : Str).cps).foldl (· ++ ·) #[]⟩ : Str) = mk (List.replicate k c) := mk_eq (by
          show ((List.replicate k #[c]).foldl (· ++ ·) #[]).toList = _
          rw [fold_rep]
          rfl)
        rw [e]
        refine ⟨?_, .str (mk (List.replicate k c)), H, I.tok _, ⟨_, rfl⟩, q⟩
        rw [mk_len, List.length_replicate]
        exact Nat.le_of_lt (szl hk)
theorem drawn_newM {a p : Addr} {H H1 : Hp} {o : HO} (x : Drawn a H H1) (n : H1 p = none) : Drawn a H (upd H1 p o) := x.same (same_new n)
theorem Src.neM {H : Hp} {a q : Addr} (s : Src H a) (n : H q = none) : q ≠ a := fun e => by
  obtain ⟨x, y, z, h⟩ := s
  rw [e, h] at n
  cases n
/-- a thing drawn: its number is less than m -/
def spNextM : Sp := fun vs H Q _ => ∃ (a : Addr) (m : Nat), vs = [.ref a, .int (m : Nat)] ∧ 1 ≤ m ∧ m ≤ 100000 ∧ Src H a ∧ ∀ (r : Nat) H', r < m → Drawn a H H' → Q (.int (r : Nat)) H'
theorem pickM {p : V → Prop} {xs : List V} {r : Nat} (h : r < xs.length) (hp : ∀ v ∈ xs, p v) : ∃ v, atI xs (r : Int) = some v ∧ p v :=
  ⟨xs[r]'h, atI_nat (List.getElem?_eq_getElem h), hp _ (List.getElem_mem h)⟩
theorem kn {H : Hp} {q p : Addr} {o x : HO} (h : H q = some o) (n : H p = none) : upd H p x q = some o := by
  rw [upd_ne (ne_of_none h n)]
  exact h
theorem free_drawn {a p : Addr} {H H1 : Hp} (x : Drawn a H H1) (h : H1 p = none) : H p = none := by
  cases e : H p with
  | none => rfl
  | some o =>
    rw [x.old p o (x.src.neM h) e] at h
    cases h
section
variable {P : Program} {w : World} {K : PySem.W.Frag} {mg : Str → Option Value} {base : Heap}
theorem next_m (R : Ready P w K mg base 2 "_law_next" ["_law_source_here", "_law_many"] spNext) : Ready P w K mg base 2 "_law_next" ["_law_source_here", "_law_many"] spNextM := by
  obtain ⟨f, fd, g, k, b, G⟩ := R
  refine ⟨f, fd, g, k, b, G.imp fun vs H Q E h => ?_⟩
  obtain ⟨a, m, rfl, h1, h2, ⟨x, y, z, hs⟩, q⟩ := h
  exact ⟨a, m, x, y, z, rfl, h1, h2, hs, fun r x' z' hr => q r _ hr drawn_upd⟩
end
end FL


namespace FL
open PySem PySem.Spec PyProof.Rows L2
section
variable {P : Program} {w : World} {K : PySem.W.Frag} {mg : Str → Option Value} {base : Heap}
abbrev sNC : Stmt := inClass cNoCode 0
theorem scNC : FnScope ["self", "why", "at"] ["self", "why", "at"] (defScope sNC) := ⟨rfl, rfl, rfl, by decide +kernel, rfl, by decide +kernel, by decide +kernel⟩
theorem ok_NC {C CL fL f : Addr} {fd fdL : FuncData} (F : FunA K "NoCode.__init__" sNC [.int 0] f fd) (FL : FunA K "LetterError.__init__" sLE [.str ""] fL fdL) (TL : ClsFn K CL fL) (gL : mg "LetterError" = some (.ref CL)) (mV : mg "ValueError" = none)
    (vV : PySem.W.findCls K (.type "ValueError") (.type "type") "__init__" = some (.val (.builtin "ValueError.__init__"))) (T : OexC K C) (hno : PySem.W.findIn K (.ref C) "at" = some none) :
    FnOk P w K mg base CX0 2 f fd ["self", "why", "at"] (spFld C "at") := by
  have GL : FnOk P w K mg base CX0 1 fL fdL ["self", "why"] (spLE K) := ok_LE FL mV vV
  obtain ⟨ds, vds, bds⟩ := bind_LE FL
  refine FunD.ok F scNC (fun vs H Q E h => ?_) (fun cdv A outer s H vs Q E hr h => ?_)
  · obtain ⟨a, v, y, rfl, _⟩ := h
    rfl
  · obtain ⟨a, v, y, rfl, hH, q⟩ := h
    refine ⟨_, pss_cons (ps_expr (pe_cinit TL GL hr (by rfl) gL bds vds pass0 (pa_cons (pv 0) (pa_cons (pv 1) pa_nil)))) (pss_one (ps_ost (pv 0) (pv 2))), ?_⟩
    refine ⟨_, rfl, _, rfl, a, C, v, rfl, T, hH, ?_⟩
    exact ⟨_, rfl, _, rfl, a, C, rfl, T, hno, .inl ⟨hH, fun dx n1 n2 => q dx n1 n2⟩⟩
theorem mk_NC {C CL fL f : Addr} {fd fdL : FuncData} (F : FunA K "NoCode.__init__" sNC [.int 0] f fd) (FL : FunA K "LetterError.__init__" sLE [.str ""] fL fdL) (TL : ClsFn K CL fL) (gL : mg "LetterError" = some (.ref CL)) (mV : mg "ValueError" = none)
    (vV : PySem.W.findCls K (.type "ValueError") (.type "type") "__init__" = some (.val (.builtin "ValueError.__init__"))) (T : OexC K C) (hno : PySem.W.findIn K (.ref C) "at" = some none) (g : mg "NoCode" = some (.ref C))
    (iC : PySem.W.findIn K (.ref C) "__init__" = some (some (.ref f))) (tI : PySem.W.typeIn K (.ref f) = some (.type "function")) : MkFld P w K mg base "NoCode" C "at" :=
  ⟨T, g, f, fd, iC, tI, ok_NC F FL TL gL mV vV T hno,
    FunD.binds1 (ps := ["self", "why", "at"]) F 3 1 (by simp) rfl fun T kV doc pm an cdv ct us its hu hi => match us, its, hu, hi with | [_, _, _], [_], _, _ => ⟨_, rfl, rfl⟩,
    FunD.binds1 (ps := ["self", "why", "at"]) F 2 0 (by simp) rfl fun T kV doc pm an cdv ct us its hu hi => match us, its, hu, hi with | [_, _], [_], _, _ => ⟨_, rfl, rfl⟩⟩
end
end FL


namespace FL
open PySem PySem.Spec PyProof.Rows L2
/-! ### enumerate of a text -/
/-- each sign with its place, in a new pair -/
def IteS (z : Str) : It :=
  ⟨fun i _ => i < z.cps.size, fun i H v H' => ∃ T c, v = .ref T ∧ H T = none ∧ H' = upd H T (.tup [.int (i : Nat), .str ⟨#[c]⟩]) ∧ z.cps[i]? = some c, fun i _ => z.cps.size ≤ i⟩
theorem turn_enumS {P : Program} {w : World} {K : PySem.W.Frag} {elts : List Expr} {kk : Nat} {tpos : Pos} (e it : Addr) (z : Str) (t : Tok) :
    Turn P w K (.Tuple elts kk tpos) (IteS z) [e, it] e (fun i h => (∃ old, IsEnum h e it ((i : Nat) : Int) old) ∧ h.IsStrIter it (strIterType z) z t i ∧ e ≠ it ∧ i ≤ z.cps.size) where
  mem := by simp
  obj := fun i h st b hb => by
    obtain ⟨⟨old, he⟩, ⟨o, ho, hc, hd⟩, _⟩ := st
    have e' : b = e ∨ b = it := by simpa using hb
    rcases e' with z | z
    · rw [z]; exact ⟨_, he, fun v q => nomatch q⟩
    · rw [z]; exact ⟨o, ho, fun v q => by rw [hd] at q; cases q⟩
  keep := fun i h h' st k => let ⟨⟨old, he⟩, hi, hne⟩ := st; ⟨⟨old, k e (by simp) _ he⟩, (let ⟨o, ho, r⟩ := hi; ⟨o, k it (by simp) o ho, r⟩), hne⟩
  item := by
    intro X hP hw hK hc i pins s σ H E I hf st hg
    subst hP hw hK
    obtain ⟨⟨old, he⟩, hit, hne, hle⟩ := st
    have hg : i < z.cps.size := hg
    have hel : e < s.heap.objs.size := Heap.lt_size he
    have hil : it < s.heap.objs.size := by obtain ⟨_, q, _⟩ := id hit; exact Heap.lt_size q
    have D := Draws.text (prog := X.prog) (w := X.w) (A := X.A.in1) (I.ok.hd hc) it z t
    refine wpAny_pyNext_enum_itemD D he hit hg hne (by simpa using hne) fun x h' tk hx ho hit' hT hsz hk => ?_
    obtain ⟨c, u, hcx, rfl⟩ := hx
    refine ⟨_, rfl, wpAny_letOwnedTupleGo_enum (s := { s with heap := h', toks := tk + 1 }) ho fun h'' he' sb => ?_⟩
    have hT2 : h''.get? s.heap.objs.size = some { cls := .type "tuple", data := .seq #[.int i tk, .str ⟨#[c]⟩ u] } := (sb.2 _ (Nat.ne_of_gt hel)).trans hT
    have new : ObjOk X.prog X.w (upd H s.heap.objs.size (.tup [.int (i : Nat), .str ⟨#[c]⟩])) h'' s.heap.objs.size (.tup [.int (i : Nat), .str ⟨#[c]⟩]) :=
      ⟨by show 2 ≤ sizeLine; decide, [.int i tk, .str ⟨#[c]⟩ u], .cons ⟨_, rfl⟩ (.cons ⟨_, rfl⟩ .nil), ⟨_, hT2, rfl, _, rfl⟩⟩
    have I1 : Inv X pins σ (upd H s.heap.objs.size (.tup [.int (i : Nat), .str ⟨#[c]⟩])) { s with heap := h'', toks := tk + 1 } :=
      I.turnedNew (ch := [e, it]) (fun b ob hb q => (sb.2 b (fun z => hb (by simp [z]))).trans (hk b ob (fun z => hb (by simp [z])) (fun z => hb (by simp [z])) q)) hf (Nat.le_refl _) new
    refine ⟨.ref s.heap.objs.size, _, I1, rfl, ⟨_, c, rfl, I.hok.fresh (Nat.le_refl _), rfl, hcx⟩, ⟨⟨.str ⟨#[c]⟩ u, ?_⟩, ?_, hne, hg⟩, fun b hb => ?_⟩
    · have e1 : ((i + 1 : Nat) : Int) = (i : Int) + 1 := by omega
      rw [e1]; exact he'
    · obtain ⟨o, ho2, r⟩ := hit'
      exact ⟨o, (sb.2 it (Ne.symm hne)).trans ho2, r⟩
    · have hb' : b < s.heap.objs.size := by
        have e' : b = e ∨ b = it := by simpa using hb
        rcases e' with z | z
        · rw [z]; exact hel
        · rw [z]; exact hil
      rw [upd_ne (Nat.ne_of_lt hb')]
      exact (hf b hb).1
  done := by
    intro X hP hw hK hc i pins s σ H E I hf st hg
    subst hP hw hK
    obtain ⟨⟨old, he⟩, hit, hne, hle⟩ := st
    have hg : z.cps.size ≤ i := hg
    have ei : i = z.cps.size := by omega
    subst ei
    obtain ⟨f0, f1, f2, f3, f4, f5⟩ := hf it (by simp)
    have D := Draws.text (prog := X.prog) (w := X.w) (A := X.A.in1) (I.ok.hd hc) it z t
    exact wpAny_pyNext_enum_endD D he hit fun h' eb => ⟨rfl, I.turned (t' := s.toks) (fun b o hb q => eb b o hb q) f0 f1 f3 f4 f5⟩
  self := fun A i s Q E st h => let ⟨⟨_, he⟩, _⟩ := st; wpAny_pyIter_enum he h
def iEnumS (ta : TA) : TI := fun σ H R => ta σ H fun vs H1 => ∃ z, vs = [.str z] ∧ R (IteS z) H1
theorem pi_enumS {X : Cx} {e : Expr} {ta : TA} {p pos tpos : Pos} {elts : List Expr} {kk : Nat} (hg : Gl X "enumerate") (hm : X.mg "enumerate" = none) (ha : PA X [e] ta) (hs : starEach [e] X.env = [(false, eval e X.env)] := by rfl) :
    PI X (.Tuple elts kk tpos) (.Call (.Name "enumerate" p) [e] [] pos) (iEnumS ta) := by
  refine ⟨fun pins s σ H R I h => ?_⟩
  refine Call_ (ld_blt I hg hm boot_enumerate (PyProof.Rows.callWith_type1 (thn (ha.run pos pins s σ H _ I h) fun us s1 ⟨vs, H1, I1, r1, q1⟩ => ?_) hs rfl))
  obtain ⟨z, ex, q⟩ := q1
  subst ex
  cases r1 with
  | cons r rr =>
    cases rr
    obtain ⟨t, rfl⟩ := r
    refine call_enumerate_str fun h' he hit hsz hk => wpAny_pyIter_enum he ?_
    have I2 : Inv X pins σ H1 { s1 with heap := h' } := I1.kept (t' := s1.toks) hk
    refine ⟨s1.heap.objs.size + 1, [s1.heap.objs.size + 1, s1.heap.objs.size], _, _, H1, rfl, I2, turn_enumS (s1.heap.objs.size + 1) s1.heap.objs.size z t, ⟨⟨.none, he⟩, hit, Nat.succ_ne_self _, Nat.zero_le _⟩, fun b hb => ?_, q⟩
    have e' : b = s1.heap.objs.size + 1 ∨ b = s1.heap.objs.size := by simpa using hb
    have hle : s1.heap.objs.size ≤ b := by
      rcases e' with z | z
      · rw [z]; exact Nat.le_add_right _ _
      · rw [z]; exact Nat.le_refl _
    exact I1.fpOk hle (I1.hok.fresh hle)
theorem walk_enumS {z : Str} : Walk (IteS z) z.cps.size (fun _ => True) (fun i H v H' => ∃ T c, v = .ref T ∧ H T = none ∧ H' = upd H T (.tup [.int (i : Nat), .str ⟨#[c]⟩]) ∧ z.cps[i]? = some c) :=
  ⟨fun _ _ hi _ => hi, fun _ _ => Nat.le_refl _, fun _ _ _ _ _ _ y => y⟩
end FL


namespace FL
open PySem PySem.Spec PyProof.Rows L2
/-! ### numbers by a format -/
section
open Builtin Builtin.Str Builtin.Int Builtin.Float
/-- the codes of a number's figures -/
def dgs (b : Nat) (f : Char → Char) (n : Nat) : List Nat := (Nat.toDigits b n).map fun c => (f c).toNat
/-- s the sign, D the figures, filled up by 0 to w -/
def fld (w : Nat) (s D : List Nat) : List Nat :=
  let ds := if D.isEmpty then [] else List.replicate (((w : Int) - ((s.length : Int) + ((0 : Nat) : Int) + ((0 : Nat) : Int))).toNat - D.length) 48 ++ D
  List.replicate 0 48 ++ s ++ [] ++ List.replicate ((w : Int) - ((s.length : Int) + ((0 : Nat) : Int) + ((0 : Nat) : Int)) - (ds.length : Int)).toNat 48 ++ ds ++ [] ++ List.replicate 0 48
theorem fld_of {w : Nat} {D : List Nat} (h : D ≠ []) : fld w [] D = List.replicate (w - D.length) 48 ++ D := by
  unfold fld
  have h1 : D.isEmpty = false := by cases D with
    | nil => exact absurd rfl h
    | cons a r => rfl
  simp only [h1, List.length_nil, Bool.false_eq_true, if_false, List.replicate_zero, List.nil_append, List.append_nil]
  have h2 : (((w : Int) - (((0 : Nat) : Int) + ((0 : Nat) : Int) + ((0 : Nat) : Int))).toNat) = w := by omega
  rw [h2]
  have h3 : ((w : Int) - (((0 : Nat) : Int) + ((0 : Nat) : Int) + ((0 : Nat) : Int)) - ((List.replicate (w - D.length) 48 ++ D).length : Int)).toNat = 0 := by
    rw [List.length_append, List.length_replicate]
    omega
  rw [h3]
  rfl
theorem neg_no (n : Nat) : (if decide ((n : Int) < 0) = true then [45] else ([] : List Nat)) = [] := if_neg (by rw [decide_eq_false (by omega : ¬ (n : Int) < 0)]; exact Bool.false_ne_true)
theorem small_log {n : Nat} (h : n < 10000) : (n : Int).natAbs.log2 < 1920 := by
  rw [Int.natAbs_natCast]
  by_cases h0 : n = 0
  · subst h0; decide
  · have h1 : n.log2 < 14 := (Nat.log2_lt h0).mpr (Nat.lt_of_lt_of_le h (by decide))
    omega
theorem dgs_lt {b n : Nat} {f : Char → Char} (h : n < b) : dgs b f n = [(f n.digitChar).toNat] := by
  unfold dgs
  rw [Nat.toDigits_of_lt_base h]
  rfl
theorem dgs_ge {b n : Nat} {f : Char → Char} (h1 : 1 < b) (h : b ≤ n) : dgs b f n = dgs b f (n / b) ++ [(f (n % b).digitChar).toNat] := by
  unfold dgs
  rw [Nat.toDigits_of_base_le h1 h, List.map_append]
  rfl
theorem dig10 : ∀ k, k < 10 → (id k.digitChar).toNat = 48 + k := by decide
def hexd (k : Nat) : Nat := if k < 10 then 48 + k else 55 + k
theorem dig16 : ∀ k, k < 16 → (k.digitChar.toUpper).toNat = hexd k := by decide +kernel
def hex2 (n : Nat) : List Nat := [hexd (n / 16), hexd (n % 16)]
def dec2 (n : Nat) : List Nat := [48 + n / 10, 48 + n % 10]
def dec4 (n : Nat) : List Nat := [48 + n / 1000, 48 + n / 100 % 10, 48 + n / 10 % 10, 48 + n % 10]
/-- without a 0 ahead -/
def decs (n : Nat) : List Nat := if n < 10 then [48 + n] else if n < 100 then [48 + n / 10, 48 + n % 10] else if n < 1000 then [48 + n / 100, 48 + n / 10 % 10, 48 + n % 10] else dec4 n
theorem dgs10 {n : Nat} (h : n < 10000) : dgs 10 id n = decs n := by
  unfold decs
  split
  · rename_i h1
    rw [dgs_lt h1, dig10 n h1]
  · split
    · rename_i h1 h2
      rw [dgs_ge (by decide) (by omega), dgs_lt (by omega), dig10 _ (by omega), dig10 _ (by omega)]
      rfl
    · split
      · rename_i h1 h2 h3
        rw [dgs_ge (by decide) (by omega), dgs_ge (by decide) (by omega), dgs_lt (by omega), dig10 _ (by omega), dig10 _ (by omega), dig10 _ (by omega), Nat.div_div_eq_div_mul]
        rfl
      · rw [dgs_ge (by decide) (by omega), dgs_ge (by decide) (by omega), dgs_ge (by decide) (by omega), dgs_lt (by omega), dig10 _ (by omega), dig10 _ (by omega), dig10 _ (by omega), dig10 _ (by omega)]
        unfold dec4
        rw [show n / 1000 = n / 10 / 10 / 10 by omega, show n / 100 % 10 = n / 10 / 10 % 10 by omega]
        rfl
theorem fld2 {n : Nat} (h : n < 100) : fld 2 (if decide ((n : Int) < 0) = true then [45] else []) (dgs 10 id n) = dec2 n := by
  rw [neg_no, dgs10 (by omega)]
  unfold decs dec2
  split
  · rename_i h1
    rw [fld_of (by simp), show n / 10 = 0 by omega, show n % 10 = n by omega]
    rfl
  · rw [fld_of (by simp)]
    rfl
theorem fld4 {n : Nat} (h : n < 10000) : fld 4 (if decide ((n : Int) < 0) = true then [45] else []) (dgs 10 id n) = dec4 n := by
  rw [neg_no, dgs10 h]
  unfold decs
  split
  · rw [fld_of (by simp)]
    unfold dec4
    rw [show n / 1000 = 0 by omega, show n / 100 % 10 = 0 by omega, show n / 10 % 10 = 0 by omega, show n % 10 = n by omega]
    rfl
  · split
    · rw [fld_of (by simp)]
      unfold dec4
      rw [show n / 1000 = 0 by omega, show n / 100 % 10 = 0 by omega, show n / 10 % 10 = n / 10 by omega]
      rfl
    · split
      · rw [fld_of (by simp)]
        unfold dec4
        rw [show n / 1000 = 0 by omega, show n / 100 % 10 = n / 100 by omega]
        rfl
      · rw [fld_of (by simp [dec4])]
        rfl
theorem fldX {n : Nat} (h : n < 256) : fld 2 (if decide ((n : Int) < 0) = true then [45] else []) (dgs 16 Char.toUpper n) = hex2 n := by
  rw [neg_no]
  unfold hex2
  by_cases h1 : n < 16
  · rw [dgs_lt h1, dig16 n h1, fld_of (by simp), show n / 16 = 0 by omega, show n % 16 = n by omega]
    rfl
  · rw [dgs_ge (by decide) (by omega), dgs_lt (by omega), dig16 _ (by omega), dig16 _ (by omega), fld_of (by simp)]
    rfl
theorem fmt_X (t u : Tok) (n : Nat) : Gives («int.__format__» ⟨[.int (n : Int) t, .str "02X" u], []⟩) (.str ⟨(fld 2 (if decide ((n : Int) < 0) = true then [45] else []) (dgs 16 Char.toUpper n)).toArray⟩) := by
  exact .of_eq rfl
theorem fmt_02d (t u : Tok) (n : Nat) (h : (n : Int).natAbs.log2 < 1920) : Gives («int.__format__» ⟨[.int (n : Int) t, .str "02d" u], []⟩) (.str ⟨(fld 2 (if decide ((n : Int) < 0) = true then [45] else []) (dgs 10 id n)).toArray⟩) := by
  refine (show Gives (Bind.bind (overDigitLimit? (n : Int)) _) _ from ?_)
  rw [PySem.overDigitLimit_small h]
  exact .of_eq rfl
theorem fmt_04d (t u : Tok) (n : Nat) (h : (n : Int).natAbs.log2 < 1920) : Gives («int.__format__» ⟨[.int (n : Int) t, .str "04d" u], []⟩) (.str ⟨(fld 4 (if decide ((n : Int) < 0) = true then [45] else []) (dgs 10 id n)).toArray⟩) := by
  refine (show Gives (Bind.bind (overDigitLimit? (n : Int)) _) _ from ?_)
  rw [PySem.overDigitLimit_small h]
  exact .of_eq rfl
end
section
variable {X : Cx} {e : Expr} {te : TE} {k : Nat} {p1 p2 pos : Pos}
/-- {e:sp}, e a whole number from 0 on below b -/
def tFmtS (f : Nat → List Nat) (b : Nat) (te : TE) : TE := fun σ H Q => te σ H fun x H1 => ∃ n : Nat, x = .int (n : Int) ∧ n < b ∧ Q (.str (mk (f n))) H1
theorem pe_fmtS {sp : Str} {f : Nat → List Nat} {b : Nat} (hne : (sp.length == 0) = false) (hsz : sp.length ≤ sizeLine) (hf : ∀ n, n < b → (f n).length ≤ 100)
    (g : ∀ (t u : Tok) (n : Nat), n < b → Gives (Builtin.«int.__format__» ⟨[.int (n : Int) t, .str sp u], []⟩) (.str (mk (f n)))) (he : PE X e te) :
    PE X (.FormattedValue e (-1) (some (.JoinedStr [.Constant (.str sp) k p1] p2)) pos) (tFmtS f b te) := by
  refine ⟨fun pins s σ H Q I h => ?_⟩
  refine wpAny_FormattedValue_spec (thn (he.run pins s σ H _ I h) fun v s1 hv => ?_)
  obtain ⟨x, H1, I1, r1, n, rfl, hn, q⟩ := hv
  obtain ⟨t, rfl⟩ := r1
  refine thn ((pe_joined1 pe_str).run pins s1 σ H1 (fun y H2 => y = .str sp ∧ H2 = H1) I1 ⟨rfl, rfl⟩) fun r s2 hr => ?_
  obtain ⟨y, H2, I2, r2, rfl, rfl⟩ := hr
  obtain ⟨u, rfl⟩ := r2
  refine ⟨sp, u, rfl, ?_⟩
  refine wpAny_formatField_spec hne (fun s' => typeIs_int s' _ t) F.slot_int_format F.entry_int_format (fun a b => F.args_int_format_2 a b) (fun u => g t u n hn) ⟨.str (mk (f n)), _, I2.tok _, ⟨_, rfl⟩, q⟩ hsz ?_
  rw [mk_len]
  exact Nat.le_of_lt (szl (by have := hf n hn; omega))
theorem pe_fmtX (he : PE X e te) : PE X (.FormattedValue e (-1) (some (.JoinedStr [.Constant (.str "02X") k p1] p2)) pos) (tFmtS hex2 256 te) :=
  pe_fmtS (by decide +kernel) (by decide +kernel) (fun _ _ => by simp [hex2]) (fun t u n hn => by have := fmt_X t u n; rw [fldX hn] at this; exact this) he
theorem pe_fmt2 (he : PE X e te) : PE X (.FormattedValue e (-1) (some (.JoinedStr [.Constant (.str "02d") k p1] p2)) pos) (tFmtS dec2 100 te) :=
  pe_fmtS (by decide +kernel) (by decide +kernel) (fun _ _ => by simp [dec2]) (fun t u n hn => by have := fmt_02d t u n (small_log (by omega)); rw [fld2 hn] at this; exact this) he
theorem pe_fmt4 (he : PE X e te) : PE X (.FormattedValue e (-1) (some (.JoinedStr [.Constant (.str "04d") k p1] p2)) pos) (tFmtS dec4 10000 te) :=
  pe_fmtS (by decide +kernel) (by decide +kernel) (fun _ _ => by simp [dec4]) (fun t u n hn => by have := fmt_04d t u n (small_log hn); rw [fld4 hn] at this; exact this) he
/-- str(n) -/
theorem toString_codes {n : Nat} (h : n < 10000) : ((toString (n : Int) : String) : Str) = mk (decs n) := by
  refine mk_eq ?_
  rw [← dgs10 h]
  exact TL.tl_num n
end
end FL


namespace FL
open PySem PySem.Spec PyProof.Rows L2
/-! ### sixes -/
def SIXS : Str := "ABCDEFGHIJKLMNOPQRSTUVWXYZabcdefghijklmnopqrstuvwxyz0123456789+/"
def six (n : Nat) : Nat := SIXS.cps.getD n 0
theorem six_at : ∀ n, n < 64 → SIXS.cps[n]? = some (six n) := by decide +kernel
theorem six_len : SIXS.length = 64 := by decide +kernel
def four : List Nat → List Nat
  | [a] => [six (a / 4), six (a % 4 * 16), 61, 61]
  | [a, b] => [six (a / 4), six (a % 4 * 16 + b / 16), six (b % 16 * 4), 61]
  | [a, b, c] => [six (a / 4), six (a % 4 * 16 + b / 16), six (b % 16 * 4 + c / 64), six (c % 64)]
  | _ => []
def sixC : List Nat → List Nat
  | [] => []
  | [a] => four [a]
  | [a, b] => four [a, b]
  | a :: b :: c :: r => four [a, b, c] ++ sixC r
theorem four_len {l : List Nat} (h1 : 1 ≤ l.length) (h2 : l.length ≤ 3) : (four l).length = 4 := by
  match l, h1, h2 with
  | [_], _, _ => rfl
  | [_, _], _, _ => rfl
  | [_, _, _], _, _ => rfl
theorem sixC_step {l : List Nat} (h : l ≠ []) : sixC l = four (l.take 3) ++ sixC (l.drop 3) := by
  match l, h with
  | [_], _ => rfl
  | [_, _], _ => rfl
  | [a, b, c], _ => rfl
  | a :: b :: c :: d :: r, _ => rfl
theorem e61 : ("=" : Str) = mk [61] := by decide +kernel
theorem szX {l : List Nat} (h : l.length ≤ 10000) : (mk l).length ≤ sizeLine := by rw [mk_len]; exact Nat.le_of_lt (szl h)
theorem catX {a b : Str} {l m : List Nat} (ha : a = mk l) (hb : b = mk m) : a ++ b = mk (l ++ m) := by rw [ha, hb, mk_app]
theorem szE {x : Str} {l : List Nat} (h : x = mk l) (hl : l.length ≤ 10000) : x.length ≤ sizeLine := by rw [h]; exact szX hl
theorem cut_toX (z : Str) {p : Nat} (h : p ≤ z.length) : (cutS z none (some (p : Nat))).cps.toList = z.cps.toList.take p := by
  unfold cutS
  rw [HT.sIx_none, HT.sIx_nat, Nat.min_eq_left h]
  show (List.take _ (List.drop 0 _)) = _
  rw [List.drop_zero, Nat.sub_zero]
section
variable {P : Program} {w : World} {K : PySem.W.Frag} {mg : Str → Option Value} {base : Heap}
def spFour : Sp := fun vs H Q _ => ∃ (a : Addr) (l : List Nat), vs = [.ref a] ∧ H a = some (.lst (iv l)) ∧ (∀ n ∈ l, n < 256) ∧ 1 ≤ l.length ∧ l.length ≤ 3 ∧ ∀ H', Same H H' → Q (.str (mk (four l))) H'
theorem scFourOf : FnScope ["octets", "missing", "first", "second", "third", "number", "four"] ["octets"] (defScope sFourOf) := ⟨rfl, rfl, rfl, by decide +kernel, rfl, by decide +kernel, by decide +kernel⟩
theorem r_four_of (A : FnAt K mg "_four_of" sFourOf) (m_len : mg "len" = none) {t1 : Tok} (m_SIXES : mg "SIXES" = some (.str SIXS t1)) : Ready P w K mg base 1 "_four_of" ["octets"] spFour := by
  refine ready_of A (fun _ _ _ _ _ _ us hl => match us, hl with | [_], _ => rfl) fun f fd F => ?_
  refine F.ok scFourOf (fun vs H Q E h => ?_) (fun cdv A outer s H vs Q E hr h => ?_)
  · obtain ⟨a, l, rfl, _⟩ := h
    rfl
  · obtain ⟨a, l, rfl, ha, hb, h1, h2, q⟩ := h
    have sc := scFourOf
    refine ⟨_, pss_cons (ps_set (i := 1) sc.nd rfl (.inl rfl) (pe_op op_sub pe_int (pe_callB call_len_seq (by rfl) m_len PySem.boot_len (pa_cons (pv 0) pa_nil))))
      (pss_cons (ps_asg (pe_op op_cat (pv 0) (pe_op op_rep (pe_lst (pa_cons pe_int pa_nil)) (pv 1))) (pg_lst rfl (pgs_cons (pg_name (i := 2) sc.nd rfl (.inl rfl)) (pgs_cons (pg_name (i := 3) sc.nd rfl (.inl rfl)) (pgs_cons (pg_name (i := 4) sc.nd rfl (.inl rfl)) pgs_nil)))))
      (pss_cons (ps_set (i := 5) sc.nd rfl (.inl rfl) (pe_op op_add (pe_op op_add (pe_op op_mul pe_int (pv 2)) (pe_op op_mul pe_int (pv 3))) (pv 4)))
      (pss_cons (ps_set (i := 6) sc.nd rfl (.inl rfl) (pe_op op_add_str (pe_op op_add_str (pe_op op_add_str (pe_item_str (pe_glob (v := .str SIXS) rfl m_SIXES ⟨_, rfl⟩) (pe_op op_fdiv (pv 5) pe_int) (fun _ _ => rfl)) (pe_item_str (pe_glob (v := .str SIXS) rfl m_SIXES ⟨_, rfl⟩) (pe_op op_mod (pe_op op_fdiv (pv 5) pe_int) pe_int) (fun _ _ => rfl))) (pe_item_str (pe_glob (v := .str SIXS) rfl m_SIXES ⟨_, rfl⟩) (pe_op op_mod (pe_op op_fdiv (pv 5) pe_int) pe_int) (fun _ _ => rfl))) (pe_item_str (pe_glob (v := .str SIXS) rfl m_SIXES ⟨_, rfl⟩) (pe_op op_mod (pv 5) pe_int) (fun _ _ => rfl))))
      (pss_one (ps_ret (pe_op op_add_str (pe_slice sl_str (pv 6) po_none (po_some (pe_op op_sub pe_int (pv 1)))) (pe_op op_mulS pe_str (pv 1)))))))), ?_⟩
    obtain ⟨x, y, z, hx, hy, hz, hpad, hfour⟩ : ∃ x y z : Nat, x < 256 ∧ y < 256 ∧ z < 256 ∧ l ++ List.replicate (3 - l.length) 0 = [x, y, z] ∧ four l = ([six (x / 4), six (x % 4 * 16 + y / 16), six (y % 16 * 4 + z / 64), six (z % 64)].take (4 - (3 - l.length))) ++ List.replicate (3 - l.length) 61 := by
      match l, h1, h2, hb with
      | [x], _, _, hb => exact ⟨x, 0, 0, hb x (by simp), by omega, by omega, rfl, rfl⟩
      | [x, y], _, _, hb => exact ⟨x, y, 0, hb x (by simp), hb y (by simp), by omega, rfl, rfl⟩
      | [x, y, z], _, _, hb => exact ⟨x, y, z, hb x (by simp), hb y (by simp), hb z (by simp), rfl, rfl⟩
    refine ⟨_, rfl, a, _, rfl, .inl (SqL.of ha), _, _, rfl, rfl, ?_⟩
    rw [iv_len]
    dsimp only
    obtain ⟨ms, hms⟩ : ∃ ms : Nat, ms = 3 - l.length := ⟨_, rfl⟩
    rw [show ((3 : Int) - ((l.length : Nat) : Int)) = ((ms : Nat) : Int) by omega]
    rw [← hms] at hpad hfour
    refine ⟨_, rfl, (by show 1 ≤ sizeLine; decide), fun p1 n1 => ?_⟩
    refine ⟨_, rfl, p1, (ms : Int), _, rfl, rfl, upd_same, by omega, by omega, by show 1 * (ms : Int).toNat ≤ sizeLine; rw [sizeLine_eq]; omega, fun p2 n2 => ?_⟩
    have erep : (List.replicate ((ms : Int)).toNat [V.int 0]).flatten = iv (List.replicate ms 0) := by
      rw [Int.toNat_natCast]
      clear hms hpad hfour
      induction ms with
      | zero => rfl
      | succ n ih =>
        rw [List.replicate_succ, List.flatten_cons, ih, List.replicate_succ]
        rfl
    rw [erep]
    refine ⟨a, p2, _, _, rfl, rfl, kn (kn ha n1) n2, upd_same, by rw [iv_len, iv_len, List.length_replicate, sizeLine_eq]; omega, fun p3 n3 => ?_⟩
    rw [← iv_app, hpad]
    refine ⟨p3, _, rfl, SqL.of upd_same, rfl, _, _, rfl, _, _, rfl, _, _, rfl, rfl, ?_⟩
    refine ⟨_, rfl, _, _, rfl, rfl, .inl ⟨by decide, by decide⟩, _, rfl, _, _, rfl, rfl, .inl ⟨by decide, by decide⟩, _, _, rfl, rfl, _, rfl, _, _, rfl, rfl, ?_⟩
    dsimp only
    obtain ⟨N, hN⟩ : ∃ N : Nat, N = 65536 * x + 256 * y + z := ⟨_, rfl⟩
    rw [show 65536 * (x : Int) + 256 * (y : Int) + (z : Int) = (N : Int) by omega]
    refine ⟨_, rfl, _, _, rfl, rfl, ⟨by decide, by decide⟩, ?_⟩
    dsimp only
    rw [show (N : Int) / 262144 = ((x / 4 : Nat) : Int) by omega]
    refine ⟨SIXS, _, six (x / 4), rfl, rfl, by omega, by omega, by rw [six_len]; omega, by rw [Int.toNat_natCast]; exact six_at _ (by omega), ?_⟩
    refine ⟨_, rfl, _, _, rfl, rfl, ⟨by decide, by decide⟩, _, _, rfl, rfl, (by show (0 : Int) < 64; decide), ?_⟩
    dsimp only
    rw [show (N : Int) / 4096 % 64 = ((x % 4 * 16 + y / 16 : Nat) : Int) by omega]
    refine ⟨SIXS, _, six (x % 4 * 16 + y / 16), rfl, rfl, by omega, by omega, by rw [six_len]; omega, by rw [Int.toNat_natCast]; exact six_at _ (by omega), ?_⟩
    have c1 := catX (rfl : mk [six (x / 4)] = _) (rfl : mk [six (x % 4 * 16 + y / 16)] = _)
    refine ⟨_, _, rfl, rfl, (by rw [← len_append]; exact szE c1 (by simp)), ?_⟩
    refine ⟨_, rfl, _, _, rfl, rfl, ⟨by decide, by decide⟩, _, _, rfl, rfl, (by show (0 : Int) < 64; decide), ?_⟩
    dsimp only
    rw [show (N : Int) / 64 % 64 = ((y % 16 * 4 + z / 64 : Nat) : Int) by omega]
    refine ⟨SIXS, _, six (y % 16 * 4 + z / 64), rfl, rfl, by omega, by omega, by rw [six_len]; omega, by rw [Int.toNat_natCast]; exact six_at _ (by omega), ?_⟩
    have c2 := catX c1 (rfl : mk [six (y % 16 * 4 + z / 64)] = _)
    refine ⟨_, _, rfl, rfl, (by rw [← len_append]; exact szE c2 (by simp)), ?_⟩
    refine ⟨_, rfl, _, _, rfl, rfl, (by show (0 : Int) < 64; decide), ?_⟩
    dsimp only
    rw [show (N : Int) % 64 = ((z % 64 : Nat) : Int) by omega]
    refine ⟨SIXS, _, six (z % 64), rfl, rfl, by omega, by omega, by rw [six_len]; omega, by rw [Int.toNat_natCast]; exact six_at _ (by omega), ?_⟩
    have c3 := catX c2 (rfl : mk [six (z % 64)] = _)
    refine ⟨_, _, rfl, rfl, (by rw [← len_append]; exact szE c3 (by simp)), ?_⟩
    have e4 : mk [six (x / 4)] ++ mk [six (x % 4 * 16 + y / 16)] ++ mk [six (y % 16 * 4 + z / 64)] ++ mk [six (z % 64)] = mk [six (x / 4), six (x % 4 * 16 + y / 16), six (y % 16 * 4 + z / 64), six (z % 64)] := c3
    refine ⟨_, rfl, _, rfl, _, _, rfl, rfl, _, rfl, mk [six (x / 4), six (x % 4 * 16 + y / 16), six (y % 16 * 4 + z / 64), six (z % 64)], congrArg V.str e4, szX (by simp), ?_⟩
    dsimp only
    have e5 : cutS (mk [six (x / 4), six (x % 4 * 16 + y / 16), six (y % 16 * 4 + z / 64), six (z % 64)]) none (some (4 - ((ms : Nat) : Int))) = mk ([six (x / 4), six (x % 4 * 16 + y / 16), six (y % 16 * 4 + z / 64), six (z % 64)].take (4 - ms)) := by
      refine mk_eq ?_
      rw [show (4 - ((ms : Nat) : Int)) = ((4 - ms : Nat) : Int) by omega, cut_toX _ (by rw [mk_len]; show 4 - ms ≤ 4; omega), mk_codes]
    rw [e5]
    refine ⟨_, rfl, 61, ms, ?_, rfl, by omega, ?_⟩
    · exact congrArg V.str e61
    have c6 := catX (rfl : mk ([six (x / 4), six (x % 4 * 16 + y / 16), six (y % 16 * 4 + z / 64), six (z % 64)].take (4 - ms)) = _) (rfl : mk (List.replicate ms 61) = _)
    refine ⟨_, _, rfl, rfl, (by rw [← len_append]; exact szE c6 (by simp; omega)), ?_⟩
    rw [c6, ← hfour]
    exact q _ ((same_new n1).trans ((same_new n2).trans (same_new n3)))
theorem size_up {L c : Nat} (h1 : 1 ≤ c) : Builtin.Range.rangeSize 0 (L : Int) (c : Nat) = (((L + c - 1) / c : Nat) : Int) := by
  unfold Builtin.Range.rangeSize
  rw [if_pos (by omega)]
  by_cases h0 : L = 0
  · subst h0
    rw [if_neg (by simp), show 0 + c - 1 = c - 1 by omega, Nat.div_eq_of_lt (by omega)]
    rfl
  · rw [if_pos (by omega)]
    have e : (L + c - 1) / c = (L - 1) / c + 1 := by
      rw [show L + c - 1 = L - 1 + c by omega, Nat.add_div_right _ (by omega)]
    rw [e]
    have : ((L : Int) - 0 - 1) = ((L - 1 : Nat) : Int) := by omega
    rw [this, ← Int.natCast_ediv]
    omega
theorem rg_up {L c : Nat} (h : L ≤ 100000) (h1 : 1 ≤ c) (h2 : c ≤ 1000) : RgC 0 (L : Int) (c : Nat) ((L + c - 1) / c) := by
  refine ⟨by omega, by omega, ?_, size_up h1⟩
  have hs : (L + c - 1) / c ≤ 101000 := Nat.le_trans (Nat.div_le_self _ _) (by omega)
  unfold Builtin.Range.small
  rw [size_up h1]
  generalize (L + c - 1) / c = n at hs
  simp only [Builtin.Range.rangeFitsLong, Bool.and_eq_true, Bool.or_eq_true, decide_eq_true_eq, beq_iff_eq]
  rw [if_pos (show ((c : Nat) : Int) > 0 by omega), Bool.and_eq_true, decide_eq_true_eq, decide_eq_true_eq]
  omega
def spSixes : Sp := fun vs H Q _ => ∃ (a : Addr) (l : List Nat), vs = [.ref a] ∧ H a = some (.lst (iv l)) ∧ (∀ n ∈ l, n < 256) ∧ l.length ≤ 9000 ∧ ∀ H', Same H H' → Q (.str (mk (sixC l))) H'
/-- the fours, one by one -/
def foursOf (l : List Nat) (k : Nat) : List (List Nat) := (List.range k).map fun i => four ((l.drop (3 * i)).take 3)
theorem fours_all : ∀ (k : Nat) (l : List Nat), k = (l.length + 2) / 3 → (foursOf l k).flatten = sixC l
  | 0, l, h => by
    have : l = [] := List.eq_nil_of_length_eq_zero (by omega)
    rw [this]
    rfl
  | k + 1, l, h => by
    have hl : l ≠ [] := fun e => by
      rw [e] at h
      simp at h
    rw [sixC_step hl, ← fours_all k (l.drop 3) (by rw [List.length_drop]; omega)]
    unfold foursOf
    rw [List.range_succ_eq_map, List.map_cons, List.flatten_cons, List.map_map]
    congr 2
    refine List.map_congr_left fun i _ => ?_
    show four ((l.drop (3 * (i + 1))).take 3) = four (((l.drop 3).drop (3 * i)).take 3)
    rw [List.drop_drop, show 3 + 3 * i = 3 * (i + 1) by omega]
theorem scSixesOf : FnScope ["octets", "begin"] ["octets"] (defScope sSixesOf) := ⟨rfl, rfl, rfl, by decide +kernel, rfl, by decide +kernel, by decide +kernel⟩
theorem r_sixes_of (A : FnAt K mg "sixes_of" sSixesOf) (R : Ready P w K mg base 1 "_four_of" ["octets"] spFour) (m_len : mg "len" = none) (m_range : mg "range" = none) : Ready P w K mg base 2 "sixes_of" ["octets"] spSixes := by
  obtain ⟨f1, fd1, g1, k1, b1, G1⟩ := R
  refine ready_of A (fun _ _ _ _ _ _ us hl => match us, hl with | [_], _ => rfl) fun f fd F => ?_
  refine F.ok scSixesOf (fun vs H Q E h => ?_) (fun cdv A outer s H vs Q E hr h => ?_)
  · obtain ⟨a, l, rfl, _⟩ := h
    rfl
  · obtain ⟨a, l, rfl, ha, hb, hl, q⟩ := h
    have sc := scSixesOf
    refine ⟨_, pss_one (ps_ret (pe_join pe_str (pe_lc (own := [("begin", 1)]) (g := gName 1) (tt := tYes) (te := tCall spFour [] E0 (tCons (tSl (rSlL K) (tVar 0) (tPart (tVar 1)) (tPart (tOp (rI0 fun i j => V.int (i + j)) (tVar 1) (tC (.int 3))))) tNil)) (by rfl) sc.nd (pi_range3 (by rfl) m_range (pa_cons pe_int (pa_cons (pe_callB call_len_seq (by rfl) m_len PySem.boot_len (pa_cons (pv 0) pa_nil)) (pa_cons pe_int pa_nil)))) (blkOk_by (own := [("begin", 1)]) (N := ["octets", "begin"]) (sc := defScope sSixesOf) (by decide +kernel)) (fun _ _ _ _ _ => (pg_name (i := 1) sc.nd rfl (.inl rfl))) (fun _ _ _ _ _ => pts_nil) (fun _ _ _ _ _ => by exact (pe_call G1 (hr.mono (by decide)) (by rfl) g1 k1 b1 .nil pass0 (pa_cons (pe_slice sl_list (pv 0) (po_some (pv 1)) (po_some (pe_op op_add (pv 1) pe_int))) pa_nil)))))), ?_⟩
    refine ⟨⟨_, rfl⟩, _, rfl, a, _, rfl, .inl (SqL.of ha), 0, ((l.length : Nat) : Int), 3, (l.length + 2) / 3, by rw [iv_len], rg_up (c := 3) (by omega) (by decide) (by decide), fun D hD => ?_⟩
    refine lc_it (walk_rangeC (lo := 0) (c := 3) (n := (l.length + 2) / 3)) (fun i H' => Same H H' ∧ H' D = some (.lst (((foursOf l i).map mk).map V.str))) ⟨same_new hD, upd_same⟩ (fun _ _ _ _ => trivial) (fun i x H2 H3 hi hp hy => ?_) (fun H2 hp => ?_)
    · obtain ⟨rfl, hx⟩ := hy
      obtain ⟨sm, hd⟩ := hp
      have hx' : x = .int ((3 * i : Nat) : Int) := by
        rw [hx]
        exact congrArg V.int (by omega)
      subst hx'
      refine ⟨rfl, ?_⟩
      unfold tYes
      refine iteT ?_
      refine ⟨_, rfl, _, rfl, _, rfl, _, rfl, _, _, rfl, rfl, _, rfl, a, _, rfl, SqL.of (sm _ _ ha), fun p n => ?_⟩
      dsimp only
      have ec : cutV (iv l) (some ((3 * i : Nat) : Int)) (some (((3 * i : Nat) : Int) + 3)) = iv ((l.drop (3 * i)).take 3) := by
        unfold cutV
        rw [show (((3 * i : Nat) : Int) + 3) = ((3 * i + 3 : Nat) : Int) by omega, HT.sIx_nat, HT.sIx_nat, iv_len, Nat.min_eq_left (show 3 * i ≤ l.length by omega)]
        unfold iv
        rw [← List.map_drop, ← List.map_take]
        congr 1
        by_cases h : 3 * i + 3 ≤ l.length
        · rw [Nat.min_eq_left h, show 3 * i + 3 - 3 * i = 3 by omega]
        · rw [Nat.min_eq_right (show l.length ≤ 3 * i + 3 by omega), List.take_of_length_le (by rw [List.length_drop]; omega), List.take_of_length_le (by rw [List.length_drop]; omega)]
      rw [ec]
      have hlen : ((l.drop (3 * i)).take 3).length = min 3 (l.length - 3 * i) := by rw [List.length_take, List.length_drop]
      refine ⟨p, _, rfl, upd_same, fun n hn => hb n (List.mem_of_mem_drop (List.mem_of_mem_take hn)), by omega, by omega, fun H4 s4 => ⟨_, s4 _ _ (kn hd n), ?_, same_set (sm.trans ((same_new n).trans s4)) hD, ?_⟩⟩
      · rw [List.length_map, List.length_map]
        unfold foursOf
        rw [List.length_map, List.length_range]
        exact szl (by omega)
      · rw [upd_same]
        unfold foursOf
        rw [List.range_succ, List.map_append, List.map_append, List.map_append]
        rfl
    · obtain ⟨sm, hd⟩ := hp
      have hf4 : ∀ p ∈ foursOf l ((l.length + 2) / 3), p.length = 4 := fun p hp => by
        obtain ⟨i, hi, rfl⟩ := List.mem_map.mp hp
        have hi := List.mem_range.mp hi
        refine four_len ?_ ?_ <;> (rw [List.length_take, List.length_drop]; omega)
      refine ⟨("" : Str), D, _, rfl, rfl, .inl (SqL.of hd), ?_, ?_⟩
      · have h1 : (((foursOf l ((l.length + 2) / 3)).map mk).map (·.length)).sum ≤ (foursOf l ((l.length + 2) / 3)).length * 4 := by
          generalize foursOf l ((l.length + 2) / 3) = ps at hf4
          induction ps with
          | nil => simp
          | cons p r ih =>
            have h1 := hf4 p (by simp)
            have h2 := ih fun x hx => hf4 x (List.mem_cons_of_mem _ hx)
            rw [List.map_cons, List.map_cons, List.sum_cons, mk_len, List.length_cons]
            omega
        have h2 : ("" : Str).length = 0 := by decide +kernel
        have h3 : (foursOf l ((l.length + 2) / 3)).length = (l.length + 2) / 3 := by
          unfold foursOf
          rw [List.length_map, List.length_range]
        rw [h2]
        rw [List.length_map]
        omega
      · have ej : Txt.join ("" : Str) ((foursOf l ((l.length + 2) / 3)).map mk) = mk (sixC l) := by
          rw [← fours_all _ l rfl]
          refine mk_eq ?_
          show TL.tl _ = _
          rw [TL.join_eq, TL.tl_join]
          have e : TL.tl ("" : Str) = [] := by decide +kernel
          rw [e, List.map_map]
          have e2 : (foursOf l ((l.length + 2) / 3)).map (TL.tl ∘ mk) = foursOf l ((l.length + 2) / 3) := (List.map_congr_left (fun p _ => mk_codes p)).trans (List.map_id _)
          rw [e2]
          generalize foursOf l ((l.length + 2) / 3) = ps
          clear e2 hf4 hd
          induction ps with
          | nil => rfl
          | cons p r ih =>
            cases r with
            | nil => simp [TL.joinL]
            | cons p2 r2 =>
              show p ++ ([] ++ TL.joinL [] (p2 :: r2)) = _
              rw [ih]
              rfl
        rw [ej]
        exact q _ sm
end
end FL


namespace FL
open PySem PySem.Spec PyProof.Rows L2
/-! ### texts of numbers, marks -/
def SIGS : Str := " !\"#$ &'()*+,-./0123456789:;<=>?@ABCDEFGHIJKLMNOPQRSTUVWXYZ[\\]^_`abcdefghijklmnopqrstuvwxyz{|}~"
theorem sigs_len : SIGS.length = 95 := by decide +kernel
theorem sigs_at : ∀ n, n < 95 → n ≠ 5 → SIGS.cps[n]? = some (n + 32) := by decide +kernel
def numb (n : Nat) : Bool := decide (32 ≤ n ∧ n < 127) && !decide (n = 37)
theorem numb_iff {n : Nat} : numb n = true ↔ 32 ≤ n ∧ n < 127 ∧ n ≠ 37 := by
  unfold numb
  simp only [Bool.and_eq_true, decide_eq_true_eq, Bool.not_eq_true', decide_eq_false_iff_not]
  omega
theorem join0 : ∀ ps : List (List Nat), Txt.join ("" : Str) (ps.map mk) = mk ps.flatten := by
  intro ps
  refine mk_eq ?_
  show TL.tl _ = _
  rw [TL.join_eq, TL.tl_join]
  have e : TL.tl ("" : Str) = [] := by decide +kernel
  rw [e, List.map_map]
  have e2 : ps.map (TL.tl ∘ mk) = ps := (List.map_congr_left (fun p _ => mk_codes p)).trans (List.map_id _)
  rw [e2]
  clear e2
  induction ps with
  | nil => rfl
  | cons p r ih =>
    cases r with
    | nil => simp [TL.joinL]
    | cons p2 r2 =>
      show p ++ ([] ++ TL.joinL [] (p2 :: r2)) = _
      rw [ih]
      rfl
theorem sum0 {ps : List (List Nat)} {n : Nat} (h : ∀ p ∈ ps, p.length ≤ n) : ((ps.map mk).map (·.length)).sum ≤ ps.length * n := by
  induction ps with
  | nil => simp
  | cons p r ih =>
    have h1 := h p (by simp)
    have h2 := ih fun x hx => h x (List.mem_cons_of_mem _ hx)
    rw [List.map_cons, List.map_cons, List.sum_cons, mk_len, List.length_cons, Nat.add_mul, Nat.one_mul]
    omega
def markC (n : Nat) : List Nat := if n = 32 then [95] else if numb n = true ∧ (isLet n || isFig n) = true then [n] else 61 :: hex2 n
theorem markC_len (n : Nat) : (markC n).length ≤ 3 := by
  unfold markC
  split
  · decide
  · split
    · show 1 ≤ 3
      omega
    · exact Nat.le_refl 3
section
variable {P : Program} {w : World} {K : PySem.W.Frag} {mg : Str → Option Value} {base : Heap}
def spNumb : Sp := fun vs H Q _ => ∃ n : Nat, vs = [.int (n : Nat)] ∧ Q (.bl (numb n)) H
theorem scIsNumbered : FnScope ["number"] ["number"] (defScope sIsNumbered) := ⟨rfl, rfl, rfl, by decide +kernel, rfl, by decide +kernel, by decide +kernel⟩
theorem r_is_numbered (A : FnAt K mg "is_numbered" sIsNumbered) (m_len : mg "len" = none) {t1 t2 t3 : Tok} (m_SIGNS : mg "SIGNS" = some (.str SIGS t1)) (m_BLANK : mg "BLANK" = some (.int 32 t2)) (m_PERCENT : mg "PERCENT" = some (.int 37 t3)) : Ready P w K mg base 1 "is_numbered" ["number"] spNumb := by
  refine ready_of A (fun _ _ _ _ _ _ us hl => match us, hl with | [_], _ => rfl) fun f fd F => ?_
  refine F.ok scIsNumbered (fun vs H Q E h => ?_) (fun cdv A outer s H vs Q E hr h => ?_)
  · obtain ⟨n, rfl, _⟩ := h
    rfl
  · obtain ⟨n, rfl, q⟩ := h
    have sc := scIsNumbered
    refine ⟨_, pss_one (ps_ret (pe_and (pe_chain op_le op_lt (pe_glob (v := .int 32) rfl m_BLANK ⟨_, rfl⟩) (pv 0) (pe_op op_add (pe_glob (v := .int 32) rfl m_BLANK ⟨_, rfl⟩) (pe_callB call_len_str (by rfl) m_len PySem.boot_len (pa_cons (pe_glob (v := .str SIGS) rfl m_SIGNS ⟨_, rfl⟩) pa_nil))) (by with_unfolding_all rfl)) (pe_one (pe_cmpR op_ne (pv 0) (pe_glob (v := .int 37) rfl m_PERCENT ⟨_, rfl⟩) (nomark _))))), ?_⟩
    refine ⟨_, rfl, _, _, rfl, rfl, _, rfl, ?_⟩
    have hf : ∀ b : Bool, numb n = b → Q (.bl b) H := fun b e => e ▸ q
    by_cases h1 : (32 : Int) ≤ (n : Nat)
    · rw [decide_eq_true h1]
      refine iteT ⟨_, rfl, by rw [sigs_len]; decide, _, _, rfl, rfl, _, _, rfl, rfl, _, rfl, ?_⟩
      rw [sigs_len]
      by_cases h2 : ((n : Nat) : Int) < 32 + ((95 : Nat) : Int)
      · rw [show decide (((n : Nat) : Int) < 32 + ((95 : Nat) : Int)) = true from decide_eq_true h2]
        refine iteT ⟨_, rfl, rfl, ?_⟩
        refine hf _ ?_
        by_cases h3 : n = 37
        · rw [decide_eq_true (show V.int ((n : Nat) : Int) = V.int 37 by rw [h3]; rfl), h3]
          rfl
        · rw [decide_eq_false (show ¬ V.int ((n : Nat) : Int) = V.int 37 from fun z => h3 (by have := V.int.inj z; omega))]
          exact numb_iff.mpr ⟨by omega, by omega, h3⟩
      · rw [show decide (((n : Nat) : Int) < 32 + ((95 : Nat) : Int)) = false from decide_eq_false h2]
        refine iteF (hf _ ?_)
        cases e : numb n with
        | false => rfl
        | true => have := numb_iff.mp e; omega
    · rw [decide_eq_false h1]
      refine iteF ⟨_, rfl, iteF (hf _ ?_)⟩
      cases e : numb n with
      | false => rfl
      | true => have := numb_iff.mp e; omega
def spSignN : Sp := fun vs H Q _ => ∃ n : Nat, vs = [.int (n : Nat)] ∧ (n = 10 ∨ numb n = true) ∧ Q (.str (mk [n])) H
theorem scSignOf : FnScope ["number"] ["number"] (defScope sSignOf) := ⟨rfl, rfl, rfl, by decide +kernel, rfl, by decide +kernel, by decide +kernel⟩
theorem r_sign_of (A : FnAt K mg "_sign_of" sSignOf) {t1 t2 t3 : Tok} (m_SIGNS : mg "SIGNS" = some (.str SIGS t1)) (m_BLANK : mg "BLANK" = some (.int 32 t2)) (m_LINE_FEED : mg "LINE_FEED" = some (.int 10 t3)) : Ready P w K mg base 1 "_sign_of" ["number"] spSignN := by
  refine ready_of A (fun _ _ _ _ _ _ us hl => match us, hl with | [_], _ => rfl) fun f fd F => ?_
  refine F.ok scSignOf (fun vs H Q E h => ?_) (fun cdv A outer s H vs Q E hr h => ?_)
  · obtain ⟨n, rfl, _⟩ := h
    rfl
  · obtain ⟨n, rfl, hn, q⟩ := h
    have sc := scSignOf
    refine ⟨_, pss_cons (ps_if (pt_cmpR op_eq (pv 0) (pe_glob (v := .int 10) rfl m_LINE_FEED ⟨_, rfl⟩) (nomark _))
        (pss_one (ps_ret pe_str))
        pss_nil)
      (pss_one (ps_ret (pe_item_str (pe_glob (v := .str SIGS) rfl m_SIGNS ⟨_, rfl⟩) (pe_op op_sub (pv 0) (pe_glob (v := .int 32) rfl m_BLANK ⟨_, rfl⟩)) (fun _ _ => rfl)))), ?_⟩
    refine ⟨_, rfl, rfl, _, rfl, ite2 (fun h => ?_) (fun h => ?_)⟩
    · have e : n = 10 := by have := V.int.inj (of_decide_eq_true h); omega
      have e10 : ("\n" : Str) = mk [10] := by decide +kernel
      show Q (.str ("\n" : Str)) H
      rw [e10, ← e]
      exact q
    · have hne : n ≠ 10 := fun z => h (decide_eq_true (by rw [z]; rfl))
      have hb := numb_iff.mp (hn.resolve_left hne)
      refine ⟨_, rfl, _, _, rfl, rfl, ?_⟩
      dsimp only
      rw [show ((n : Nat) : Int) - 32 = ((n - 32 : Nat) : Int) by omega]
      refine ⟨SIGS, _, n, rfl, rfl, by omega, by omega, by rw [sigs_len]; omega, ?_, q⟩
      rw [Int.toNat_natCast, sigs_at (n - 32) (by omega) (by omega), show n - 32 + 32 = n by omega]
def spTextN : Sp := fun vs H Q _ => ∃ (a : Addr) (l : List Nat), vs = [.ref a] ∧ H a = some (.lst (iv l)) ∧ (∀ n ∈ l, n = 10 ∨ numb n = true) ∧ l.length ≤ 9000 ∧ ∀ H', Same H H' → Q (.str (mk l)) H'
theorem scTextOf : FnScope ["numbers", "number"] ["numbers"] (defScope sTextOf) := ⟨rfl, rfl, rfl, by decide +kernel, rfl, by decide +kernel, by decide +kernel⟩
theorem r_text_of (A : FnAt K mg "text_of" sTextOf) (R : Ready P w K mg base 1 "_sign_of" ["number"] spSignN) : Ready P w K mg base 2 "text_of" ["numbers"] spTextN := by
  obtain ⟨f1, fd1, g1, k1, b1, G1⟩ := R
  refine ready_of A (fun _ _ _ _ _ _ us hl => match us, hl with | [_], _ => rfl) fun f fd F => ?_
  refine F.ok scTextOf (fun vs H Q E h => ?_) (fun cdv A outer s H vs Q E hr h => ?_)
  · obtain ⟨a, l, rfl, _⟩ := h
    rfl
  · obtain ⟨a, l, rfl, ha, hb, hl, q⟩ := h
    have sc := scTextOf
    refine ⟨_, pss_one (ps_ret (pe_join pe_str (pe_lc (own := [("number", 1)]) (g := gName 1) (tt := tYes) (by rfl) sc.nd (pi_list (pv 0)) (blkOk_by (own := [("number", 1)]) (N := ["numbers", "number"]) (sc := defScope sTextOf) (by decide +kernel)) (fun _ _ _ _ _ => (pg_name (i := 1) sc.nd rfl (.inl rfl))) (fun _ _ _ _ _ => pts_nil) (fun _ _ _ _ _ => (pe_call G1 (hr.mono (by decide)) (by rfl) g1 k1 b1 .nil pass0 (pa_cons (pv 1) pa_nil)))))), ?_⟩
    refine ⟨⟨_, rfl⟩, _, rfl, a, rfl, ⟨_, SqL.of ha⟩, fun D hD => ?_⟩
    refine lc_it (walk_list (K := K) (a := a) (xs := iv l)) (fun i H' => Same H H' ∧ H' D = some (.lst ((((l.take i).map fun n => [n]).map mk).map V.str))) ⟨same_new hD, upd_same⟩ (fun i H' _ p => SqL.of (p.1 _ _ ha)) (fun i x H2 H3 hi hp hy => ?_) (fun H2 hp => ?_)
    · obtain ⟨rfl, hx⟩ := hy
      obtain ⟨sm, hd⟩ := hp
      rw [iv_len] at hi
      have hn := List.getElem?_eq_getElem hi
      have hbn := hb _ (List.getElem_mem hi)
      generalize l[i] = n at hn hbn
      rw [iv_at hn] at hx
      injection hx with hx
      subst hx
      refine ⟨rfl, ?_⟩
      unfold tYes
      refine iteT ?_
      refine ⟨_, rfl, n, rfl, hbn, _, hd, ?_, same_set sm hD, ?_⟩
      · rw [List.length_map, List.length_map, List.length_map]
        exact Nat.lt_of_le_of_lt (List.length_take_le _ _) (szl (by omega))
      · rw [upd_same, take_more hn, List.map_append, List.map_append, List.map_append]
        rfl
    · obtain ⟨sm, hd⟩ := hp
      rw [iv_len, List.take_length] at hd
      refine ⟨("" : Str), D, _, rfl, rfl, .inl (SqL.of hd), ?_, ?_⟩
      · have h1 := sum0 (ps := l.map fun n => [n]) (n := 1) fun p hp => by
          obtain ⟨n, _, rfl⟩ := List.mem_map.mp hp
          exact Nat.le_refl 1
        have h2 : ("" : Str).length = 0 := by decide +kernel
        rw [h2]
        simp only [List.length_map] at h1 ⊢
        omega
      · rw [join0]
        have e : (l.map fun n => [n]).flatten = l := by
          clear hd hb hl ha q
          induction l with
          | nil => rfl
          | cons a r ih =>
            rw [List.map_cons, List.flatten_cons, ih]
            rfl
        rw [e]
        exact q _ sm
def spSixteen : Sp := fun vs H Q _ => ∃ n : Nat, vs = [.int (n : Nat)] ∧ n < 256 ∧ Q (.str (mk (61 :: hex2 n))) H
theorem scBySixteen : FnScope ["octet"] ["octet"] (defScope sBySixteen) := ⟨rfl, rfl, rfl, by decide +kernel, rfl, by decide +kernel, by decide +kernel⟩
theorem r_by_sixteen (A : FnAt K mg "by_sixteen" sBySixteen) : Ready P w K mg base 1 "by_sixteen" ["octet"] spSixteen := by
  refine ready_of A (fun _ _ _ _ _ _ us hl => match us, hl with | [_], _ => rfl) fun f fd F => ?_
  refine F.ok scBySixteen (fun vs H Q E h => ?_) (fun cdv A outer s H vs Q E hr h => ?_)
  · obtain ⟨n, rfl, _⟩ := h
    rfl
  · obtain ⟨n, rfl, hn, q⟩ := h
    have sc := scBySixteen
    refine ⟨_, pss_one (ps_ret (pe_joined (.cons pe_str (.cons (pe_fmtX (pv 0)) .nil)))), ?_⟩
    have c1 := catX (rfl : Str.empty = mk []) e61
    refine ⟨_, rfl, szE c1 (by simp), ?_⟩
    have c2 := catX c1 (rfl : mk (hex2 n) = _)
    refine ⟨_, rfl, n, rfl, hn, _, rfl, szE c2 (by simp [hex2]), ?_⟩
    show Q (.str _) H
    rw [c2]
    exact q
def spMark : Sp := fun vs H Q _ => ∃ n : Nat, vs = [.int (n : Nat)] ∧ n < 256 ∧ ∀ H', Same H H' → Q (.str (mk (markC n))) H'
def spMarks : Sp := fun vs H Q _ => ∃ (a : Addr) (l : List Nat), vs = [.ref a] ∧ H a = some (.lst (iv l)) ∧ (∀ n ∈ l, n < 256) ∧ l.length ≤ 9000 ∧ ∀ H', Same H H' → Q (.str (mk (l.flatMap markC))) H'
end
end FL


namespace FL
open PySem PySem.Spec PyProof.Rows L2
/-! ### octets by a code: what is checked ahead -/
theorem ends_lf (x : Str) : Txt.endswith x ("\n" : Str) = decide (x.cps.toList.getLast? = some 10) := by
  rcases List.eq_nil_or_concat x.cps.toList with h | ⟨l, c, h⟩
  · have hx := len_cps x
    rw [h] at hx
    unfold Txt.endswith
    rw [decide_eq_false (by rw [← hx]; show ¬ 0 + 1 ≤ 0; omega), h]
    rfl
  · rw [List.concat_eq_append] at h
    have e : x = mk l ++ mk [c] := by rw [mk_app, ← h, mk_of]
    rw [e, PySem.W.KAf.ends_right (by rw [mk_len]; show ("\n" : Str).length ≤ 1; decide +kernel)]
    rw [show (mk l ++ mk [c]).cps.toList = l ++ [c] from by rw [mk_app, mk_codes]]
    rw [List.getLast?_append]
    unfold Txt.endswith
    rw [PySem.StrLaws.subAt_eq]
    have l1 : ("\n" : Str).length = 1 := by decide +kernel
    have c1 : ("\n" : Str).cps.toList = [10] := by decide +kernel
    rw [l1, c1, mk_len, mk_codes]
    show (decide (0 + 1 ≤ 1) && ([c] == [10])) = decide (some c = some 10)
    by_cases hc : c = 10
    · subst hc
      rfl
    · rw [decide_eq_false (show ¬ some c = some 10 by simpa using hc)]
      simp [hc]
def NoIntsC (K : PySem.W.Frag) (f : Option Int → Bool) (H : Hp) (v : V) : Prop := (∃ t, TyX K H v t ∧ PySem.W.kitOne K t (.type "list") = some false) ∨
  (∃ a xs os, v = .ref a ∧ H a = some (.lst xs) ∧ xs.length ≤ 10000 ∧ Paired (Whole K H) xs os ∧ os.all f = false)
abbrev NoOctC (K : PySem.W.Frag) := NoIntsC K fun o => o.any isOctI
theorem sp_allC {K : PySem.W.Frag} {f : Option Int → Bool} {H : Hp} {v : V} {Q : VK} {E : XK} (h : NoIntsC K f H v) (q : ∀ H', Same H H' → Q (.bl false) H') : spAll K f [v] H Q E := by
  rcases h with ⟨t, ht, hk⟩ | ⟨a, xs, os, rfl, hH, hl, hp, ha⟩
  · exact ⟨v, rfl, .inr ⟨t, ht, hk, q H (Same.refl H)⟩⟩
  · exact ⟨_, rfl, .inl ⟨a, xs, os, rfl, hH, hl, hp, fun H' s => by rw [ha]; exact q H' s⟩⟩
structure OctL (l : List Nat) : Prop where
  lt : ∀ n ∈ l, n < 256
  len : l.length ≤ 2000
section
variable {P : Program} {w : World} {K : PySem.W.Frag} {mg : Str → Option Value} {base : Heap}
def spCheckOctX (K : PySem.W.Frag) (CN : Addr) : Sp := fun vs H Q E => ∃ v, vs = [v] ∧ ((∃ a l, v = .ref a ∧ H a = some (.lst (iv l)) ∧ OctL l ∧ ∀ H', Same H H' → Q .non H') ∨ (NoOctC K H v ∧ ∀ H', Same H H' → E (.ref CN) none H'))
/-- the tables of writers and readers -/
def spCheckCodeX (K : PySem.W.Frag) (C WR : Addr) : Sp := fun vs H Q E => ∃ v, vs = [v] ∧ ((∃ (z : Str) (r : Option Value), v = .str z ∧ PySem.W.nsIn K WR z = some r ∧ (r.isSome = true → Q .non H) ∧ (r = none → Fails C "at" 0 H E)) ∨
  (∃ t, TyX K H v t ∧ PySem.W.kitOne K t (.type "str") = some false ∧ Fails C "at" 0 H E))
theorem scCheckCode : FnScope ["value"] ["value"] (defScope sCheckCode) := ⟨rfl, rfl, rfl, by decide +kernel, rfl, by decide +kernel, by decide +kernel⟩
theorem x_check_code {C WR : Addr} {es : Array DictEntry} {n : Nat} (MNoCode : MkFld P w K mg base "NoCode" C "at") (A : FnAt K mg "_check_code" sCheckCode) (D : KDict K w WR es n) (m_WRITERS : mg "WRITERS" = some (.ref WR)) (m_isinstance : mg "isinstance" = none) (m_str : mg "str" = none) :
    ReadyX P w K mg base 4 "_check_code" ["value"] (spCheckCodeX K C WR) := by
  refine readyX_of A (fun _ _ _ _ _ _ us hl => match us, hl with | [_], _ => rfl) fun f fd F => ?_
  refine F.okX scCheckCode (fun vs H Q E h => ?_) (fun cdv A outer s H vs Q E hr h => ?_)
  · obtain ⟨v, rfl, _⟩ := h
    rfl
  · obtain ⟨v, rfl, h⟩ := h
    have sc := scCheckCode
    refine ⟨_, pss_one (ps_if (PW.pt (pw_or (pt_not (pt_val (pe_callB call_isi (by rfl) m_isinstance (by decide +kernel) (pa_cons (pv 0) (pa_cons (pe_bltn (v := .ty "str") (by rfl) m_str (by decide +kernel) rfl) pa_nil))))) (pw_or1 (pt_cmpR (op_notIn_kd D) (pv 0) (pe_glob (v := .ref WR) rfl m_WRITERS rfl) (by rfl)))))
        (pss_one (ps_raise rfl (takes_of rfl rfl rfl rfl) (pmk_fld MNoCode (hr.mono (by decide)) (by rfl) (pa_cons pe_str pa_nil) [.int 0] (.inr rfl))))
        pss_nil), ?_⟩
    rcases h with ⟨z, r, rfl, hr2, qy, qn⟩ | ⟨t, ht, hk, qe⟩
    · refine ⟨_, rfl, _, _, .type "str", .type "str", true, rfl, ClsV.ty "str", .base (.str _), kit_ty (by decide +kernel), _, rfl, iteF ?_⟩
      refine ⟨_, rfl, _, r, rfl, rfl, hr2, _, rfl, ?_⟩
      cases r with
      | some x => exact iteF (qy rfl)
      | none => exact iteT (mk_leaf rfl (by decide) (qn rfl))
    · exact ⟨_, rfl, _, _, t, .type "str", false, rfl, ClsV.ty "str", ht, hk, _, rfl, iteT (iteT (mk_leaf rfl (by decide) qe))⟩
/-- octets by a code -/
def spWrC (wr : List Nat → List Nat) : Sp := fun vs H Q _ => ∃ (a : Addr) (l : List Nat), vs = [.ref a] ∧ H a = some (.lst (iv l)) ∧ OctL l ∧ ∀ H', Same H H' → Q (.str (mk (wr l))) H'
def spWrittenX (K : PySem.W.Frag) (CN : Addr) (code : Str) (wr : List Nat → List Nat) : Sp := fun vs H Q E => ∃ v, vs = [v, .str code] ∧ ((∃ a l, v = .ref a ∧ H a = some (.lst (iv l)) ∧ OctL l ∧ ∀ H', Same H H' → Q (.str (mk (wr l))) H') ∨ (NoOctC K H v ∧ ∀ H', Same H H' → E (.ref CN) none H'))
abbrev kbW (K : PySem.W.Frag) (fd : FuncData) : Prop := KBr K fd "octets" "code"
/-- octets read -/
abbrev RdC := List Nat → Except Nat (List Nat)
def readBy (rd : RdC) (l : List Nat) : Except Nat (List Nat) := match rd l with
  | .error p => .error p
  | .ok o => if l ≠ [] ∧ l.getLast? ≠ some 10 then .error l.length else .ok o
def spRdC (C : Addr) (rd : RdC) : Sp := fun vs H Q E => ∃ z : Str, vs = [.str z] ∧ z.length ≤ 10000 ∧ allSig z.cps.toList = true ∧ (∀ o, rd z.cps.toList = .ok o → ∀ H' p, Same H H' → H p = none → H' p = some (.lst (iv o)) → Q (.ref p) H') ∧ (∀ p : Nat, rd z.cps.toList = .error p → Fails C "at" p H E)
def spReadX (K : PySem.W.Frag) (C : Addr) (code : Str) (rd : RdC) : Sp := fun vs H Q E => ∃ v, vs = [v, .str code] ∧ ((∃ z : Str, v = .str z ∧ z.length ≤ 10000 ∧ allSig z.cps.toList = true ∧ (∀ o, readBy rd z.cps.toList = .ok o → ∀ H' p, Same H H' → H p = none → H' p = some (.lst (iv o)) → Q (.ref p) H') ∧ (∀ p : Nat, readBy rd z.cps.toList = .error p → Fails C "at" p H E)) ∨
  (((∃ z : Str, v = .str z ∧ z.length ≤ 10000 ∧ allSig z.cps.toList = false) ∨ (∃ t, TyX K H v t ∧ PySem.W.kitOne K t (.type "str") = some false)) ∧ Fails C "at" 0 H E))
theorem scReadBy : FnScope ["text", "code", "reader", "octets"] ["text", "code"] (defScope sReadBy) := ⟨rfl, rfl, rfl, by decide +kernel, rfl, by decide +kernel, by decide +kernel⟩
abbrev kbR (K : PySem.W.Frag) (fd : FuncData) : Prop := KBr K fd "text" "code"
theorem x_read_by {C WR RD fR : Addr} {fdR : FuncData} {psR : List Str} {kk : Nat} {code : Str} {rd : RdC} (MNoCode : MkFld P w K mg base "NoCode" C "at") (A : FnAt K mg "read_by" sReadBy) (R1 : Ready P w K mg base 2 "is_text" ["value"] (spLine K allSig)) (R2 : ReadyX P w K mg base 4 "_check_code" ["value"] (spCheckCodeX K C WR))
    (m_READERS : mg "READERS" = some (.ref RD)) (m_len : mg "len" = none) {es : Array DictEntry} {n : Nat} (D : KDict K w RD es n) {rw_ : Value} (hw : PySem.W.nsIn K WR code = some (some rw_)) (hs : PySem.W.nsIn K RD code = some (some (.ref fR)))
    (GR : FnOk P w K mg base (L2.CX P w) kk fR fdR psR (spRdC C rd)) (hk4 : kk ≤ 6) (kR : PySem.W.keepIn K (.ref fR) = true) (bR : L2.Binds K fdR psR []) :
    ReadyKX P w K mg base 7 "read_by" ["text", "code"] (spReadX K C code rd) (kbR K) := by
  obtain ⟨f1, fd1, g1, k1, b1, G1⟩ := R1
  obtain ⟨f2, fd2, g2, k2, b2, G2⟩ := R2
  refine readyKX_of A (fun _ _ _ _ _ _ us hl => match us, hl with | [_, _], _ => rfl) (fun f fd F => kbr_of F fun _ _ _ _ _ _ a b => rfl) fun f fd F => ?_
  refine F.okX scReadBy (fun vs H Q E h => ?_) (fun cdv A outer s H vs Q E hr h => ?_)
  · obtain ⟨v, rfl, _⟩ := h
    rfl
  · obtain ⟨v, rfl, h⟩ := h
    have sc := scReadBy
    refine ⟨_, pss_cons (ps_if (pt_not (pt_val (pe_call G1 (hr.mono (by decide)) (by rfl) g1 k1 b1 .nil pass0 (pa_cons (pv 0) pa_nil))))
        (pss_one (ps_raise rfl (takes_of rfl rfl rfl rfl) (pmk_fld MNoCode (hr.mono (by decide)) (by rfl) (pa_cons pe_str pa_nil) [.int 0] (.inr rfl))))
        pss_nil)
      (pss_cons (ps_expr (pe_call G2 (hr.mono (by decide)) (by rfl) g2 k2 b2 .nil (E := E) (passes_call (takes_of rfl rfl rfl rfl) (fun _ _ _ _ h => h)) (pa_cons (pv 1) pa_nil)))
      (pss_cons (ps_set (i := 2) sc.nd rfl (.inl rfl) (pe_ix ix_kdict (pe_glob (v := .ref RD) rfl m_READERS rfl) (pv 1) (fun _ _ => rfl)))
      (pss_cons (ps_set (i := 3) sc.nd rfl (.inl rfl) (pe_callL (i := 2) GR (hr.mono hk4) rfl (by first | exact .inl rfl | exact .inr (.inl rfl) | exact .inr (.inr rfl)) kR bR .nil (E := E) (passes_call (takes_of rfl rfl rfl rfl) (fun _ _ _ _ h => h)) (pa_cons (pv 0) pa_nil)))
      (pss_cons (ps_if (PW.pt (pw_and (pt_cmpR op_ne (pv 0) pe_str (nomark _)) (pw_and1 (pt_not (pt_val (pe_bm PySem.F.plainAttrs_str PySem.F.slot_str_endswith PySem.F.type_str_endswith mt_endswith (pv 0) (pa_cons pe_str pa_nil)))))))
        (pss_one (ps_raise rfl (takes_of rfl rfl rfl rfl) (pmk_fld MNoCode (hr.mono (by decide)) (by rfl) (pa_cons pe_str (pa_cons (pe_callB call_len_str (by rfl) m_len PySem.boot_len (pa_cons (pv 0) pa_nil)) pa_nil)) [] (.inl rfl))))
        pss_nil)
      (pss_one (ps_ret (pv 3))))))), ?_⟩
    rcases h with ⟨z, rfl, hz, hall, q, qe⟩ | ⟨hno, qe⟩
    · refine ⟨_, rfl, _, rfl, .inl ⟨z, rfl, hz, fun H1 s1 => ?_⟩⟩
      rw [hall]
      refine ⟨_, rfl, iteF ?_⟩
      refine ⟨_, rfl, _, rfl, .inl ⟨_, _, rfl, hw, fun _ => ?_, fun z => by cases z⟩⟩
      refine ⟨_, rfl, RD, code, .ref fR, rfl, rfl, ⟨es, n, .ref fR, D.at_, D.lit, hs, rfl⟩, ?_⟩
      unfold readBy at q qe
      refine ⟨rfl, _, rfl, z, rfl, hz, hall, fun o ho H2 p s2 np hp => ?_, fun p hp => ?_⟩
      · rw [ho] at q qe
        dsimp only at q qe
        have e10 : ("" : Str) = mk [] := by decide +kernel
        refine ⟨_, rfl, rfl, _, rfl, ?_⟩
        by_cases h0 : z.cps.toList = []
        · have ez : z = ("" : Str) := by rw [e10, ← h0, mk_of]
          refine iteNS (congrArg V.str ez) (iteF ?_)
          exact ⟨_, rfl, q o (by rw [if_neg (fun y => y.1 h0)]) H2 p (s1.trans s2) (Same.free s1 np) hp⟩
        · rw [decide_eq_false (fun y => h0 (by rw [V.str.inj y]; decide +kernel))]
          refine iteT ⟨_, rfl, rfl, _, _, rfl, rfl, ?_⟩
          rw [ends_lf]
          refine ⟨_, rfl, ?_⟩
          by_cases hl : z.cps.toList.getLast? = some 10
          · rw [decide_eq_true hl]
            refine iteF ⟨_, rfl, q o (by rw [if_neg (fun y => y.2 hl)]) H2 p (s1.trans s2) (Same.free s1 np) hp⟩
          · rw [decide_eq_false hl]
            refine iteT ⟨_, rfl, _, rfl, Nat.le_of_lt (szl hz), ?_⟩
            have hf := qe z.cps.toList.length (by rw [if_pos ⟨h0, hl⟩])
            rw [len_cps] at hf
            exact mk_leaf rfl (Nat.le_refl _) (Fails.later hf (s1.trans s2))
      · rw [hp] at qe
        exact Fails.later (qe p rfl) s1
    · rcases hno with ⟨z, rfl, hz, hall⟩ | ⟨t, ht, hk⟩
      · refine ⟨_, rfl, _, rfl, .inl ⟨z, rfl, hz, fun H1 s1 => ?_⟩⟩
        rw [hall]
        exact ⟨_, rfl, iteT (mk_leaf rfl (by decide) (Fails.later qe s1))⟩
      · exact ⟨_, rfl, _, rfl, .inr ⟨t, ht, hk, _, rfl, iteT (mk_leaf rfl (by decide) qe)⟩⟩
end
end FL


namespace FL
open PySem PySem.Spec PyProof.Rows L2
/-! ### octets by marks -/
def endsB (r : List Nat) : Bool := match r with
  | [] => true
  | o :: _ => decide (o = 10)
def unitC (o : Nat) (e : Bool) : List Nat := if o = 61 ∨ (o = 32 ∧ e = true) ∨ numb o = false then 61 :: hex2 o else [o]
/-- what is written behind n signs of a line -/
def tailM : List Nat → Nat → List Nat
  | [], n => if n = 0 then [] else [61, 10]
  | o :: r, n => if o = 10 then 10 :: tailM r 0
    else if 72 ≤ n + (unitC o (endsB r)).length then 61 :: 10 :: (unitC o (endsB r) ++ tailM r (unitC o (endsB r)).length)
    else unitC o (endsB r) ++ tailM r (n + (unitC o (endsB r)).length)
def marksL (l : List Nat) : List Nat := tailM l 0
theorem unitC_len (o : Nat) (e : Bool) : 1 ≤ (unitC o e).length ∧ (unitC o e).length ≤ 3 := by
  unfold unitC
  split
  · simp [hex2]
  · simp
theorem unitC_c (o : Nat) (e : Bool) : (unitC o e = 61 :: hex2 o) ∨ (unitC o e = [o] ∧ o ≠ 61 ∧ (o = 32 → e = false) ∧ numb o = true) := by
  unfold unitC
  by_cases h : o = 61 ∨ (o = 32 ∧ e = true) ∨ numb o = false
  · rw [if_pos h]
    exact .inl rfl
  · rw [if_neg h]
    refine .inr ⟨rfl, fun z => h (.inl z), fun z => ?_, ?_⟩
    · cases e with
      | false => rfl
      | true => exact absurd (.inr (.inl ⟨z, rfl⟩)) h
    · cases hn : numb o with
      | true => rfl
      | false => exact absurd (.inr (.inr hn)) h
theorem hexd_c : ∀ k, k < 16 → isSig (hexd k) = true ∧ hexd k ≠ 10 ∧ hexd k ≠ 32 ∧ hexd k ≠ 61 := by decide
theorem numb_sig {o : Nat} (h : numb o = true) : isSig o = true ∧ o ≠ 10 := by
  have := numb_iff.mp h
  unfold isSig
  refine ⟨?_, by omega⟩
  rw [decide_eq_true (show 32 ≤ o ∧ o ≤ 126 by omega), decide_eq_false this.2.2]
  simp
theorem unitC_sig {o : Nat} (ho : o < 256) (e : Bool) : ∀ c ∈ unitC o e, isSig c = true ∧ c ≠ 10 := by
  intro c hc
  rcases unitC_c o e with h | ⟨h, _, _, hn⟩
  · rw [h] at hc
    simp [hex2] at hc
    rcases hc with rfl | rfl | rfl
    · exact ⟨by decide, by decide⟩
    · have := hexd_c (o / 16) (by omega)
      exact ⟨this.1, this.2.1⟩
    · have := hexd_c (o % 16) (by omega)
      exact ⟨this.1, this.2.1⟩
  · rw [h] at hc
    rw [List.mem_singleton.mp hc]
    exact numb_sig hn
/-! its signs, its size, its end, its lines -/
theorem tailM_sig : ∀ (r : List Nat) (n : Nat), (∀ o ∈ r, o < 256) → ∀ c ∈ tailM r n, isSig c = true
  | [], n, _, c, hc => by
    unfold tailM at hc
    split at hc
    · cases hc
    · simp at hc
      rcases hc with rfl | rfl <;> decide
  | o :: r, n, hb, c, hc => by
    have hu := unitC_sig (hb o (List.mem_cons_self ..)) (endsB r)
    have ih := fun m => tailM_sig r m (fun x hx => hb x (List.mem_cons_of_mem _ hx))
    unfold tailM at hc
    split at hc
    · rcases List.mem_cons.mp hc with rfl | hc
      · decide
      · exact ih _ c hc
    · split at hc
      · rcases List.mem_cons.mp hc with rfl | hc
        · decide
        rcases List.mem_cons.mp hc with rfl | hc
        · decide
        rcases List.mem_append.mp hc with hc | hc
        · exact (hu c hc).1
        · exact ih _ c hc
      · rcases List.mem_append.mp hc with hc | hc
        · exact (hu c hc).1
        · exact ih _ c hc
theorem tailM_len : ∀ (r : List Nat) (n : Nat), (tailM r n).length ≤ 5 * r.length + 2
  | [], n => by
    unfold tailM
    split <;> simp
  | o :: r, n => by
    have hu := unitC_len o (endsB r)
    have ih := fun m => tailM_len r m
    unfold tailM
    split
    · have := ih 0
      simp
      omega
    · split
      · have := ih (unitC o (endsB r)).length
        simp
        omega
      · have := ih (n + (unitC o (endsB r)).length)
        simp
        omega
theorem tailM_last : ∀ (r : List Nat) (n : Nat), r ≠ [] ∨ n ≠ 0 → (tailM r n).getLast? = some 10
  | [], n, h => by
    unfold tailM
    rw [if_neg (h.resolve_left (fun z => z rfl))]
    rfl
  | o :: r, n, _ => by
    have hu := unitC_len o (endsB r)
    unfold tailM
    split
    · by_cases hr : r = []
      · subst hr
        rfl
      · rw [List.getLast?_cons, tailM_last r 0 (.inl hr)]
        rfl
    · split
      · rw [List.getLast?_cons, List.getLast?_cons, List.getLast?_append, tailM_last r _ (.inr (by omega))]
        rfl
      · rw [List.getLast?_append, tailM_last r _ (.inr (by omega))]
        rfl
theorem tailM_lines : ∀ (r : List Nat) (n : Nat), (∀ o ∈ r, o < 256) → n ≤ 71 → ∃ p ps, tailM r n = TL.joinL [10] (p :: ps) ∧ n + p.length ≤ 72 ∧ 10 ∉ p ∧ ∀ q ∈ ps, q.length ≤ 72 ∧ 10 ∉ q
  | [], n, _, hn => by
    unfold tailM
    by_cases h : n = 0
    · rw [if_pos h]
      exact ⟨[], [], rfl, by simp; omega, by simp, fun _ h => by cases h⟩
    · rw [if_neg h]
      exact ⟨[61], [[]], rfl, by simp; omega, by decide, fun q hq => by rw [List.mem_singleton.mp hq]; simp⟩
  | o :: r, n, hb, hn => by
    have hu := unitC_sig (hb o (List.mem_cons_self ..)) (endsB r)
    have hul := unitC_len o (endsB r)
    have ih := fun m hm => tailM_lines r m (fun x hx => hb x (List.mem_cons_of_mem _ hx)) hm
    have h10 : 10 ∉ unitC o (endsB r) := fun z => (hu 10 z).2 rfl
    have app : ∀ (u p : List Nat) (ps : List (List Nat)), u ++ TL.joinL [10] (p :: ps) = TL.joinL [10] ((u ++ p) :: ps) := fun u p ps => by
      cases ps <;> simp [TL.joinL]
    unfold tailM
    split
    · obtain ⟨p, ps, h1, h2, h3, h4⟩ := ih 0 (by omega)
      refine ⟨[], p :: ps, by rw [h1]; rfl, by simp; omega, by simp, fun q hq => ?_⟩
      rcases List.mem_cons.mp hq with rfl | hq
      · exact ⟨by omega, h3⟩
      · exact h4 q hq
    · split
      · obtain ⟨p, ps, h1, h2, h3, h4⟩ := ih (unitC o (endsB r)).length (by omega)
        refine ⟨[61], (unitC o (endsB r) ++ p) :: ps, ?_, by simp; omega, by decide, fun q hq => ?_⟩
        · rw [h1, app]
          rfl
        · rcases List.mem_cons.mp hq with rfl | hq
          · refine ⟨by rw [List.length_append]; omega, fun z => ?_⟩
            rcases List.mem_append.mp z with z | z
            · exact h10 z
            · exact h3 z
          · exact h4 q hq
      · rename_i hlt
        obtain ⟨p, ps, h1, h2, h3, h4⟩ := ih (n + (unitC o (endsB r)).length) (by omega)
        refine ⟨unitC o (endsB r) ++ p, ps, by rw [h1, app], by rw [List.length_append]; omega, fun z => ?_, h4⟩
        rcases List.mem_append.mp z with z | z
        · exact h10 z
        · exact h3 z
/-! ### marks read -/
def hexV (c : Nat) : Option Nat := if 48 ≤ c ∧ c ≤ 57 then some (c - 48) else if 65 ≤ c ∧ c ≤ 70 then some (c - 55) else if 97 ≤ c ∧ c ≤ 102 then some (c - 87) else none
def figV (s : List Nat) : Option Nat := match s with
  | [] => none
  | c :: _ => hexV c
def blk (s : List Nat) : Nat := (s.takeWhile fun c => decide (c = 32)).length
/-- s stands from the place p on -/
def readM : Nat → List Nat → Nat → List Nat → Except Nat (List Nat)
  | _, [], _, acc => .ok acc
  | 0, _ :: _, _, acc => .ok acc
  | n + 1, c :: r, p, acc => if c = 61 then
      (if (r.drop (blk r)).head? = some 10 then readM n (r.drop (blk r + 1)) (p + 1 + blk r + 1) acc
      else if 0 < blk r then .error (p + 1 + blk r)
      else match figV r with
        | none => .error (p + 1)
        | some x => match figV (r.drop 1) with
          | none => .error (p + 2)
          | some y => readM n (r.drop 2) (p + 3) (acc ++ [16 * x + y]))
    else if c = 32 then
      (if ((c :: r).drop (blk (c :: r))).head? = some 10 then readM n ((c :: r).drop (blk (c :: r))) (p + blk (c :: r)) acc
      else readM n ((c :: r).drop (blk (c :: r))) (p + blk (c :: r)) (acc ++ List.replicate (blk (c :: r)) 32))
    else readM n r (p + 1) (acc ++ [c])
def readMk (l : List Nat) : Except Nat (List Nat) := readM l.length l 0 []
theorem hexV_d : ∀ k, k < 16 → hexV (hexd k) = some k := by decide
theorem blk_no {c : Nat} {r : List Nat} (h : c ≠ 32) : blk (c :: r) = 0 := by
  unfold blk
  rw [List.takeWhile_cons, decide_eq_false h]
  rfl
theorem blk_yes (r : List Nat) : blk (32 :: r) = blk r + 1 := by
  unfold blk
  rw [List.takeWhile_cons, decide_eq_true rfl]
  rfl
/-- behind blanks that stand for themselves comes no line feed -/
theorem no_lf : ∀ (r : List Nat) (n : Nat), (∀ o ∈ r, o < 256) → endsB r = false → ((tailM r n).drop (blk (tailM r n))).head? ≠ some 10
  | [], _, _, h => by cases h
  | o :: r, n, hb, h => by
    have ho : o ≠ 10 := fun z => by rw [z] at h; cases h
    have hol := hb o (List.mem_cons_self ..)
    have key : ∀ m, ((unitC o (endsB r) ++ tailM r m).drop (blk (unitC o (endsB r) ++ tailM r m))).head? ≠ some 10 := fun m => by
      rcases unitC_c o (endsB r) with hu | ⟨hu, h61, h32, hn⟩
      · rw [hu, List.cons_append, blk_no (by decide)]
        simp
      · rw [hu, List.cons_append, List.nil_append]
        by_cases hb32 : o = 32
        · subst hb32
          rw [blk_yes, List.drop_succ_cons]
          exact no_lf r m (fun x hx => hb x (List.mem_cons_of_mem _ hx)) (h32 rfl)
        · rw [blk_no hb32]
          simpa using ho
    unfold tailM
    rw [if_neg ho]
    split
    · rw [blk_no (by decide)]
      simp
    · exact key _
theorem readM_nil (n p : Nat) (acc : List Nat) : readM n [] p acc = .ok acc := by cases n <;> rfl
theorem readM_soft (n p : Nat) (X acc : List Nat) : readM (n + 1) (61 :: 10 :: X) p acc = readM n X (p + 2) acc := by
  rw [readM, if_pos rfl, blk_no (by decide), if_pos (by rfl)]
  rfl
theorem readM_hex {o : Nat} (ho : o < 256) (n p : Nat) (X acc : List Nat) : readM (n + 1) (61 :: hexd (o / 16) :: hexd (o % 16) :: X) p acc = readM n X (p + 3) (acc ++ [o]) := by
  have hx1 := hexd_c (o / 16) (by omega)
  have e1 : figV (hexd (o / 16) :: hexd (o % 16) :: X) = some (o / 16) := hexV_d _ (by omega)
  have e2 : figV ((hexd (o / 16) :: hexd (o % 16) :: X).drop 1) = some (o % 16) := hexV_d _ (by omega)
  have e0 : ¬ ((hexd (o / 16) :: hexd (o % 16) :: X).drop 0).head? = some 10 := fun z => hx1.2.1 (Option.some.inj z)
  rw [readM, if_pos rfl, blk_no hx1.2.2.1, if_neg e0, if_neg (Nat.lt_irrefl 0), e1]
  dsimp only
  rw [e2]
  dsimp only
  rw [show 16 * (o / 16) + o % 16 = o by omega]
  rfl
theorem readM_more : ∀ (n : Nat) (s : List Nat) (p : Nat) (acc : List Nat), s.length ≤ n → ∀ m, s.length ≤ m → readM n s p acc = readM m s p acc
  | _, [], _, _, _, m, _ => by rw [readM_nil, readM_nil]
  | 0, _ :: _, _, _, h, _, _ => by simp at h
  | _ + 1, _ :: _, _, _, _, 0, h => by simp at h
  | n + 1, c :: r, p, acc, h1, m + 1, h2 => by
    have hr1 : r.length ≤ n := by simpa using h1
    have hr2 : r.length ≤ m := by simpa using h2
    have ih := fun (s : List Nat) (p : Nat) (acc : List Nat) (hs : s.length ≤ r.length) => readM_more n s p acc (by omega) m (by omega)
    have hd : ∀ k, (r.drop k).length ≤ r.length := fun k => by rw [List.length_drop]; omega
    unfold readM
    split
    · rw [ih _ _ _ (hd _)]
      split
      · rfl
      · split
        · rfl
        · cases figV r with
          | none => rfl
          | some x =>
            cases figV (r.drop 1) with
            | none => rfl
            | some y => exact ih _ _ _ (hd _)
    · split
      · rename_i h32
        subst h32
        rw [blk_yes, List.drop_succ_cons, ih _ _ _ (hd _), ih _ _ _ (hd _)]
      · exact ih _ _ _ (Nat.le_refl _)
/-- one blank at a time -/
theorem readM_blank {n p : Nat} {s acc : List Nat} (hn : s.length + 1 ≤ n) (h : (s.drop (blk s)).head? ≠ some 10) : readM n (32 :: s) p acc = readM n s (p + 1) (acc ++ [32]) := by
  match n, hn with
  | n + 1, hn =>
    have hsn : s.length ≤ n := by omega
    have hdl : ∀ k, (s.drop k).length ≤ n := fun k => by rw [List.length_drop]; omega
    have hL : readM (n + 1) (32 :: s) p acc = readM n (s.drop (blk s)) (p + (blk s + 1)) (acc ++ List.replicate (blk s + 1) 32) := by
      rw [readM, if_neg (by decide), if_pos rfl, blk_yes, List.drop_succ_cons, if_neg h]
    rw [hL]
    match s, h, hsn, hdl with
    | [], _, _, _ =>
      show readM n [] _ _ = readM (n + 1) [] _ _
      have e : acc ++ List.replicate (blk [] + 1) 32 = acc ++ [32] := rfl
      rw [e, readM_nil, readM_nil]
    | c :: r, h, hsn, hdl =>
      by_cases hc : c = 32
      · subst hc
        have hR : readM (n + 1) (32 :: r) (p + 1) (acc ++ [32]) = readM n (r.drop (blk r)) (p + 1 + (blk r + 1)) (acc ++ [32] ++ List.replicate (blk r + 1) 32) := by
          rw [blk_yes, List.drop_succ_cons] at h
          rw [readM, if_neg (by decide), if_pos rfl, blk_yes, List.drop_succ_cons, if_neg h]
        rw [hR, blk_yes, List.drop_succ_cons, show p + (blk r + 1 + 1) = p + 1 + (blk r + 1) by omega, List.append_assoc]
        rfl
      · rw [blk_no hc]
        show readM n (c :: r) (p + 1) (acc ++ [32]) = _
        exact readM_more _ _ _ _ hsn _ (by omega)
theorem readM_tail : ∀ (r : List Nat) (k n p : Nat) (acc : List Nat), (∀ o ∈ r, o < 256) → (tailM r k).length ≤ n → readM n (tailM r k) p acc = .ok (acc ++ r)
  | [], k, n, p, acc, _, hn => by
    unfold tailM at hn ⊢
    by_cases h : k = 0
    · rw [if_pos h, List.append_nil, readM_nil]
    · rw [if_neg h] at hn ⊢
      match n, hn with
      | n + 1, _ => rw [readM_soft, readM_nil, List.append_nil]
  | o :: r, k, n, p, acc, hb, hn => by
    have hol := hb o (List.mem_cons_self ..)
    have hbr := fun x hx => hb x (List.mem_cons_of_mem _ hx)
    -- a unit
    have unit : ∀ (m n p : Nat) (acc : List Nat), o ≠ 10 → (unitC o (endsB r) ++ tailM r m).length ≤ n → readM n (unitC o (endsB r) ++ tailM r m) p acc = .ok (acc ++ o :: r) := fun m n p acc ho hn => by
      have fin : ∀ n p, (tailM r m).length ≤ n → readM n (tailM r m) p (acc ++ [o]) = .ok (acc ++ o :: r) := fun n p h => by
        rw [readM_tail r m n p (acc ++ [o]) hbr h, List.append_assoc]
        rfl
      rcases unitC_c o (endsB r) with hu | ⟨hu, h61, h32, hnb⟩
      · rw [hu] at hn ⊢
        match n, hn with
        | n + 1, hn =>
          show readM (n + 1) (61 :: hexd (o / 16) :: hexd (o % 16) :: tailM r m) p acc = _
          rw [readM_hex hol]
          exact fin _ _ (by simp [hex2] at hn; omega)
      · rw [hu, List.cons_append, List.nil_append] at hn ⊢
        by_cases hb32 : o = 32
        · subst hb32
          rw [readM_blank (by simpa using hn) (no_lf r m hbr (h32 rfl))]
          exact fin _ _ (by simp at hn; omega)
        · match n, hn with
          | n + 1, hn =>
            rw [readM, if_neg h61, if_neg hb32]
            exact fin _ _ (by simpa using hn)
    unfold tailM at hn ⊢
    by_cases ho : o = 10
    · rw [if_pos ho] at hn ⊢
      match n, hn with
      | n + 1, hn =>
        rw [readM, if_neg (by decide), if_neg (by decide)]
        rw [readM_tail r 0 n (p + 1) (acc ++ [10]) hbr (by simpa using hn), ho, List.append_assoc]
        rfl
    · rw [if_neg ho] at hn ⊢
      by_cases hlong : 72 ≤ k + (unitC o (endsB r)).length
      · rw [if_pos hlong] at hn ⊢
        match n, hn with
        | n + 1, hn =>
          rw [readM_soft]
          exact unit _ _ _ _ ho (by simp at hn ⊢; omega)
      · rw [if_neg hlong] at hn ⊢
        exact unit _ _ _ _ ho hn
theorem readMk_marks {l : List Nat} (hb : ∀ x ∈ l, x < 256) : readMk (marksL l) = .ok l := by
  exact readM_tail l 0 (marksL l).length 0 [] hb (Nat.le_refl _)
theorem readByM {l : List Nat} (hb : ∀ x ∈ l, x < 256) : readBy readMk (marksL l) = .ok l := by
  unfold readBy
  rw [readMk_marks hb]
  dsimp only
  by_cases h0 : l = []
  · rw [if_neg (fun y => y.1 (by rw [h0]; rfl))]
  · rw [if_neg (fun y => y.2 (tailM_last l 0 (.inl h0)))]
end FL


namespace FL
open PySem PySem.Spec PyProof.Rows L2
/-! ### sixes read -/
def o4n (four : List Nat) : Nat := (four ++ List.replicate (4 - four.length) 0).foldl (fun n s => 64 * n + s) 0
def o4 (four : List Nat) : List Nat := ([o4n four / 65536, o4n four / 256 % 256, o4n four % 256]).take (four.length - 1)
def mayFill (four : List Nat) (filled : Nat) : Bool :=
  if four.length = 2 then decide (filled < 2) && decide (four.getD 1 0 % 16 = 0) else decide (four.length = 3) && (decide (filled < 1) && decide (four.getD 2 0 % 4 = 0))
structure St6 where
  oct : List Nat
  four : List Nat
  filled : Nat
def sixIx (c : Nat) : Nat := (SIXS.cps.toList.takeWhile fun x => !decide (x = c)).length
def step6 (st : St6) (c : Nat) : Option St6 :=
  if c = 32 ∨ c = 10 then some st
  else if c = 61 ∧ mayFill st.four st.filled = true then some ⟨st.oct, st.four, st.filled + 1⟩
  else if c ∈ SIXS.cps.toList ∧ st.filled = 0 then (if st.four.length = 4 then some ⟨st.oct ++ o4 st.four, [sixIx c], st.filled⟩ else some ⟨st.oct, st.four ++ [sixIx c], st.filled⟩)
  else none
def run6 : List Nat → Nat → St6 → Except Nat St6
  | [], _, st => .ok st
  | c :: r, p, st => match step6 st c with
    | none => .error p
    | some st' => run6 r (p + 1) st'
theorem run6_cons (c : Nat) (r : List Nat) (p : Nat) (st : St6) : run6 (c :: r) p st = match step6 st c with
    | none => .error p
    | some st' => run6 r (p + 1) st' := by rw [run6]
theorem run6_some {c : Nat} {st st' : St6} (h : step6 st c = some st') (r : List Nat) (p : Nat) : run6 (c :: r) p st = run6 r (p + 1) st' := by rw [run6_cons, h]
theorem run6_none {c : Nat} {st : St6} (h : step6 st c = none) (r : List Nat) (p : Nat) : run6 (c :: r) p st = .error p := by rw [run6_cons, h]
theorem run6_nil (p : Nat) (st : St6) : run6 [] p st = .ok st := rfl
def init6 : St6 := ⟨[], [], 0⟩
def end6 (n : Nat) (st : St6) : Except Nat (List Nat) := if st.four ≠ [] ∧ st.four.length + st.filled < 4 then .error n else .ok (st.oct ++ o4 st.four)
def read6 (l : List Nat) : Except Nat (List Nat) := match run6 l 0 init6 with
  | .error p => .error p
  | .ok st => end6 l.length st
theorem run6_app : ∀ (a b : List Nat) (p : Nat) (st : St6), run6 (a ++ b) p st = match run6 a p st with
    | .error e => .error e
    | .ok st' => run6 b (p + a.length) st'
  | [], b, p, st => by simp [run6]
  | c :: a, b, p, st => by
    rw [List.cons_append]
    cases h : step6 st c with
    | none => rw [run6_none h, run6_none h]
    | some st' =>
      rw [run6_some h, run6_some h, run6_app a b (p + 1) st', List.length_cons, show p + 1 + a.length = p + (a.length + 1) by omega]
/-- the refusal at a sign stays the whole's -/
theorem run6_stop {l : List Nat} {i c : Nat} {st : St6} (h : run6 (l.take i) 0 init6 = .ok st) (hc : l[i]? = some c) (hs : step6 st c = none) : read6 l = .error i := by
  have hi : i < l.length := by
    rcases Nat.lt_or_ge i l.length with h | h
    · exact h
    · rw [List.getElem?_eq_none h] at hc
      cases hc
  have e : l = l.take i ++ c :: l.drop (i + 1) := by
    have := List.getElem?_eq_getElem hi
    rw [this] at hc
    injection hc with hc
    rw [← hc, List.getElem_cons_drop, List.take_append_drop]
  have e2 : run6 l 0 init6 = .error i := by
    rw [e, run6_app, h]
    dsimp only
    rw [run6_none hs, List.length_take, Nat.zero_add, Nat.min_eq_left (Nat.le_of_lt hi)]
  unfold read6
  rw [e2]
theorem run6_next {l : List Nat} {i c : Nat} {st st' : St6} (h : run6 (l.take i) 0 init6 = .ok st) (hc : l[i]? = some c) (hs : step6 st c = some st') : run6 (l.take (i + 1)) 0 init6 = .ok st' := by
  rw [take_more hc, run6_app, h]
  dsimp only
  rw [run6_some hs]
  rfl
theorem sixIx_lt {c : Nat} (h : c ∈ SIXS.cps.toList) : sixIx c < 64 := by
  have hl : SIXS.cps.toList.length = 64 := by decide +kernel
  have : ∀ l : List Nat, c ∈ l → (l.takeWhile fun x => !decide (x = c)).length < l.length := fun l => by
    induction l with
    | nil => intro h; cases h
    | cons a r ih =>
      intro h
      rw [List.takeWhile_cons]
      by_cases e : a = c
      · rw [decide_eq_true e]
        simp
      · rw [decide_eq_false e]
        have := ih ((List.mem_cons.mp h).resolve_left (fun z => e z.symm))
        simp
        exact this
  rw [← hl]
  exact this _ h
theorem sixIx_six : ∀ n, n < 64 → sixIx (six n) = n := by decide +kernel
theorem six_mem : ∀ n, n < 64 → six n ∈ SIXS.cps.toList ∧ six n ≠ 32 ∧ six n ≠ 10 ∧ six n ≠ 61 := by decide +kernel
theorem not61 : 61 ∉ SIXS.cps.toList := by decide +kernel
theorem o4_len (four : List Nat) : (o4 four).length ≤ 3 := by
  unfold o4
  exact Nat.le_trans (List.length_take_le' _ _) (by simp)
/-- what stands after i signs -/
structure Ok6 (st : St6) (i : Nat) : Prop where
  f4 : st.four.length ≤ 4
  f64 : ∀ s ∈ st.four, s < 64
  ol : st.oct.length ≤ 3 * i
  fl : st.filled ≤ i
theorem ok6_step {st st' : St6} {c i : Nat} (o : Ok6 st i) (h : step6 st c = some st') : Ok6 st' (i + 1) := by
  obtain ⟨h1, h2, h3, h4⟩ := o
  unfold step6 at h
  by_cases a : c = 32 ∨ c = 10
  · rw [if_pos a] at h
    injection h with h
    subst h
    exact ⟨h1, h2, by omega, by omega⟩
  · rw [if_neg a] at h
    by_cases b : c = 61 ∧ mayFill st.four st.filled = true
    · rw [if_pos b] at h
      injection h with h
      subst h
      exact ⟨h1, h2, by show st.oct.length ≤ _; omega, by show st.filled + 1 ≤ _; omega⟩
    · rw [if_neg b] at h
      by_cases d : c ∈ SIXS.cps.toList ∧ st.filled = 0
      · rw [if_pos d] at h
        have hx := sixIx_lt d.1
        by_cases e : st.four.length = 4
        · rw [if_pos e] at h
          injection h with h
          subst h
          refine ⟨by show 1 ≤ 4; omega, fun s hs => ?_, ?_, by show st.filled ≤ _; omega⟩
          · rw [List.mem_singleton.mp hs]
            exact hx
          · show (st.oct ++ o4 st.four).length ≤ _
            have := o4_len st.four
            rw [List.length_append]
            omega
        · rw [if_neg e] at h
          injection h with h
          subst h
          refine ⟨?_, fun s hs => ?_, by show st.oct.length ≤ _; omega, by show st.filled ≤ _; omega⟩
          · show (st.four ++ [sixIx c]).length ≤ 4
            rw [List.length_append, List.length_singleton]
            omega
          · rcases List.mem_append.mp hs with hs | hs
            · exact h2 s hs
            · rw [List.mem_singleton.mp hs]
              exact hx
      · rw [if_neg d] at h
        cases h
/-! ### sixes in lines -/
def lineAt (s : List Nat) (i : Nat) : List Nat := (s.drop (72 * i)).take 72 ++ [10]
def linesX (s : List Nat) : List Nat := ((List.range ((s.length + 71) / 72)).map (lineAt s)).flatten
def lines6 (l : List Nat) : List Nat := linesX (sixC l)
theorem linesX_nil : linesX [] = [] := rfl
theorem linesX_step {s : List Nat} (h : s ≠ []) : linesX s = s.take 72 ++ [10] ++ linesX (s.drop 72) := by
  unfold linesX
  have hl : 1 ≤ s.length := by
    cases s with
    | nil => exact absurd rfl h
    | cons a r => simp
  have e : (s.length + 71) / 72 = ((s.drop 72).length + 71) / 72 + 1 := by
    rw [List.length_drop]
    omega
  rw [e, List.range_succ_eq_map, List.map_cons, List.flatten_cons, List.map_map]
  have e2 : (lineAt s) ∘ Nat.succ = lineAt (s.drop 72) := by
    funext i
    show lineAt s (i + 1) = _
    unfold lineAt
    rw [List.drop_drop]
    congr 3
    omega
  rw [e2]
  unfold lineAt
  simp
/-- reading passes line feeds by -/
theorem run6_lines : ∀ (n : Nat) (s : List Nat), s.length ≤ n → ∀ (p : Nat) (st st' : St6), run6 s p st = .ok st' → ∀ q, run6 (linesX s) q st = .ok st'
  | 0, s, h, p, st, st', hr, q => by
    have : s = [] := List.eq_nil_of_length_eq_zero (by omega)
    subst this
    exact hr
  | n + 1, s, h, p, st, st', hr, q => by
    by_cases h0 : s = []
    · subst h0
      exact hr
    · have hl : 1 ≤ s.length := by
        cases s with
        | nil => exact absurd rfl h0
        | cons a r => simp
      have e : s = s.take 72 ++ s.drop 72 := (List.take_append_drop 72 s).symm
      rw [e, run6_app] at hr
      have hpl : ∀ (a : List Nat) (p q : Nat) (st st1 : St6), run6 a p st = .ok st1 → run6 a q st = .ok st1 := fun a => by
        induction a with
        | nil => exact fun p q st st1 h => h
        | cons c r ih =>
          intro p q st st1 h
          cases hs : step6 st c with
          | none => rw [run6_none hs] at h; cases h
          | some st2 =>
            rw [run6_some hs] at h ⊢
            exact ih _ _ _ _ h
      cases hm : run6 (s.take 72) p st with
      | error x => rw [hm] at hr; cases hr
      | ok stm =>
        rw [hm] at hr
        rw [linesX_step h0, run6_app, run6_app, hpl _ p q _ _ hm]
        dsimp only
        have hs10 : step6 stm 10 = some stm := by
          unfold step6
          rw [if_pos (.inr rfl)]
        rw [run6_some hs10, run6_nil]
        exact run6_lines n (s.drop 72) (by rw [List.length_drop]; omega) _ _ _ hr _
theorem step6_six {n : Nat} (h : n < 64) (oc four : List Nat) : step6 ⟨oc, four, 0⟩ (six n) = if four.length = 4 then some ⟨oc ++ o4 four, [n], 0⟩ else some ⟨oc, four ++ [n], 0⟩ := by
  obtain ⟨h1, h2, h3, h4⟩ := six_mem n h
  unfold step6
  rw [if_neg (by omega), if_neg (fun z => h4 z.1), if_pos ⟨h1, rfl⟩, sixIx_six n h]
def Full (four : List Nat) : Prop := four = [] ∨ four.length = 4
theorem run6_first {n : Nat} (h : n < 64) {oc four : List Nat} (hf : Full four) (r : List Nat) (p : Nat) : run6 (six n :: r) p ⟨oc, four, 0⟩ = run6 r (p + 1) ⟨oc ++ o4 four, [n], 0⟩ := by
  refine run6_some ?_ r p
  rw [step6_six h]
  rcases hf with hf | hf
  · subst hf
    rw [if_neg (by simp), show o4 [] = [] from rfl, List.append_nil]
    rfl
  · rw [if_pos hf]
theorem run6_more {n : Nat} (h : n < 64) {oc four : List Nat} (hf : four.length ≠ 4) (r : List Nat) (p : Nat) : run6 (six n :: r) p ⟨oc, four, 0⟩ = run6 r (p + 1) ⟨oc, four ++ [n], 0⟩ := by
  exact run6_some (by rw [step6_six h, if_neg hf]) r p
theorem o4_abc {a b c : Nat} (ha : a < 256) (hb : b < 256) (hc : c < 256) : o4 [a / 4, a % 4 * 16 + b / 16, b % 16 * 4 + c / 64, c % 64] = [a, b, c] := by
  have e : o4n [a / 4, a % 4 * 16 + b / 16, b % 16 * 4 + c / 64, c % 64] = 65536 * a + 256 * b + c := by
    show 64 * (64 * (64 * (64 * 0 + a / 4) + (a % 4 * 16 + b / 16)) + (b % 16 * 4 + c / 64)) + c % 64 = _
    omega
  unfold o4
  rw [e]
  show [_, _, _] = _
  rw [show (65536 * a + 256 * b + c) / 65536 = a by omega, show (65536 * a + 256 * b + c) / 256 % 256 = b by omega, show (65536 * a + 256 * b + c) % 256 = c by omega]
theorem o4_ab {a b : Nat} (ha : a < 256) (hb : b < 256) : o4 [a / 4, a % 4 * 16 + b / 16, b % 16 * 4] = [a, b] := by
  have e : o4n [a / 4, a % 4 * 16 + b / 16, b % 16 * 4] = 65536 * a + 256 * b := by
    show 64 * (64 * (64 * (64 * 0 + a / 4) + (a % 4 * 16 + b / 16)) + (b % 16 * 4)) + 0 = _
    omega
  unfold o4
  rw [e]
  show [_, _] = _
  rw [show (65536 * a + 256 * b) / 65536 = a by omega, show (65536 * a + 256 * b) / 256 % 256 = b by omega]
theorem o4_a {a : Nat} (ha : a < 256) : o4 [a / 4, a % 4 * 16] = [a] := by
  have e : o4n [a / 4, a % 4 * 16] = 65536 * a := by
    show 64 * (64 * (64 * (64 * 0 + a / 4) + (a % 4 * 16)) + 0) + 0 = _
    omega
  unfold o4
  rw [e]
  show [_] = _
  rw [show (65536 * a) / 65536 = a by omega]
/-- sixes are read to their octets -/
theorem run6_sixC : ∀ (n : Nat) (l : List Nat), l.length ≤ n → (∀ x ∈ l, x < 256) → ∀ (p : Nat) (oc fo : List Nat), Full fo → ∃ st, run6 (sixC l) p ⟨oc, fo, 0⟩ = .ok st ∧ st.oct ++ o4 st.four = oc ++ o4 fo ++ l ∧ (l ≠ [] → st.four.length + st.filled = 4) ∧ (l = [] → st = ⟨oc, fo, 0⟩)
  | _, [], _, _, p, oc, fo, hf => ⟨_, by rw [show sixC [] = [] from by simp [sixC]]; rfl, by simp, fun z => absurd rfl z, fun _ => rfl⟩
  | 0, a :: r, h, _, _, _, _, _ => by simp at h
  | n + 1, [a], h, hb, p, oc, fo, hf => by
    have ha := hb a (by simp)
    have e : sixC [a] = [six (a / 4), six (a % 4 * 16), 61, 61] := by simp [sixC, FL.four]
    have hm0 : mayFill [a / 4, a % 4 * 16] 0 = true := by
      simp [mayFill]
    have hm1 : mayFill [a / 4, a % 4 * 16] 1 = true := by
      simp [mayFill]
    refine ⟨⟨oc ++ o4 fo, [a / 4, a % 4 * 16], 2⟩, ?_, ?_, fun _ => rfl, fun z => by cases z⟩
    · rw [e, run6_first (by omega) hf, run6_more (by omega) (by simp)]
      show run6 [61, 61] _ ⟨_, [a / 4, a % 4 * 16], 0⟩ = _
      have s1 : step6 ⟨oc ++ o4 fo, [a / 4, a % 4 * 16], 0⟩ 61 = some ⟨oc ++ o4 fo, [a / 4, a % 4 * 16], 1⟩ := by
        unfold step6
        rw [if_neg (by omega), if_pos ⟨rfl, hm0⟩]
      have s2 : step6 ⟨oc ++ o4 fo, [a / 4, a % 4 * 16], 1⟩ 61 = some ⟨oc ++ o4 fo, [a / 4, a % 4 * 16], 2⟩ := by
        unfold step6
        rw [if_neg (by omega), if_pos ⟨rfl, hm1⟩]
      rw [run6_some s1, run6_some s2]
      rfl
    · show oc ++ o4 fo ++ o4 [a / 4, a % 4 * 16] = _
      rw [o4_a ha]
  | n + 1, [a, b], h, hb, p, oc, fo, hf => by
    have ha := hb a (by simp)
    have hb2 := hb b (by simp)
    have e : sixC [a, b] = [six (a / 4), six (a % 4 * 16 + b / 16), six (b % 16 * 4), 61] := by simp [sixC, FL.four]
    have hm0 : mayFill [a / 4, a % 4 * 16 + b / 16, b % 16 * 4] 0 = true := by
      simp [mayFill]
    refine ⟨⟨oc ++ o4 fo, [a / 4, a % 4 * 16 + b / 16, b % 16 * 4], 1⟩, ?_, ?_, fun _ => rfl, fun z => by cases z⟩
    · rw [e, run6_first (by omega) hf, run6_more (by omega) (by simp), run6_more (by omega) (by simp)]
      show run6 [61] _ ⟨_, [a / 4, a % 4 * 16 + b / 16, b % 16 * 4], 0⟩ = _
      have s1 : step6 ⟨oc ++ o4 fo, [a / 4, a % 4 * 16 + b / 16, b % 16 * 4], 0⟩ 61 = some ⟨oc ++ o4 fo, [a / 4, a % 4 * 16 + b / 16, b % 16 * 4], 1⟩ := by
        unfold step6
        rw [if_neg (by omega), if_pos ⟨rfl, hm0⟩]
      rw [run6_some s1]
      rfl
    · show oc ++ o4 fo ++ o4 [a / 4, a % 4 * 16 + b / 16, b % 16 * 4] = _
      rw [o4_ab ha hb2]
  | n + 1, a :: b :: c :: r, h, hb, p, oc, fo, hf => by
    have ha := hb a (by simp)
    have hb2 := hb b (by simp)
    have hc := hb c (by simp)
    have hr : ∀ x ∈ r, x < 256 := fun x hx => hb x (by simp [hx])
    have e : sixC (a :: b :: c :: r) = six (a / 4) :: six (a % 4 * 16 + b / 16) :: six (b % 16 * 4 + c / 64) :: six (c % 64) :: sixC r := by simp [sixC, FL.four]
    rw [e, run6_first (by omega) hf, run6_more (by omega) (by simp), run6_more (by omega) (by simp), run6_more (by omega) (by simp)]
    obtain ⟨st, h1, h2, h3, h4⟩ := run6_sixC n r (by simp at h; omega) hr (p + 1 + 1 + 1 + 1) (oc ++ o4 fo) [a / 4, a % 4 * 16 + b / 16, b % 16 * 4 + c / 64, c % 64] (.inr rfl)
    refine ⟨st, h1, ?_, fun _ => ?_, fun z => by cases z⟩
    · rw [h2, o4_abc ha hb2 hc]
      simp
    · by_cases hr0 : r = []
      · rw [h4 hr0]
        rfl
      · exact h3 hr0
theorem read6_lines6 {l : List Nat} (hb : ∀ x ∈ l, x < 256) : read6 (lines6 l) = .ok l := by
  obtain ⟨st, h1, h2, h3, h4⟩ := run6_sixC l.length l (Nat.le_refl _) hb 0 [] [] (.inl rfl)
  have h5 := run6_lines _ (sixC l) (Nat.le_refl _) 0 _ _ h1 0
  unfold read6 lines6
  rw [show init6 = ⟨[], [], 0⟩ from rfl, h5]
  dsimp only
  unfold end6
  rw [if_neg (fun z => ?_), h2]
  · rfl
  · by_cases h0 : l = []
    · rw [h4 h0] at z
      exact z.1 rfl
    · have := h3 h0
      omega
end FL


namespace FL
open PySem PySem.Spec PyProof.Rows L2
section
variable {P : Program} {w : World} {K : PySem.W.Frag} {mg : Str → Option Value} {base : Heap}
def spMayFill : Sp := fun vs H Q _ => ∃ (a : Addr) (four : List Nat) (n : Nat), vs = [.ref a, .int (n : Nat)] ∧ H a = some (.lst (iv four)) ∧ four.length ≤ 4 ∧ Q (.bl (mayFill four n)) H
theorem scMayFill : FnScope ["four", "filled"] ["four", "filled"] (defScope sMayFill) := ⟨rfl, rfl, rfl, by decide +kernel, rfl, by decide +kernel, by decide +kernel⟩
theorem r_may_fill (A : FnAt K mg "_may_fill" sMayFill) (m_len : mg "len" = none) : Ready P w K mg base 1 "_may_fill" ["four", "filled"] spMayFill := by
  refine ready_of A (fun _ _ _ _ _ _ us hl => match us, hl with | [_, _], _ => rfl) fun f fd F => ?_
  refine F.ok scMayFill (fun vs H Q E h => ?_) (fun cdv A outer s H vs Q E hr h => ?_)
  · obtain ⟨a, four, n, rfl, _⟩ := h
    rfl
  · obtain ⟨a, four, n, rfl, ha, h4, q⟩ := h
    have sc := scMayFill
    refine ⟨_, pss_cons (ps_if (pt_cmpR op_eq (pe_callB call_len_seq (by rfl) m_len PySem.boot_len (pa_cons (pv 0) pa_nil)) pe_int (nomark _))
        (pss_one (ps_ret (pe_and (pe_cmpR op_lt (pv 1) pe_int (nomark _)) (pe_one (pe_cmpR op_eq (pe_op op_mod (pe_ix ix_list (pv 0) pe_int (fun _ _ => rfl)) pe_int) pe_int (nomark _))))))
        pss_nil)
      (pss_one (ps_ret (pe_and (pe_cmpR op_eq (pe_callB call_len_seq (by rfl) m_len PySem.boot_len (pa_cons (pv 0) pa_nil)) pe_int (nomark _)) (pe_and (pe_cmpR op_lt (pv 1) pe_int (nomark _)) (pe_one (pe_cmpR op_eq (pe_op op_mod (pe_ix ix_list (pv 0) pe_int (fun _ _ => rfl)) pe_int) pe_int (nomark _))))))), ?_⟩
    have hf : ∀ b : Bool, mayFill four n = b → Q (.bl b) H := fun b e => e ▸ q
    have eqi : ∀ (x : Nat) (y : Nat), decide (V.int (x : Nat) = V.int ((y : Nat) : Int)) = decide (x = y) := fun x y => by
      by_cases e : x = y
      · rw [e, decide_eq_true rfl, decide_eq_true rfl]
      · rw [decide_eq_false e, decide_eq_false (fun z => e (by have := V.int.inj z; omega))]
    have ltd : ∀ (x y : Nat), decide (((x : Nat) : Int) < ((y : Nat) : Int)) = decide (x < y) := fun x y => by
      by_cases e : x < y
      · rw [decide_eq_true e, decide_eq_true (by omega)]
      · rw [decide_eq_false e, decide_eq_false (by omega)]
    refine ⟨_, rfl, a, _, rfl, .inl (SqL.of ha), rfl, _, rfl, ?_⟩
    rw [iv_len, show (2 : Int) = ((2 : Nat) : Int) from rfl, eqi]
    by_cases h2 : four.length = 2
    · rw [decide_eq_true h2]
      have hm : mayFill four n = (decide (n < 2) && decide (four.getD 1 0 % 16 = 0)) := by
        unfold mayFill
        rw [if_pos h2]
      refine iteT ⟨_, rfl, _, _, rfl, rfl, _, rfl, ?_⟩
      rw [ltd]
      by_cases hn : n < 2
      · rw [decide_eq_true hn] at hm ⊢
        obtain ⟨x, hx⟩ : ∃ x, four[1]? = some x := ⟨_, List.getElem?_eq_getElem (by omega)⟩
        refine iteT ⟨_, rfl, a, _, 1, .int (x : Nat), rfl, rfl, SqL.of ha, atI_nat (j := 1) (iv_at hx), _, _, rfl, rfl, (by show (0 : Int) < 16; decide), rfl, ?_⟩
        refine hf _ ?_
        dsimp only
        rw [hm, Bool.true_and]
        have e : four.getD 1 0 = x := by rw [List.getD_eq_getElem?_getD, hx]; rfl
        rw [e]
        exact (eqi (x % 16) 0).symm
      · rw [decide_eq_false hn] at hm ⊢
        exact iteF (hf _ (by rw [hm]; rfl))
    · rw [decide_eq_false h2]
      have hm : mayFill four n = (decide (four.length = 3) && (decide (n < 1) && decide (four.getD 2 0 % 4 = 0))) := by
        unfold mayFill
        rw [if_neg h2]
      refine iteF ⟨_, rfl, a, _, rfl, .inl (SqL.of ha), rfl, _, rfl, ?_⟩
      rw [iv_len, show (3 : Int) = ((3 : Nat) : Int) from rfl, eqi]
      by_cases h3 : four.length = 3
      · rw [decide_eq_true h3] at hm ⊢
        refine iteT ⟨_, rfl, _, _, rfl, rfl, _, rfl, ?_⟩
        rw [show (1 : Int) = ((1 : Nat) : Int) from rfl, ltd]
        by_cases hn : n < 1
        · rw [decide_eq_true hn] at hm ⊢
          obtain ⟨x, hx⟩ : ∃ x, four[2]? = some x := ⟨_, List.getElem?_eq_getElem (by omega)⟩
          refine iteT ⟨_, rfl, a, _, 2, .int (x : Nat), rfl, rfl, SqL.of ha, atI_nat (j := 2) (iv_at hx), _, _, rfl, rfl, (by show (0 : Int) < 4; decide), rfl, ?_⟩
          refine hf _ ?_
          dsimp only
          rw [hm, Bool.true_and, Bool.true_and]
          have e : four.getD 2 0 = x := by rw [List.getD_eq_getElem?_getD, hx]; rfl
          rw [e]
          exact (eqi (x % 4) 0).symm
        · rw [decide_eq_false hn] at hm ⊢
          exact iteF (hf _ (by rw [hm]; rfl))
      · rw [decide_eq_false h3] at hm ⊢
        exact iteF (hf _ (by rw [hm]; rfl))
def spO4 : Sp := fun vs H Q _ => ∃ (a : Addr) (four : List Nat), vs = [.ref a] ∧ H a = some (.lst (iv four)) ∧ four.length ≤ 4 ∧ (∀ s ∈ four, s < 64) ∧ ∀ H' p, Same H H' → H p = none → H' p = some (.lst (iv (o4 four))) → Q (.ref p) H'
theorem scOctetsOfFour : FnScope ["four", "number", "six", "octets"] ["four"] (defScope sOctetsOfFour) := ⟨rfl, rfl, rfl, by decide +kernel, rfl, by decide +kernel, by decide +kernel⟩
theorem rep_zero (k : Nat) : (List.replicate ((k : Nat) : Int).toNat [V.int 0]).flatten = iv (List.replicate k 0) := by
  rw [Int.toNat_natCast]
  induction k with
  | zero => rfl
  | succ k ih =>
    rw [List.replicate_succ, List.flatten_cons, ih, List.replicate_succ]
    rfl
theorem cut_takeC (l : List Nat) (j : Nat) : cutV (iv l) none (some (j : Nat)) = iv (l.take j) := by
  unfold cutV
  rw [HT.sIx_none, HT.sIx_nat, iv_len, List.drop_zero, Nat.sub_zero]
  unfold iv
  rw [← List.map_take]
  congr 1
  by_cases h : j ≤ l.length
  · rw [Nat.min_eq_left h]
  · rw [Nat.min_eq_right (by omega), List.take_of_length_le (Nat.le_refl _), List.take_of_length_le (by omega)]
theorem r_octets_of_four (A : FnAt K mg "_octets_of_four" sOctetsOfFour) (m_len : mg "len" = none) (m_max : mg "max" = none) : Ready P w K mg base 1 "_octets_of_four" ["four"] spO4 := by
  refine ready_of A (fun _ _ _ _ _ _ us hl => match us, hl with | [_], _ => rfl) fun f fd F => ?_
  refine F.ok scOctetsOfFour (fun vs H Q E h => ?_) (fun cdv A outer s H vs Q E hr h => ?_)
  · obtain ⟨a, four, rfl, _⟩ := h
    rfl
  · obtain ⟨a, four, rfl, ha, h4, h64, q⟩ := h
    have sc := scOctetsOfFour
    refine ⟨_, pss_cons (ps_set (i := 1) sc.nd rfl (.inl rfl) pe_int)
      (pss_cons (ps_for PassesOwn.never rfl (pi_list (pe_op op_cat (pv 0) (pe_op op_rep (pe_lst (pa_cons pe_int pa_nil)) (pe_op op_sub pe_int (pe_callB call_len_seq (by rfl) m_len PySem.boot_len (pa_cons (pv 0) pa_nil)))))) (pg_name (i := 2) sc.nd rfl (.inl rfl))
        (pss_one (ps_set (i := 1) sc.nd rfl (.inl rfl) (pe_op op_add (pe_op op_mul pe_int (pv 1)) (pv 2)))))
      (pss_cons (ps_set (i := 3) sc.nd rfl (.inl rfl) (pe_lst (pa_cons (pe_op op_fdiv (pv 1) pe_int) (pa_cons (pe_op op_mod (pe_op op_fdiv (pv 1) pe_int) pe_int) (pa_cons (pe_op op_mod (pv 1) pe_int) pa_nil)))))
      (pss_one (ps_ret (pe_slice sl_list (pv 3) po_none (po_some (pe_callB (call_max2 rfl) (by rfl) m_max (by decide +kernel) (pa_cons pe_int (pa_cons (pe_op op_sub (pe_callB call_len_seq (by rfl) m_len PySem.boot_len (pa_cons (pv 0) pa_nil)) pe_int) pa_nil))))))))), ?_⟩
    refine ⟨_, rfl, (by show 1 ≤ sizeLine; decide), fun p1 n1 => ?_⟩
    refine ⟨_, rfl, a, _, rfl, .inl (SqL.of (kn ha n1)), _, _, rfl, rfl, ?_⟩
    rw [iv_len]
    refine ⟨p1, ((4 - four.length : Nat) : Int), _, rfl, congrArg V.int (show (4 : Int) - ((four.length : Nat) : Int) = _ by omega), upd_same, by omega, by omega, by show 1 * ((4 - four.length : Nat) : Int).toNat ≤ sizeLine; rw [sizeLine_eq]; omega, fun p2 n2 => ?_⟩
    rw [rep_zero]
    refine ⟨a, p2, _, _, rfl, rfl, kn (kn ha n1) n2, upd_same, by rw [iv_len, iv_len, List.length_replicate, sizeLine_eq]; omega, fun p3 n3 => ?_⟩
    rw [← iv_app]
    have s3 : Same H (upd (upd (upd H p1 (.lst [.int 0])) p2 (.lst (iv (List.replicate (4 - four.length) 0)))) p3 (.lst (iv (four ++ List.replicate (4 - four.length) 0)))) := (same_new n1).trans ((same_new n2).trans (same_new n3))
    have h3 : (upd (upd (upd H p1 (.lst [.int 0])) p2 (.lst (iv (List.replicate (4 - four.length) 0)))) p3 (.lst (iv (four ++ List.replicate (4 - four.length) 0)))) p3 = some (.lst (iv (four ++ List.replicate (4 - four.length) 0))) := upd_same
    generalize upd (upd (upd H p1 (.lst [.int 0])) p2 (.lst (iv (List.replicate (4 - four.length) 0)))) p3 (.lst (iv (four ++ List.replicate (4 - four.length) 0))) = H3 at s3 h3 ⊢
    obtain ⟨L, hL⟩ : ∃ L, L = four ++ List.replicate (4 - four.length) 0 := ⟨_, rfl⟩
    have hn4 : o4n four = L.foldl (fun n s => 64 * n + s) 0 := by rw [hL]; rfl
    rw [← hL] at h3
    refine ⟨p3, rfl, ⟨_, SqL.of h3⟩, ?_⟩
    refine for_it (walk_list (K := K) (a := p3) (xs := iv L)) (fun i σ H' => ∃ (y2 : Option V), σ = [some (.ref a), some (.int (((L.take i).foldl (fun n s => 64 * n + s) 0 : Nat) : Int)), y2, none] ∧ H' = H3) ⟨none, rfl, rfl⟩ (fun i σ H' _ hp => ?_) (fun i x σ H1 H2 hi hp hy => ?_) (fun σ H1 hp => ?_)
    · obtain ⟨y2, rfl, rfl⟩ := hp
      exact SqL.of h3
    · obtain ⟨y2, rfl, rfl⟩ := hp
      obtain ⟨rfl, hx⟩ := hy
      rw [iv_len] at hi
      have hn := List.getElem?_eq_getElem hi
      generalize L[i] = s0 at hn
      rw [iv_at hn] at hx
      injection hx with hx
      subst hx
      refine ⟨_, rfl, _, _, rfl, rfl, .inl ⟨by decide, by decide⟩, _, rfl, _, _, rfl, rfl, some (.int (s0 : Nat)), ?_, rfl⟩
      rw [take_more hn, List.foldl_append]
      rfl
    · obtain ⟨y2, rfl, rfl⟩ := hp
      rw [iv_len, List.take_length, ← hn4]
      refine ⟨_, rfl, _, _, rfl, rfl, ⟨by decide, by decide⟩, _, rfl, _, _, rfl, rfl, ⟨by decide, by decide⟩, _, _, rfl, rfl, (by show (0 : Int) < 256; decide), _, rfl, _, _, rfl, rfl, (by show (0 : Int) < 256; decide), (by show 3 ≤ sizeLine; decide), fun p4 n4 => ?_⟩
      have e3 : [V.int (((o4n four : Nat) : Int) / 65536), V.int (((o4n four : Nat) : Int) / 256 % 256), V.int (((o4n four : Nat) : Int) % 256)] = iv [o4n four / 65536, o4n four / 256 % 256, o4n four % 256] := by
        show _ = [V.int ((o4n four / 65536 : Nat) : Int), V.int ((o4n four / 256 % 256 : Nat) : Int), V.int ((o4n four % 256 : Nat) : Int)]
        rw [show ((o4n four / 65536 : Nat) : Int) = ((o4n four : Nat) : Int) / 65536 by omega, show ((o4n four / 256 % 256 : Nat) : Int) = ((o4n four : Nat) : Int) / 256 % 256 by omega, show ((o4n four % 256 : Nat) : Int) = ((o4n four : Nat) : Int) % 256 by omega]
      have s4 : Same H1 (upd H1 p4 (.lst (iv [o4n four / 65536, o4n four / 256 % 256, o4n four % 256]))) := same_new n4
      refine ⟨_, rfl, _, rfl, a, _, rfl, .inl (SqL.of (kn (s3 _ _ ha) n4)), _, _, rfl, rfl, _, _, rfl, ?_⟩
      rw [iv_len]
      have em : (if ((four.length : Nat) : Int) - 1 > 0 then ((four.length : Nat) : Int) - 1 else 0) = ((four.length - 1 : Nat) : Int) := by split <;> omega
      rw [em]
      have h5 : (upd H1 p4 (.lst (iv [o4n four / 65536, o4n four / 256 % 256, o4n four % 256]))) p4 = some (.lst (iv [o4n four / 65536, o4n four / 256 % 256, o4n four % 256])) := upd_same
      refine ⟨_, rfl, p4, _, rfl, SqL.of h5, fun p5 n5 => ?_⟩
      rw [cut_takeC]
      refine q _ p5 ((s3.trans s4).trans (same_new n5)) (Same.free (s3.trans s4) n5) ?_
      rw [upd_same]
      rfl
end
end FL


namespace FL
open PySem PySem.Spec PyProof.Rows L2
theorem sgn_is {c d : Nat} {x : Str} (hx : x = ⟨#[d]⟩) : decide (V.str ⟨#[c]⟩ = V.str x) = decide (c = d) := by
  rw [hx]
  exact decide_eq_decide.mpr str_one
theorem tw_lenC {d : Nat} : ∀ {l : List Nat} {i : Nat}, l[i]? = some d → (∀ k, k < i → l[k]? ≠ some d) → (l.takeWhile fun x => !decide (x = d)).length = i
  | [], i, h, _ => by simp at h
  | c :: r, 0, h, _ => by
    have hc : c = d := by simpa using h
    rw [List.takeWhile_cons, decide_eq_true hc]
    rfl
  | c :: r, i + 1, h, hk => by
    have hc : c ≠ d := fun e => hk 0 (by omega) (by rw [e]; rfl)
    have ih := tw_lenC (l := r) (i := i) (by simpa using h) (fun k hlt => by have := hk (k + 1) (by omega); simpa using this)
    rw [List.takeWhile_cons, if_pos (by rw [decide_eq_false hc]; rfl), List.length_cons, ih]
/-- the first place of a sign in a text -/
theorem occ_one {x : Str} {d : Nat} (h : d ∈ x.cps.toList) : ∃ rest, Builtin.Str.occurrences x ⟨#[d]⟩ 0 x.length 1 = (x.cps.toList.takeWhile fun y => !decide (y = d)).length :: rest := by
  have hf := PySem.StrLaws.found_one x d
  rw [decide_eq_true h] at hf
  cases e : Builtin.Str.occurrences x ⟨#[d]⟩ 0 x.length 1 with
  | nil =>
    rw [e] at hf
    cases hf
  | cons k rest =>
    have hfd : Txt.find x (⟨#[d]⟩ : Str) = (k : Int) := by
      unfold Txt.find
      rw [e]
    rcases PyProof.Rows.find_whole x (⟨#[d]⟩ : Str) with ⟨h1, _⟩ | ⟨i, h1, h2, h3⟩
    · rw [hfd] at h1
      omega
    · have hki : k = i := by rw [hfd] at h1; omega
      subst hki
      have at_ : ∀ j, PySem.StrLaws.At x (⟨#[d]⟩ : Str) x.length j ↔ x.cps.toList[j]? = some d := fun j => by
        constructor
        · exact fun z => (PySem.StrLaws.subAt_one x d j).mp ⟨z.1, z.2⟩
        · exact fun z => ⟨((PySem.StrLaws.subAt_one x d j).mpr z).1, ((PySem.StrLaws.subAt_one x d j).mpr z).2⟩
      rw [tw_lenC ((at_ k).mp h2) fun j hj z => h3 j hj ((at_ j).mpr z)]
      exact ⟨rest, rfl⟩
theorem occ_six {c : Nat} (h : c ∈ SIXS.cps.toList) : ∃ rest, Builtin.Str.occurrences SIXS ⟨#[c]⟩ 0 SIXS.length 1 = sixIx c :: rest := occ_one h
theorem cutS_codes (z : Str) {i j : Nat} (h1 : i ≤ z.length) : (cutS z (some (i : Nat)) (some (j : Nat))).cps.toList = (z.cps.toList.drop i).take (j - i) := by
  unfold cutS
  rw [HT.sIx_nat, HT.sIx_nat, Nat.min_eq_left h1]
  show (List.take _ (List.drop _ _)) = _
  have hl := len_cps z
  by_cases h2 : j ≤ z.length
  · rw [Nat.min_eq_left h2]
  · rw [Nat.min_eq_right (by omega), List.take_of_length_le (by rw [List.length_drop]; omega), List.take_of_length_le (by rw [List.length_drop]; omega)]
def linesOf (s : List Nat) (k : Nat) : List (List Nat) := (List.range k).map (lineAt s)
theorem lineAt_len (s : List Nat) (i : Nat) : (lineAt s i).length ≤ 73 := by
  unfold lineAt
  rw [List.length_append, List.length_singleton]
  have := List.length_take_le 72 (s.drop (72 * i))
  omega
theorem join0C : ∀ ps : List (List Nat), Txt.join ("" : Str) (ps.map mk) = mk ps.flatten := by
  intro ps
  refine mk_eq ?_
  show TL.tl _ = _
  rw [TL.join_eq, TL.tl_join]
  have e : TL.tl ("" : Str) = [] := by decide +kernel
  rw [e, List.map_map]
  have e2 : ps.map (TL.tl ∘ mk) = ps := (List.map_congr_left (fun p _ => mk_codes p)).trans (List.map_id _)
  rw [e2]
  induction ps with
  | nil => rfl
  | cons p r ih =>
    cases r with
    | nil => simp [TL.joinL]
    | cons p2 r2 =>
      show p ++ ([] ++ TL.joinL [] (p2 :: r2)) = _
      rw [List.nil_append, ih ((List.map_congr_left (fun p _ => mk_codes p)).trans (List.map_id _))]
      rfl
theorem sum0C {ps : List (List Nat)} {n : Nat} (h : ∀ p ∈ ps, p.length ≤ n) : ((ps.map mk).map (·.length)).sum ≤ ps.length * n := by
  induction ps with
  | nil => simp
  | cons p r ih =>
    have h1 := h p (by simp)
    have h2 := ih fun x hx => h x (List.mem_cons_of_mem _ hx)
    rw [List.map_cons, List.map_cons, List.sum_cons, mk_len, List.length_cons, Nat.add_mul]
    omega
theorem sixC_lenC : ∀ l : List Nat, (sixC l).length ≤ 2 * l.length + 2
  | [] => by simp [sixC]
  | [a] => by simp [sixC, FL.four]
  | [a, b] => by simp [sixC, FL.four]
  | a :: b :: c :: r => by
    have := sixC_lenC r
    have e : sixC (a :: b :: c :: r) = FL.four [a, b, c] ++ sixC r := by simp [sixC]
    rw [e, List.length_append, four_len (by simp) (by simp)]
    simp
    omega
section
variable {P : Program} {w : World} {K : PySem.W.Frag} {mg : Str → Option Value} {base : Heap}
theorem scWriteSixes : FnScope ["octets", "signs", "begin"] ["octets"] (defScope sWriteSixes) := ⟨rfl, rfl, rfl, by decide +kernel, rfl, by decide +kernel, by decide +kernel⟩
theorem r_write_sixes (A : FnAt K mg "_write_sixes" sWriteSixes) (R : Ready P w K mg base 2 "sixes_of" ["octets"] spSixes) (m_len : mg "len" = none) (m_range : mg "range" = none) {t1 : Tok} (m_WIDTH : mg "WIDTH" = some (.int 72 t1)) : Ready P w K mg base 3 "_write_sixes" ["octets"] (spWrC lines6) := by
  obtain ⟨f1, fd1, g1, k1, b1, G1⟩ := R
  refine ready_of A (fun _ _ _ _ _ _ us hl => match us, hl with | [_], _ => rfl) fun f fd F => ?_
  refine F.ok scWriteSixes (fun vs H Q E h => ?_) (fun cdv A outer s H vs Q E hr h => ?_)
  · obtain ⟨a, l, rfl, _⟩ := h
    rfl
  · obtain ⟨a, l, rfl, ha, hb, q⟩ := h
    have sc := scWriteSixes
    refine ⟨_, pss_cons (ps_set (i := 1) sc.nd rfl (.inr rfl) (pe_call G1 (hr.mono (by decide)) (by rfl) g1 k1 b1 .nil pass0 (pa_cons (pv 0) pa_nil)))
      (pss_one (ps_ret (pe_join pe_str (pe_lc (own := [("begin", 2)]) (g := gName 2) (tt := tYes) (by rfl) sc.nd (pi_range3 (by rfl) m_range (pa_cons pe_int (pa_cons (pe_callB call_len_str (by rfl) m_len PySem.boot_len (pa_cons (pv 1) pa_nil)) (pa_cons (pe_glob (v := .int 72) rfl m_WIDTH ⟨_, rfl⟩) pa_nil)))) (blkOk_by (own := [("begin", 2)]) (N := ["octets", "signs", "begin"]) (sc := defScope sWriteSixes) (by decide +kernel)) (fun _ _ _ _ _ => (pg_name (i := 2) sc.nd rfl (.inl rfl))) (fun _ _ _ _ _ => pts_nil) (fun _ _ _ _ _ => (pe_op op_add_str (pe_slice sl_str (pv 1) (po_some (pv 2)) (po_some (pe_op op_add (pv 2) (pe_glob (v := .int 72) rfl m_WIDTH ⟨_, rfl⟩)))) pe_str)))))), ?_⟩
    have hbl := hb.len
    refine ⟨_, rfl, a, l, rfl, ha, hb.lt, by omega, fun H1 s1 => ?_⟩
    have hsl := sixC_lenC l
    obtain ⟨sg, hsg⟩ : ∃ sg, sg = sixC l := ⟨_, rfl⟩
    have hfin : mk (lines6 l) = mk (linesOf sg ((sg.length + 71) / 72)).flatten := by rw [hsg]; rfl
    rw [← hsg] at hsl ⊢
    refine ⟨⟨_, rfl⟩, _, rfl, _, rfl, szX (by omega), 0, ((sg.length : Nat) : Int), 72, (sg.length + 71) / 72, by rw [mk_len], rg_up (c := 72) (by omega) (by decide) (by decide), fun D hD => ?_⟩
    refine lc_it (walk_rangeC (lo := 0) (c := 72) (n := (sg.length + 71) / 72)) (fun i H' => Same H1 H' ∧ H' D = some (.lst (((linesOf sg i).map mk).map V.str))) ⟨same_new hD, upd_same⟩ (fun _ _ _ _ => trivial) (fun i x H2 H3 hi hp hy => ?_) (fun H2 hp => ?_)
    · obtain ⟨rfl, hx⟩ := hy
      obtain ⟨sm, hd⟩ := hp
      have hx' : x = .int ((72 * i : Nat) : Int) := by
        rw [hx]
        exact congrArg V.int (by omega)
      subst hx'
      refine ⟨rfl, ?_⟩
      unfold tYes
      refine iteT ?_
      have ec : cutS (mk sg) (some ((72 * i : Nat) : Int)) (some (((72 * i : Nat) : Int) + 72)) = mk ((sg.drop (72 * i)).take 72) := mk_eq (by
        rw [show (((72 * i : Nat) : Int) + 72) = ((72 * i + 72 : Nat) : Int) by omega, cutS_codes _ (by rw [mk_len]; omega), mk_codes, show 72 * i + 72 - 72 * i = 72 by omega])
      have e10 : ("\n" : Str) = mk [10] := by decide +kernel
      have hc := catX (rfl : mk ((sg.drop (72 * i)).take 72) = _) e10
      refine ⟨_, rfl, _, rfl, _, rfl, _, rfl, _, _, rfl, rfl, _, rfl, mk sg, rfl, szX (by omega), ?_⟩
      rw [ec]
      refine ⟨_, _, rfl, rfl, (by rw [← len_append]; exact szE hc (by have := List.length_take_le 72 (sg.drop (72 * i)); simp; omega)), ?_⟩
      rw [hc]
      refine ⟨_, hd, ?_, same_set sm hD, ?_⟩
      · rw [List.length_map, List.length_map]
        unfold linesOf
        rw [List.length_map, List.length_range]
        exact szl (by omega)
      · rw [upd_same]
        unfold linesOf
        rw [List.range_succ, List.map_append, List.map_append, List.map_append]
        rfl
    · obtain ⟨sm, hd⟩ := hp
      refine ⟨("" : Str), D, _, rfl, rfl, .inl (SqL.of hd), ?_, ?_⟩
      · have h1 := sum0C (ps := linesOf sg ((sg.length + 71) / 72)) (n := 73) fun p hp => by
          obtain ⟨i, _, rfl⟩ := List.mem_map.mp hp
          exact lineAt_len _ _
        have h2 : ("" : Str).length = 0 := by decide +kernel
        have h3 : (linesOf sg ((sg.length + 71) / 72)).length = (sg.length + 71) / 72 := by
          unfold linesOf
          rw [List.length_map, List.length_range]
        rw [h2]
        simp only [List.length_map] at h1 ⊢
        rw [h3] at h1
        omega
      · rw [join0C, ← hfin]
        exact q _ (s1.trans sm)
theorem scReadSixes : FnScope ["text", "octets", "four", "filled", "place", "sign"] ["text"] (defScope sReadSixes) := ⟨rfl, rfl, rfl, by decide +kernel, rfl, by decide +kernel, by decide +kernel⟩
theorem x_read_sixes {C : Addr} (MNoCode : MkFld P w K mg base "NoCode" C "at") (A : FnAt K mg "_read_sixes" sReadSixes) (R1 : Ready P w K mg base 1 "_may_fill" ["four", "filled"] spMayFill) (R2 : Ready P w K mg base 1 "_octets_of_four" ["four"] spO4)
    (m_enumerate : mg "enumerate" = none) (m_len : mg "len" = none) {t1 : Tok} (m_SIXES : mg "SIXES" = some (.str SIXS t1)) : ReadyX P w K mg base 4 "_read_sixes" ["text"] (spRdC C read6) := by
  obtain ⟨f1, fd1, g1, k1, b1, G1⟩ := R1
  obtain ⟨f2, fd2, g2, k2, b2, G2⟩ := R2
  refine readyX_of A (fun _ _ _ _ _ _ us hl => match us, hl with | [_], _ => rfl) fun f fd F => ?_
  refine F.okX scReadSixes (fun vs H Q E h => ?_) (fun cdv A outer s H vs Q E hr h => ?_)
  · obtain ⟨z, rfl, _⟩ := h
    rfl
  · obtain ⟨z, rfl, hz, hsg, q, qe⟩ := h
    have sc := scReadSixes
    refine ⟨_, pss_cons (ps_set (i := 1) sc.nd rfl (.inl rfl) (pe_lst pa_nil))
      (pss_cons (ps_set (i := 2) sc.nd rfl (.inl rfl) (pe_lst pa_nil))
      (pss_cons (ps_set (i := 3) sc.nd rfl (.inl rfl) pe_int)
      (pss_cons (ps_for (passes_of rfl) rfl (pi_enumS (by rfl) m_enumerate (pa_cons (pv 0) pa_nil)) (pg_tup rfl (pgs_cons (pg_name (i := 4) sc.nd rfl (.inl rfl)) (pgs_cons (pg_name (i := 5) sc.nd rfl (.inl rfl)) pgs_nil)))
        (pss_cons (ps_if (PW.pt (pw_or (pt_cmpR op_eq (pv 5) pe_str (nomark _)) (pw_or1 (pt_cmpR op_eq (pv 5) pe_str (nomark _)))))
            (pss_one ps_continue)
            pss_nil)
          (pss_one (ps_if (PW.pt (pw_and (pt_cmpR op_eq (pv 5) pe_str (nomark _)) (pw_and1 (pt_val (pe_call G1 (hr.mono (by decide)) (by rfl) g1 k1 b1 .nil pass0 (pa_cons (pv 2) (pa_cons (pv 3) pa_nil)))))))
            (pss_one (ps_aug (i := 3) sc.nd rfl (.inl rfl) pe_int ip_add))
            (pss_one (ps_if (PW.pt (pw_and (pt_cmpR op_in_sign (pv 5) (pe_glob (v := .str SIXS) rfl m_SIXES ⟨_, rfl⟩) (by rfl)) (pw_and1 (pt_cmpR op_eq (pv 3) pe_int (nomark _)))))
                (pss_cons (ps_if (pt_cmpR op_eq (pe_callB call_len_seq (by rfl) m_len PySem.boot_len (pa_cons (pv 2) pa_nil)) pe_int (nomark _))
                    (pss_cons (ps_expr (pe_bm PySem.F.plainAttrs_list PySem.F.slot_list_extend PySem.F.type_list_extend mt_extend (pv 1) (pa_cons (pe_call G2 (hr.mono (by decide)) (by rfl) g2 k2 b2 .nil pass0 (pa_cons (pv 2) pa_nil)) pa_nil)))
                      (pss_one (ps_set (i := 2) sc.nd rfl (.inl rfl) (pe_lst pa_nil))))
                    pss_nil)
                  (pss_one (ps_expr (pe_bm PySem.F.plainAttrs_list PySem.F.slot_list_append PySem.F.type_list_append mt_append (pv 2) (pa_cons (pe_bm PySem.F.plainAttrs_str PySem.F.slot_str_index PySem.F.type_str_index mt_sindex (pe_glob (v := .str SIXS) rfl m_SIXES ⟨_, rfl⟩) (pa_cons (pv 5) pa_nil)) pa_nil)))))
                (pss_one (ps_raise rfl (takes_of rfl rfl rfl rfl) (pmk_fld MNoCode (hr.mono (by decide)) (by rfl) (pa_cons pe_str (pa_cons (pv 4) pa_nil)) [] (.inl rfl))))))))))
      (pss_cons (ps_if (PW.pt (pw_and (pt_cmpR (op_neD hr.units) (pv 2) (pe_lst pa_nil) (nomark _)) (pw_and1 (pt_cmpR op_lt (pe_op op_add (pe_callB call_len_seq (by rfl) m_len PySem.boot_len (pa_cons (pv 2) pa_nil)) (pv 3)) pe_int (nomark _)))))
        (pss_one (ps_raise rfl (takes_of rfl rfl rfl rfl) (pmk_fld MNoCode (hr.mono (by decide)) (by rfl) (pa_cons pe_str (pa_cons (pe_callB call_len_str (by rfl) m_len PySem.boot_len (pa_cons (pv 0) pa_nil)) pa_nil)) [] (.inl rfl))))
        pss_nil)
      (pss_one (ps_ret (pe_op op_cat (pv 1) (pe_call G2 (hr.mono (by decide)) (by rfl) g2 k2 b2 .nil pass0 (pa_cons (pv 2) pa_nil))))))))), ?_⟩
    refine ⟨(by show 0 ≤ sizeLine; decide), fun po npo => ⟨(by show 0 ≤ sizeLine; decide), fun f0 nf0 => ?_⟩⟩
    have npo0 : H po = none := npo
    have nf00 : H f0 = none := Same.free (same_new npo) nf0
    have hpf : po ≠ f0 := fun e => by rw [← e, upd_same] at nf0; cases nf0
    refine ⟨_, rfl, z, rfl, ?_⟩
    refine for_it walk_enumS (fun i σ H' => ∃ (y4 y5 : Option V) (pf : Addr) (st : St6), σ = [some (.str z), some (.ref po), some (.ref pf), some (.int (st.filled : Nat)), y4, y5] ∧ Same H H' ∧ H' po = some (.lst (iv st.oct)) ∧ H' pf = some (.lst (iv st.four)) ∧ pf ≠ po ∧ H pf = none ∧ run6 (z.cps.toList.take i) 0 init6 = .ok st ∧ Ok6 st i)
      ⟨none, none, f0, init6, rfl, (same_new npo).trans (same_new nf0), by rw [upd_ne hpf]; exact upd_same, upd_same, hpf.symm, nf00, by rw [List.take_zero]; rfl, ⟨by decide, (fun s h => by cases h), Nat.le_refl _, Nat.le_refl _⟩⟩ (fun _ _ _ _ _ => trivial) (fun i x σ H1 H2 hi hp hy => ?_) (fun σ H1 hp => ?_)
    · obtain ⟨y4, y5, pf, st, rfl, sm, hpo, hpfv, hne, npf, hrun, ok⟩ := hp
      obtain ⟨T, c, rfl, nT, rfl, hc⟩ := hy
      have hcl : z.cps.toList[i]? = some c := cps_at hc
      have sT : Same H1 (upd H1 T (.tup [.int (i : Nat), .str ⟨#[c]⟩])) := same_new nT
      have hT : (upd H1 T (.tup [.int (i : Nat), .str ⟨#[c]⟩])) T = some (.tup [.int (i : Nat), .str ⟨#[c]⟩]) := upd_same
      generalize upd H1 T (.tup [.int (i : Nat), .str ⟨#[c]⟩]) = H2 at sT hT ⊢
      have sm2 := sm.trans sT
      have hpo2 := sT _ _ hpo
      have hpf2 := sT _ _ hpfv
      have hil : i < z.length := hi
      have ol := ok.ol
      refine ⟨T, _, rfl, SqT.of hT, rfl, _, _, rfl, _, _, rfl, rfl, ?_⟩
      have e32 : (" " : Str) = ⟨#[32]⟩ := by decide +kernel
      have e10 : ("\n" : Str) = ⟨#[10]⟩ := by decide +kernel
      have e61 : ("=" : Str) = ⟨#[61]⟩ := by decide +kernel
      have cont : ∀ (H3 : Hp) (pf' : Addr) (st' : St6), Same H H3 → step6 st c = some st' → H3 po = some (.lst (iv st'.oct)) → H3 pf' = some (.lst (iv st'.four)) → pf' ≠ po → H pf' = none → ∃ (y4 y5 : Option V) (pf'' : Addr) (st'' : St6), [some (V.str z), some (.ref po), some (.ref pf'), some (.int (st'.filled : Nat)), some (.int (i : Nat)), some (.str ⟨#[c]⟩)] = [some (.str z), some (.ref po), some (.ref pf''), some (.int (st''.filled : Nat)), y4, y5] ∧ Same H H3 ∧ H3 po = some (.lst (iv st''.oct)) ∧ H3 pf'' = some (.lst (iv st''.four)) ∧ pf'' ≠ po ∧ H pf'' = none ∧ run6 (z.cps.toList.take (i + 1)) 0 init6 = .ok st'' ∧ Ok6 st'' (i + 1) :=
        fun H3 pf' st' s3 hs h1 h2 h3 h4 => ⟨_, _, pf', st', rfl, s3, h1, h2, h3, h4, run6_next hrun hcl hs, ok6_step ok hs⟩
      have stop : step6 st c = none → ∀ H3, Same H H3 → Fails C "at" (i : Nat) H3 E := fun hs H3 s3 => Fails.later (qe i (run6_stop hrun hcl hs)) s3
      refine ⟨_, rfl, rfl, _, rfl, ?_⟩
      rw [show decide (V.str ⟨#[c]⟩ = V.str (" " : Str)) = decide (c = 32) from sgn_is e32]
      by_cases h32 : c = 32
      · rw [decide_eq_true h32]
        refine iteT (iteT ?_)
        exact cont H2 pf st sm2 (by unfold step6; rw [if_pos (.inl h32)]) hpo2 hpf2 hne npf
      rw [decide_eq_false h32]
      refine iteF ⟨_, rfl, rfl, _, rfl, ?_⟩
      rw [show decide (V.str ⟨#[c]⟩ = V.str ("\n" : Str)) = decide (c = 10) from sgn_is e10]
      by_cases h10 : c = 10
      · rw [decide_eq_true h10]
        refine iteT ?_
        exact cont H2 pf st sm2 (by unfold step6; rw [if_pos (.inr h10)]) hpo2 hpf2 hne npf
      rw [decide_eq_false h10]
      refine iteF ?_
      have hstep : step6 st c = if c = 61 ∧ mayFill st.four st.filled = true then some ⟨st.oct, st.four, st.filled + 1⟩
          else if c ∈ SIXS.cps.toList ∧ st.filled = 0 then (if st.four.length = 4 then some ⟨st.oct ++ o4 st.four, [sixIx c], st.filled⟩ else some ⟨st.oct, st.four ++ [sixIx c], st.filled⟩)
          else none := by
        unfold step6
        rw [if_neg (fun y => y.elim h32 h10)]
      by_cases h61 : c = 61
      · refine ⟨_, rfl, rfl, _, rfl, ?_⟩
        rw [show decide (V.str ⟨#[c]⟩ = V.str ("=" : Str)) = decide (c = 61) from sgn_is e61, decide_eq_true h61]
        refine iteT ⟨_, rfl, _, rfl, pf, st.four, st.filled, rfl, hpf2, ok.f4, _, rfl, ?_⟩
        cases hm : mayFill st.four st.filled with
        | true =>
          refine iteT ⟨_, rfl, _, _, rfl, rfl, ?_⟩
          exact cont H2 pf ⟨st.oct, st.four, st.filled + 1⟩ sm2 (by rw [hstep, if_pos ⟨h61, hm⟩]) hpo2 hpf2 hne npf
        | false =>
          have hs : step6 st c = none := by
            rw [hstep, if_neg (fun y => by rw [hm] at y; cases y.2), if_neg (fun y => not61 (h61 ▸ y.1))]
          refine iteF ⟨_, rfl, c, SIXS, rfl, rfl, _, rfl, ?_⟩
          rw [decide_eq_false (fun y => not61 (h61 ▸ y))]
          exact iteF (iteF ⟨_, rfl, mk_leaf rfl (Nat.le_refl _) (stop hs H2 sm2)⟩)
      refine ⟨_, rfl, rfl, _, rfl, ?_⟩
      rw [show decide (V.str ⟨#[c]⟩ = V.str ("=" : Str)) = decide (c = 61) from sgn_is e61, decide_eq_false h61]
      refine iteF (iteF ⟨_, rfl, c, SIXS, rfl, rfl, _, rfl, ?_⟩)
      rw [if_neg (fun y => h61 y.1)] at hstep
      by_cases hin : c ∈ SIXS.cps.toList
      case neg =>
        rw [if_neg (fun y => hin y.1)] at hstep
        rw [decide_eq_false hin]
        exact iteF (iteF ⟨_, rfl, mk_leaf rfl (Nat.le_refl _) (stop hstep H2 sm2)⟩)
      rw [decide_eq_true hin]
      refine iteT ⟨_, rfl, rfl, _, rfl, ?_⟩
      by_cases hfl : st.filled = 0
      case neg =>
        rw [if_neg (fun y => hfl y.2)] at hstep
        rw [decide_eq_false (show ¬ V.int ((st.filled : Nat) : Int) = V.int 0 from fun y => hfl (by have := V.int.inj y; omega))]
        exact iteF ⟨_, rfl, mk_leaf rfl (Nat.le_refl _) (stop hstep H2 sm2)⟩
      rw [decide_eq_true (show V.int ((st.filled : Nat) : Int) = V.int 0 by rw [hfl]; rfl)]
      rw [if_pos ⟨hin, hfl⟩] at hstep
      obtain ⟨restO, hocc⟩ := occ_six hin
      refine iteT ⟨_, rfl, pf, _, rfl, .inl (SqL.of hpf2), rfl, _, rfl, ?_⟩
      rw [iv_len]
      by_cases h4 : st.four.length = 4
      · rw [if_pos h4] at hstep
        rw [decide_eq_true (show V.int ((st.four.length : Nat) : Int) = V.int 4 by rw [h4]; rfl)]
        refine iteT ⟨_, rfl, .inl ⟨rfl, _, SqL.of hpo2⟩, _, rfl, pf, st.four, rfl, hpf2, ok.f4, ok.f64, fun H4 p4 s4 n4 hp4 => ?_⟩
        have h3 := o4_len st.four
        refine ⟨po, p4, _, _, rfl, rfl, s4 _ _ hpo2, hp4, by rw [iv_len, iv_len, sizeLine_eq]; omega, ?_⟩
        rw [← iv_app]
        have s5 : Same H (upd H4 po (.lst (iv (st.oct ++ o4 st.four)))) := same_set (sm2.trans s4) npo0
        have hpo5 : (upd H4 po (.lst (iv (st.oct ++ o4 st.four)))) po = some (.lst (iv (st.oct ++ o4 st.four))) := upd_same
        generalize upd H4 po (.lst (iv (st.oct ++ o4 st.four))) = H5 at s5 hpo5 ⊢
        refine ⟨(by show 0 ≤ sizeLine; decide), fun pf' npf' => ?_⟩
        have hne' : pf' ≠ po := fun e => by rw [e, hpo5] at npf'; cases npf'
        have hpf' : (upd H5 pf' (.lst [])) pf' = some (.lst []) := upd_same
        refine ⟨_, rfl, .inl ⟨rfl, _, SqL.of hpf'⟩, rfl, _, rfl, SIXS, _, sixIx c, restO, rfl, rfl, hocc, ?_⟩
        refine ⟨pf', _, _, rfl, rfl, hpf', by show 0 < sizeLine; decide, ?_⟩
        refine cont _ pf' ⟨st.oct ++ o4 st.four, [sixIx c], st.filled⟩ ?_ hstep ?_ upd_same hne' (Same.free s5 npf')
        · exact same_set (s5.trans (same_new npf')) (Same.free s5 npf')
        · rw [upd_ne hne'.symm, upd_ne hne'.symm]
          exact hpo5
      · rw [if_neg h4] at hstep
        rw [decide_eq_false (show ¬ V.int ((st.four.length : Nat) : Int) = V.int 4 from fun y => h4 (by have := V.int.inj y; omega))]
        refine iteF ?_
        refine ⟨_, rfl, .inl ⟨rfl, _, SqL.of hpf2⟩, rfl, _, rfl, SIXS, _, sixIx c, restO, rfl, rfl, hocc, ?_⟩
        have := ok.f4
        refine ⟨pf, _, _, rfl, rfl, hpf2, by rw [iv_len]; exact szl (by omega), ?_⟩
        refine cont _ pf ⟨st.oct, st.four ++ [sixIx c], st.filled⟩ (same_set sm2 npf) hstep ?_ ?_ hne npf
        · rw [upd_ne hne.symm]
          exact hpo2
        · rw [upd_same, show [V.int (sixIx c : Nat)] = iv [sixIx c] from rfl, ← iv_app]
    · obtain ⟨y4, y5, pf, st, rfl, sm, hpo, hpfv, hne, npf, hrun, ok⟩ := hp
      have ht : z.cps.toList.take z.cps.size = z.cps.toList := List.take_of_length_le (by simp)
      rw [ht] at hrun
      have hread : read6 z.cps.toList = end6 z.cps.toList.length st := by
        unfold read6
        rw [hrun]
      unfold end6 at hread
      have ol := ok.ol
      have hzl : z.cps.size = z.length := rfl
      rw [hzl] at ol
      have f4 := ok.f4
      have good : ¬ (st.four ≠ [] ∧ st.four.length + st.filled < 4) → ∀ H3, Same H1 H3 → ∃ v, [some (V.str z), some (.ref po), some (.ref pf), some (.int (st.filled : Nat)), y4, y5][1]? = some (some v) ∧ ∃ u, [some (V.str z), some (.ref po), some (.ref pf), some (.int (st.filled : Nat)), y4, y5][2]? = some (some u) ∧ ∃ (a : Addr) (four : List Nat), [u] = [.ref a] ∧ H3 a = some (.lst (iv four)) ∧ four.length ≤ 4 ∧ (∀ s ∈ four, s < 64) ∧ ∀ H' p, Same H3 H' → H3 p = none → H' p = some (.lst (iv (o4 four))) → ∃ (p1 q1 : Addr) (xs ys : List V), v = .ref p1 ∧ V.ref p = .ref q1 ∧ H' p1 = some (.lst xs) ∧ H' q1 = some (.lst ys) ∧ xs.length + ys.length ≤ sizeLine ∧ ∀ l', H' l' = none → Q (.ref l') (upd H' l' (.lst (xs ++ ys))) := fun hn H3 s3 => by
        rw [if_neg hn] at hread
        refine ⟨_, rfl, _, rfl, pf, st.four, rfl, s3 _ _ hpfv, f4, ok.f64, fun H4 p s4 np hp => ?_⟩
        have h3 := o4_len st.four
        refine ⟨po, p, _, _, rfl, rfl, s4 _ _ (s3 _ _ hpo), hp, by rw [iv_len, iv_len, sizeLine_eq]; omega, fun l' nl => ?_⟩
        have sall := (sm.trans s3).trans s4
        exact q _ hread _ l' (sall.trans (same_new nl)) (Same.free sall nl) (by rw [upd_same, ← iv_app])
      refine ⟨_, rfl, (by show 0 ≤ sizeLine; decide), fun pe npe => ?_⟩
      have sE : Same H1 (upd H1 pe (.lst [])) := same_new npe
      have hE : (upd H1 pe (.lst [])) pe = some (.lst []) := upd_same
      generalize upd H1 pe (.lst []) = HE at sE hE ⊢
      have hpfE := sE _ _ hpfv
      refine ⟨_, _, .lst (SqL.of hpfE) (dp_ints st.four), .lst (SqL.of hE) .nil, shaped_ints _, shaped_ints [], _, rfl, ?_⟩
      rw [show (PyData.eqv (.list (idt st.four)) (.list [])) = decide (st.four = []) from eqv_ints st.four []]
      by_cases h0 : st.four = []
      · rw [decide_eq_true h0]
        exact iteF (iteF (good (fun y => y.1 h0) HE sE))
      · rw [decide_eq_false h0]
        refine iteT ⟨_, rfl, pf, _, rfl, .inl (SqL.of hpfE), _, rfl, _, _, rfl, rfl, _, _, rfl, rfl, _, rfl, ?_⟩
        rw [iv_len]
        by_cases hlt : st.four.length + st.filled < 4
        · rw [decide_eq_true (by omega : ((st.four.length : Nat) : Int) + ((st.filled : Nat) : Int) < 4)]
          rw [if_pos ⟨h0, hlt⟩] at hread
          have hf := qe _ hread
          rw [len_cps] at hf
          exact iteT ⟨_, rfl, _, rfl, Nat.le_of_lt (szl hz), mk_leaf rfl (Nat.le_refl _) (Fails.later hf (sm.trans sE))⟩
        · rw [decide_eq_false (by omega : ¬ ((st.four.length : Nat) : Int) + ((st.filled : Nat) : Int) < 4)]
          exact iteF (good (fun y => hlt y.2) HE sE)
end
end FL


namespace FL
open PySem PySem.Spec PyProof.Rows L2
/-- both ways of an if meet -/
theorem ite_key {c : Prop} [Decidable c] {A : Prop} {N : L2.St → Hp → Prop} {σ : L2.St} {H : Hp} (J : L2.St → Hp → Prop) (key : ∀ σ' H', J σ' H' → N σ' H') (hA : (∀ σ' H', J σ' H' → N σ' H') → c → A) (hB : ¬ c → J σ H) : if c then A else N σ H := by
  by_cases h : c
  · rw [if_pos h]
    exact hA key h
  · rw [if_neg h]
    exact key _ _ (hB h)
theorem and_key {c : Prop} [Decidable c] {A B : Prop} {N : L2.St → Hp → Prop} {σ : L2.St} {H : Hp} (J : L2.St → Hp → Prop) (key : ∀ σ' H', J σ' H' → N σ' H') (hA : (∀ σ' H', J σ' H' → N σ' H') → c → A) (hB : ¬ c → J σ H) : if c then A else if false = true then B else N σ H := by
  by_cases h : c
  · rw [if_pos h]
    exact hA key h
  · rw [if_neg h, if_neg Bool.false_ne_true]
    exact key _ _ (hB h)
end FL


namespace FL
open PySem PySem.Spec PyProof.Rows L2
/-! ### drawn octets -/
theorem cut_takeR (l : List Nat) (j : Nat) : cutV (iv l) none (some (j : Nat)) = iv (l.take j) := by
  unfold cutV
  rw [HT.sIx_none, HT.sIx_nat, iv_len, List.drop_zero, Nat.sub_zero]
  unfold iv
  rw [← List.map_take]
  congr 1
  by_cases h : j ≤ l.length
  · rw [Nat.min_eq_left h]
  · rw [Nat.min_eq_right (by omega), List.take_of_length_le (Nat.le_refl _), List.take_of_length_le (by omega)]
theorem cut_dropR (l : List Nat) (i : Nat) : cutV (iv l) (some (i : Nat)) none = iv (l.drop i) := by
  unfold cutV
  rw [HT.sIx_nat]
  show ((iv l).drop (min i (iv l).length)).take ((iv l).length - min i (iv l).length) = _
  by_cases h : i ≤ (iv l).length
  · rw [Nat.min_eq_left h, List.take_of_length_le (by rw [List.length_drop]; exact Nat.le_refl _), ← iv_drop]
  · rw [Nat.min_eq_right (by omega : (iv l).length ≤ i), List.drop_eq_nil_of_le (Nat.le_refl (iv l).length), List.drop_eq_nil_of_le (by rw [iv_len] at h; omega : l.length ≤ i)]
    simp [iv]
theorem rep_intR (k n : Nat) : (List.replicate ((k : Nat) : Int).toNat [V.int (n : Nat)]).flatten = iv (List.replicate k n) := by
  rw [Int.toNat_natCast]
  induction k with
  | zero => rfl
  | succ k ih =>
    rw [List.replicate_succ, List.flatten_cons, ih, List.replicate_succ]
    rfl
/-- drawn from a since H; at fp stands o -/
structure DR (a : Addr) (H : Hp) (fp : Addr) (o : HO) (Hc : Hp) : Prop where
  d : Drawn a H Hc
  f : Hc fp = some o
  n : fp ≠ a
  h : H fp = none
theorem Src.neR {H : Hp} {a q : Addr} (s : Src H a) (n : H q = none) : q ≠ a := fun e => by
  obtain ⟨x, y, z, h⟩ := s
  rw [e, h] at n
  cases n
theorem Src.newR {H : Hp} {a q : Addr} {o : HO} (s : Src H a) (n : H q = none) : Src (upd H q o) a := ((Drawn.refl s).same (same_new n)).src
theorem DR.free {a fp q : Addr} {H Hc : Hp} {o : HO} (s : DR a H fp o Hc) (n : Hc q = none) : H q = none ∧ q ≠ a ∧ q ≠ fp := by
  have h1 := s.d.src.neR n
  refine ⟨?_, h1, fun e => by rw [e, s.f] at n; cases n⟩
  cases hh : H q with
  | none => rfl
  | some o => rw [s.d.old q o h1 hh] at n; cases n
theorem DR.same {a fp : Addr} {H Hc H' : Hp} {o : HO} (s : DR a H fp o Hc) (k : Same Hc H') : DR a H fp o H' := ⟨s.d.same k, k _ _ s.f, s.n, s.h⟩
theorem DR.draw {a fp : Addr} {H Hc H' : Hp} {o : HO} (s : DR a H fp o Hc) (dr : Drawn a Hc H') : DR a H fp o H' := ⟨s.d.trans dr, dr.old _ _ s.n s.f, s.n, s.h⟩
theorem DR.other {a fp q : Addr} {H Hc : Hp} {o x : HO} (s : DR a H fp o Hc) (hq : H q = none) (hqa : q ≠ a) (hqf : q ≠ fp) : DR a H fp o (upd Hc q x) :=
  ⟨drawn_set s.d hq hqa.symm, by rw [upd_ne hqf.symm]; exact s.f, s.n, s.h⟩
theorem DR.set {a fp : Addr} {H Hc : Hp} {o x : HO} (s : DR a H fp o Hc) : DR a H fp x (upd Hc fp x) := ⟨drawn_set s.d s.h s.n.symm, upd_same, s.n, s.h⟩
theorem DR.new {a fp q : Addr} {H Hc : Hp} {o x : HO} (s : DR a H fp o Hc) (n : Hc q = none) : DR a H q x (upd Hc q x) := ⟨(s.d.same (same_new n)), upd_same, (s.free n).2.1, (s.free n).1⟩
def IsOc (v : V) : Prop := ∃ n : Nat, v = .int (n : Nat) ∧ n < 256
theorem pickNR {r : Nat} {ms : List Nat} (h : r < ms.length) : atI (ms.map fun m => V.int (m : Nat)) (r : Int) = some (.int (ms[r]'h : Nat)) :=
  atI_nat (by rw [List.getElem?_map, List.getElem?_eq_getElem h]; rfl)
theorem pickPR {p : V → Prop} {xs : List V} {r : Nat} (h : r < xs.length) (hp : ∀ v ∈ xs, p v) : ∃ v, atI xs (r : Int) = some v ∧ p v :=
  ⟨xs[r]'h, atI_nat (List.getElem?_eq_getElem h), hp _ (List.getElem_mem h)⟩
structure OcR (l : List Nat) : Prop where
  lt : ∀ n ∈ l, n < 256
  len : l.length ≤ 200
def longs (i : Nat) : List Nat := (List.range i).map fun k => 97 + k % 26
section
variable {P : Program} {w : World} {K : PySem.W.Frag} {mg : Str → Option Value} {base : Heap}
def spLawRow : Sp := fun vs H Q _ => ∃ (a : Addr) (m : Nat), vs = [.ref a, .int (m : Nat)] ∧ 1 ≤ m ∧ m ≤ 250 ∧ Src H a ∧ ∀ H' p (l : List Nat), Drawn a H H' → H p = none → H' p = some (.lst (iv l)) → OcR l → Q (.ref p) H'
theorem scLawRow : FnScope ["_law_source_here", "_law_most", "_law_way", "_law_found", "_law_k", "_law_some", "_law_near", "_law_long", "_law_at"] ["_law_source_here", "_law_most"] (defScope sLawRow) := ⟨rfl, rfl, rfl, by decide +kernel, rfl, by decide +kernel, by decide +kernel⟩
theorem r_law_row (A : FnAt K mg "_law_row" sLawRow) (RN : Ready P w K mg base 2 "_law_next" ["_law_source_here", "_law_many"] spNextM) (m_len : mg "len" = none) (m_range : mg "range" = none) : Ready P w K mg base 3 "_law_row" ["_law_source_here", "_law_most"] spLawRow := by
  obtain ⟨f1, fd1, g1, k1, b1, G1⟩ := RN
  refine ready_of A (fun _ _ _ _ _ _ us hl => match us, hl with | [_, _], _ => rfl) fun f fd F => ?_
  refine F.ok scLawRow (fun vs H Q E h => ?_) (fun cdv A outer s H vs Q E hr h => ?_)
  · obtain ⟨a, m, rfl, _⟩ := h
    rfl
  · obtain ⟨a, most, rfl, hm1, hm2, hS, q⟩ := h
    have sc := scLawRow
    refine ⟨_, pss_cons (ps_set (i := 2) sc.nd rfl (.inl rfl) (pe_call G1 (hr.mono (by decide)) (by rfl) g1 k1 b1 .nil pass0 (pa_cons (pv 0) (pa_cons pe_int pa_nil))))
      (pss_cons (ps_set (i := 3) sc.nd rfl (.inl rfl) (pe_lst pa_nil))
      (pss_cons (ps_for PassesOwn.never rfl (pi_range1 (by rfl) m_range (pa_cons (pe_call G1 (hr.mono (by decide)) (by rfl) g1 k1 b1 .nil pass0 (pa_cons (pv 0) (pa_cons (pe_ix ix_list (pe_lst (pa_cons pe_int (pa_cons pe_int (pa_cons pe_int (pa_cons (pv 1) pa_nil))))) (pe_call G1 (hr.mono (by decide)) (by rfl) g1 k1 b1 .nil pass0 (pa_cons (pv 0) (pa_cons pe_int pa_nil))) (fun _ _ => rfl)) pa_nil))) pa_nil)) (pg_name (i := 4) sc.nd rfl (.inl rfl))
        (pss_cons (ps_set (i := 5) sc.nd rfl (.inl rfl) (pe_ix ix_list (pe_lst (pa_cons (pe_op op_add pe_int (pe_call G1 (hr.mono (by decide)) (by rfl) g1 k1 b1 .nil pass0 (pa_cons (pv 0) (pa_cons pe_int pa_nil)))) (pa_cons pe_int (pa_cons pe_int (pa_cons (pe_op op_add pe_int (pe_op op_mod (pv 4) pe_int)) pa_nil))))) (pe_call G1 (hr.mono (by decide)) (by rfl) g1 k1 b1 .nil pass0 (pa_cons (pv 0) (pa_cons pe_int pa_nil))) (fun _ _ => rfl)))
          (pss_cons (ps_set (i := 6) sc.nd rfl (.inl rfl) (pe_ix ix_list (pe_lst (pa_cons pe_int (pa_cons pe_int (pa_cons pe_int (pa_cons pe_int (pa_cons pe_int (pa_cons pe_int (pa_cons pe_int (pa_cons pe_int (pa_cons pe_int (pa_cons pe_int (pa_cons pe_int (pa_cons pe_int pa_nil))))))))))))) (pe_call G1 (hr.mono (by decide)) (by rfl) g1 k1 b1 .nil pass0 (pa_cons (pv 0) (pa_cons pe_int pa_nil))) (fun _ _ => rfl)))
          (pss_one (ps_expr (pe_bm PySem.F.plainAttrs_list PySem.F.slot_list_append PySem.F.type_list_append mt_append (pv 3) (pa_cons (pe_ix ix_list (pe_lst (pa_cons (pe_call G1 (hr.mono (by decide)) (by rfl) g1 k1 b1 .nil pass0 (pa_cons (pv 0) (pa_cons pe_int pa_nil))) (pa_cons (pv 5) (pa_cons (pv 6) (pa_cons (pe_ix ix_list (pe_lst (pa_cons pe_int (pa_cons pe_int (pa_cons pe_int (pa_cons (pv 6) pa_nil))))) (pe_call G1 (hr.mono (by decide)) (by rfl) g1 k1 b1 .nil pass0 (pa_cons (pv 0) (pa_cons pe_int pa_nil))) (fun _ _ => rfl)) (pa_cons (pe_op op_add pe_int (pe_op op_mod (pv 5) pe_int)) pa_nil)))))) (pv 2) (fun _ _ => rfl)) pa_nil)))))))
      (pss_cons (ps_if (PW.pt (pw_and (pt_cmpR op_gt (pv 2) pe_int (nomark _)) (pw_and1 (pt_cmpR op_eq (pe_call G1 (hr.mono (by decide)) (by rfl) g1 k1 b1 .nil pass0 (pa_cons (pv 0) (pa_cons pe_int pa_nil))) pe_int (nomark _)))))
        (pss_cons (ps_setLc (i := 7) (own := [("_law_k", 4)]) (g := gName 4) (tt := tYes) (by rfl) sc.nd rfl rfl (sw_true rfl rfl rfl (by decide +kernel)) (pi_range1 (by rfl) m_range (pa_cons (pe_op op_add pe_int (pe_call G1 (hr.mono (by decide)) (by rfl) g1 k1 b1 .nil pass0 (pa_cons (pv 0) (pa_cons pe_int pa_nil)))) pa_nil)) (blkOk_by (own := [("_law_k", 4)]) (N := ["_law_source_here", "_law_most", "_law_way", "_law_found", "_law_k", "_law_some", "_law_near", "_law_long", "_law_at"]) (sc := defScope sLawRow) (by decide +kernel)) (fun _ _ _ _ _ => (pg_name (i := 4) sc.nd rfl (.inl rfl))) (fun _ _ _ _ _ => pts_nil) (fun _ _ _ _ _ => (pe_op op_add pe_int (pe_op op_mod (pv 4) pe_int))))
          (pss_cons (ps_set (i := 8) sc.nd rfl (.inl rfl) (pe_call G1 (hr.mono (by decide)) (by rfl) g1 k1 b1 .nil pass0 (pa_cons (pv 0) (pa_cons (pe_op op_add (pe_callB call_len_seq (by rfl) m_len PySem.boot_len (pa_cons (pv 3) pa_nil)) pe_int) pa_nil))))
          (pss_one (ps_set (i := 3) sc.nd rfl (.inl rfl) (pe_op op_cat (pe_op op_cat (pe_op op_cat (pe_slice sl_list (pv 3) po_none (po_some (pv 8))) (pv 7)) (pe_ix ix_list (pe_lst (pa_cons (pe_lst (pa_cons pe_int pa_nil)) (pa_cons (pe_lst (pa_cons pe_int pa_nil)) (pa_cons (pe_lst (pa_cons pe_int pa_nil)) (pa_cons (pe_lst (pa_cons pe_int (pa_cons pe_int pa_nil))) (pa_cons (pe_lst (pa_cons pe_int pa_nil)) (pa_cons (pe_lst pa_nil) pa_nil))))))) (pe_call G1 (hr.mono (by decide)) (by rfl) g1 k1 b1 .nil pass0 (pa_cons (pv 0) (pa_cons pe_int pa_nil))) (fun _ _ => rfl))) (pe_slice sl_list (pv 3) (po_some (pv 8)) po_none))))))
        pss_nil)
      (pss_one (ps_ret (pe_slice sl_list (pe_op op_cat (pv 3) (pe_op op_rep (pe_lst (pa_cons pe_int pa_nil)) (pe_call G1 (hr.mono (by decide)) (by rfl) g1 k1 b1 .nil pass0 (pa_cons (pv 0) (pa_cons pe_int pa_nil))))) po_none (po_some pe_int))))))), ?_⟩
    refine ⟨_, rfl, a, 5, rfl, by decide, by decide, hS, fun way H1 hway d1 => ?_⟩
    refine ⟨(by show 0 ≤ sizeLine; decide), fun fp nfp => ?_⟩
    have hfa := d1.src.neR nfp
    have nf0 : H fp = none := by
      cases hh : H fp with
      | none => rfl
      | some o => rw [d1.old fp o hfa hh] at nfp; cases nfp
    have s1 : DR a H fp (.lst (iv [])) (upd H1 fp (.lst [])) := ⟨d1.same (same_new nfp), upd_same, hfa, nf0⟩
    generalize upd H1 fp (.lst []) = H2 at s1 ⊢
    refine ⟨_, rfl, _, rfl, (by show 4 ≤ sizeLine; decide), fun q0 nq0 => ?_⟩
    have s2 := s1.same (same_new (o := .lst [.int 4, .int 12, .int 60, .int (most : Nat)]) nq0)
    have hq0 : (upd H2 q0 (.lst [.int 4, .int 12, .int 60, .int (most : Nat)])) q0 = some (.lst [.int 4, .int 12, .int 60, .int (most : Nat)]) := upd_same
    have hq0a := (s1.free nq0).2.1
    generalize upd H2 q0 (.lst [.int 4, .int 12, .int 60, .int (most : Nat)]) = H3 at s2 hq0 ⊢
    refine ⟨_, rfl, a, 4, rfl, by decide, by decide, s2.d.src, fun r0 H4 hr0 d4 => ?_⟩
    have s4 := s2.draw d4
    have hr0' : r0 < [4, 12, 60, most].length := hr0
    refine ⟨q0, _, _, .int (([4, 12, 60, most][r0]'hr0' : Nat) : Int), rfl, rfl, SqL.of (d4.old q0 _ hq0a hq0), pickNR (ms := [4, 12, 60, most]) hr0', ?_⟩
    have hm : 1 ≤ ([4, 12, 60, most][r0]'hr0' : Nat) ∧ ([4, 12, 60, most][r0]'hr0' : Nat) ≤ 250 := by
      have hmem := List.getElem_mem hr0'
      generalize ([4, 12, 60, most][r0]'hr0' : Nat) = M at hmem
      simp only [List.mem_cons, List.not_mem_nil, or_false] at hmem
      omega
    generalize ([4, 12, 60, most][r0]'hr0' : Nat) = M at hm
    refine ⟨a, M, rfl, hm.1, by omega, s4.d.src, fun N H5 hN d5 => ?_⟩
    have s5 := s4.draw d5
    refine ⟨(N : Int), rfl, by omega, by omega, ?_⟩
    refine for_it walk_range (fun i σ H' => ∃ (l : List Nat) (y4 y5 y6 : Option V), σ = [some (.ref a), some (.int (most : Nat)), some (.int (way : Nat)), some (.ref fp), y4, y5, y6, none, none] ∧ DR a H fp (.lst (iv l)) H' ∧ l.length = i ∧ ∀ n ∈ l, n < 256)
      ⟨[], none, none, none, rfl, s5, rfl, fun n hn => by cases hn⟩ (fun _ _ _ _ _ => trivial) (fun i x σ H6 H7 hi hp hy => ?_) (fun σ H6 hp => ?_)
    · obtain ⟨l, y4, y5, y6, rfl, t1, hl, hg⟩ := hp
      obtain ⟨rfl, hxv⟩ := hy
      have hx' : x = .int (i : Nat) := by
        rw [hxv]
        exact congrArg V.int (Int.zero_add _)
      subst hx'
      -- some
      refine ⟨_, rfl, a, 26, rfl, by decide, by decide, t1.d.src, fun r2 H8 hr2 d8 => ⟨_, _, rfl, rfl, ?_⟩⟩
      have t2 := t1.draw d8
      refine ⟨_, rfl, _, _, rfl, rfl, (by show (0 : Int) < 10; decide), _, _, rfl, rfl, (by show 4 ≤ sizeLine; decide), fun q1 n1 => ?_⟩
      have t3 := t2.same (same_new (o := .lst [.int (97 + (r2 : Nat)), .int 32, .int 10, .int (48 + ((i : Nat) : Int) % 10)]) n1)
      have hq1 : (upd H8 q1 (.lst [.int (97 + (r2 : Nat)), .int 32, .int 10, .int (48 + ((i : Nat) : Int) % 10)])) q1 = some (.lst [.int (97 + (r2 : Nat)), .int 32, .int 10, .int (48 + ((i : Nat) : Int) % 10)]) := upd_same
      refine ⟨_, rfl, a, 4, rfl, by decide, by decide, t3.d.src, fun r3 H9 hr3 d9 => ?_⟩
      have t4 := t3.draw d9
      obtain ⟨v1, hv1, sg1⟩ := pickPR (p := IsOc) (xs := [.int (97 + (r2 : Nat)), .int 32, .int 10, .int (48 + ((i : Nat) : Int) % 10)]) (r := r3) hr3 (fun v hv => by
        simp only [List.mem_cons, List.not_mem_nil, or_false] at hv
        rcases hv with rfl | rfl | rfl | rfl
        · exact ⟨97 + r2, rfl, by omega⟩
        · exact ⟨32, rfl, by omega⟩
        · exact ⟨10, rfl, by omega⟩
        · exact ⟨48 + i % 10, rfl, by omega⟩)
      refine ⟨q1, _, _, v1, rfl, rfl, SqL.of (d9.old q1 _ (t2.free n1).2.1 hq1), hv1, ?_⟩
      obtain ⟨m1, rfl, hm1'⟩ := sg1
      -- near
      refine ⟨(by show 12 ≤ sizeLine; decide), fun q2 n2 => ?_⟩
      have t5 := t4.same (same_new (o := .lst (iv [32, 10, 61, 37, 9, 13, 33, 126, 127, 95, 32, 10])) n2)
      refine ⟨_, rfl, a, 12, rfl, by decide, by decide, t5.d.src, fun r4 H10 hr4 d10 => ?_⟩
      have t6 := t5.draw d10
      obtain ⟨v2, hv2, sg2⟩ := pickPR (p := IsOc) (xs := iv [32, 10, 61, 37, 9, 13, 33, 126, 127, 95, 32, 10]) (r := r4) hr4 (fun v hv => by
        obtain ⟨n, hn, rfl⟩ := List.mem_map.mp hv
        exact ⟨n, rfl, (by decide : ∀ m ∈ [32, 10, 61, 37, 9, 13, 33, 126, 127, 95, 32, 10], m < 256) n hn⟩)
      refine ⟨q2, _, _, v2, rfl, rfl, SqL.of (d10.old q2 _ (t4.free n2).2.1 upd_same), hv2, ?_⟩
      obtain ⟨m2, rfl, hm2'⟩ := sg2
      -- append
      refine ⟨_, rfl, .inl ⟨rfl, _, SqL.of t6.f⟩, _, rfl, a, 256, rfl, by decide, by decide, t6.d.src, fun r5 H11 hr5 d11 => ?_⟩
      have t7 := t6.draw d11
      refine ⟨_, rfl, _, rfl, _, rfl, (by show 4 ≤ sizeLine; decide), fun q3 n3 => ?_⟩
      have t8 := t7.same (same_new (o := .lst [.int 65, .int 65, .int 65, .int (m2 : Nat)]) n3)
      have hq3 : (upd H11 q3 (.lst [.int 65, .int 65, .int 65, .int (m2 : Nat)])) q3 = some (.lst [.int 65, .int 65, .int 65, .int (m2 : Nat)]) := upd_same
      refine ⟨_, rfl, a, 4, rfl, by decide, by decide, t8.d.src, fun r6 H12 hr6 d12 => ?_⟩
      have t9 := t8.draw d12
      obtain ⟨v3, hv3, sg3⟩ := pickPR (p := IsOc) (xs := [.int 65, .int 65, .int 65, .int (m2 : Nat)]) (r := r6) hr6 (fun v hv => by
        simp only [List.mem_cons, List.not_mem_nil, or_false] at hv
        rcases hv with rfl | rfl | rfl | rfl
        · exact ⟨65, rfl, by omega⟩
        · exact ⟨65, rfl, by omega⟩
        · exact ⟨65, rfl, by omega⟩
        · exact ⟨m2, rfl, hm2'⟩)
      refine ⟨q3, _, _, v3, rfl, rfl, SqL.of (d12.old q3 _ (t7.free n3).2.1 hq3), hv3, ?_⟩
      obtain ⟨m3, rfl, hm3'⟩ := sg3
      refine ⟨_, rfl, _, _, rfl, rfl, (by show (0 : Int) < 2; decide), _, _, rfl, rfl, (by show 5 ≤ sizeLine; decide), fun q4 n4 => ?_⟩
      have t10 := t9.same (same_new (o := .lst [.int (r5 : Nat), .int (m1 : Nat), .int (m2 : Nat), .int (m3 : Nat), .int (61 + ((m1 : Nat) : Int) % 2)]) n4)
      have hq4 : (upd H12 q4 (.lst [.int (r5 : Nat), .int (m1 : Nat), .int (m2 : Nat), .int (m3 : Nat), .int (61 + ((m1 : Nat) : Int) % 2)])) q4 = some (.lst [.int (r5 : Nat), .int (m1 : Nat), .int (m2 : Nat), .int (m3 : Nat), .int (61 + ((m1 : Nat) : Int) % 2)]) := upd_same
      obtain ⟨v4, hv4, sg4⟩ := pickPR (p := IsOc) (xs := [.int (r5 : Nat), .int (m1 : Nat), .int (m2 : Nat), .int (m3 : Nat), .int (61 + ((m1 : Nat) : Int) % 2)]) (r := way) hway (fun v hv => by
        simp only [List.mem_cons, List.not_mem_nil, or_false] at hv
        rcases hv with rfl | rfl | rfl | rfl | rfl
        · exact ⟨r5, rfl, hr5⟩
        · exact ⟨m1, rfl, hm1'⟩
        · exact ⟨m2, rfl, hm2'⟩
        · exact ⟨m3, rfl, hm3'⟩
        · exact ⟨61 + m1 % 2, rfl, by omega⟩)
      refine ⟨_, rfl, q4, _, _, v4, rfl, rfl, SqL.of hq4, hv4, ?_⟩
      obtain ⟨m4, rfl, hm4'⟩ := sg4
      refine ⟨fp, _, _, rfl, rfl, t10.f, by rw [iv_len]; exact szl (by omega), ?_⟩
      refine ⟨l ++ [m4], _, _, _, rfl, ?_, by rw [List.length_append, hl]; rfl, fun n hn => ?_⟩
      · show DR a H fp (.lst (iv (l ++ [m4]))) (upd _ fp (.lst (iv l ++ iv [m4])))
        rw [← iv_app]
        exact t10.set
      · rcases List.mem_append.mp hn with hn | hn
        · exact hg n hn
        · rw [List.mem_singleton.mp hn]
          exact hm4'
    · obtain ⟨l, y4, y5, y6, rfl, t1, hl, hg⟩ := hp
      have hl250 : l.length ≤ 250 := by rw [hl]; show ((N : Nat) : Int).toNat ≤ 250; omega
      refine ⟨_, rfl, _, _, rfl, rfl, _, rfl, ?_⟩
      refine and_key (fun σ' H' => ∃ (fp' : Addr) (l' : List Nat) (y4 y5 y6 y7 y8 : Option V), σ' = [some (.ref a), some (.int (most : Nat)), some (.int (way : Nat)), some (.ref fp'), y4, y5, y6, y7, y8] ∧ DR a H fp' (.lst (iv l')) H' ∧ (∀ n ∈ l', n < 256) ∧ l'.length ≤ 400) (fun σ' H' hJ => ?_) (fun key hc => ?_) (fun hc => ?_)
      · obtain ⟨fp', l', y4, y5, y6, y7, y8, rfl, t2, hg', hl'⟩ := hJ
        refine ⟨_, rfl, (by show 1 ≤ sizeLine; decide), fun q1 n1 => ?_⟩
        have t3 := t2.same (same_new (o := .lst [.int ((10 : Nat) : Int)]) n1)
        have hq1 : (upd H' q1 (.lst [.int ((10 : Nat) : Int)])) q1 = some (.lst [.int ((10 : Nat) : Int)]) := upd_same
        refine ⟨_, rfl, a, 2, rfl, by decide, by decide, t3.d.src, fun r H8 hr8 d8 => ?_⟩
        have t4 := t3.draw d8
        have hq1' := d8.old q1 _ (t2.free n1).2.1 hq1
        refine ⟨q1, ((r : Nat) : Int), _, rfl, rfl, hq1', by omega, by omega, (by show 1 * ((r : Nat) : Int).toNat ≤ sizeLine; rw [sizeLine_eq]; omega), fun q2 n2 => ?_⟩
        rw [rep_intR]
        have t5 := t4.same (same_new (o := .lst (iv (List.replicate r 10))) n2)
        refine ⟨fp', q2, _, _, rfl, rfl, t5.f, upd_same, by rw [iv_len, iv_len, List.length_replicate, sizeLine_eq]; omega, fun q3 n3 => ?_⟩
        rw [← iv_app]
        have t6 := t5.same (same_new (o := .lst (iv (l' ++ List.replicate r 10))) n3)
        have hq3 : (upd (upd H8 q2 (.lst (iv (List.replicate r 10)))) q3 (.lst (iv (l' ++ List.replicate r 10)))) q3 = some (.lst (iv (l' ++ List.replicate r 10))) := upd_same
        refine ⟨_, rfl, q3, _, rfl, SqL.of hq3, fun q4 n4 => ?_⟩
        rw [show (200 : Int) = ((200 : Nat) : Int) from rfl, cut_takeR]
        have t7 := t6.new (x := .lst (iv ((l' ++ List.replicate r 10).take 200))) n4
        refine q _ q4 _ t7.d t7.h t7.f ⟨fun n hn => ?_, List.length_take_le _ _⟩
        rcases List.mem_append.mp (List.mem_of_mem_take hn) with hn | hn
        · exact hg' n hn
        · rw [(List.mem_replicate.mp hn).2]
          omega
      · refine ⟨_, rfl, a, 3, rfl, by decide, by decide, t1.d.src, fun r H8 hr8 d8 => ⟨rfl, _, rfl, ?_⟩⟩
        have t2 := t1.draw d8
        refine ite_key (fun σ' H' => ∃ (fp' : Addr) (l' : List Nat) (y4 y5 y6 y7 y8 : Option V), σ' = [some (.ref a), some (.int (most : Nat)), some (.int (way : Nat)), some (.ref fp'), y4, y5, y6, y7, y8] ∧ DR a H fp' (.lst (iv l')) H' ∧ (∀ n ∈ l', n < 256) ∧ l'.length ≤ 400) key (fun key hc2 => ?_) (fun hc2 => ⟨fp, l, _, _, _, _, _, rfl, t2, hg, by omega⟩)
        refine ⟨_, rfl, a, 12, rfl, by decide, by decide, t2.d.src, fun r2 H9 hr9 d9 => ⟨_, _, rfl, rfl, ?_⟩⟩
        have t3 := t2.draw d9
        refine ⟨(66 : Int) + ((r2 : Nat) : Int), rfl, by omega, by omega, fun D hD => ?_⟩
        obtain ⟨hD0, hDa, hDf⟩ := t3.free hD
        have hN : ((66 : Int) + ((r2 : Nat) : Int)).toNat = 66 + r2 := by omega
        refine lc_it walk_range (fun i H' => DR a H fp (.lst (iv l)) H' ∧ H' D = some (.lst (iv (longs i)))) ⟨t3.same (same_new hD), upd_same⟩ (fun _ _ _ _ => trivial) (fun i x H10 H11 hi hp hy => ?_) (fun H10 hp => ?_)
        · obtain ⟨rfl, hxv⟩ := hy
          obtain ⟨t4, hd⟩ := hp
          have hx' : x = .int (i : Nat) := by
            rw [hxv]
            exact congrArg V.int (Int.zero_add _)
          subst hx'
          refine ⟨rfl, ?_⟩
          unfold tYes
          refine iteT ⟨_, rfl, _, _, rfl, rfl, (by show (0 : Int) < 26; decide), _, _, rfl, rfl, _, hd, ?_, t4.other hD0 hDa hDf, ?_⟩
          · rw [iv_len]
            unfold longs
            rw [List.length_map, List.length_range]
            exact szl (by omega)
          · rw [upd_same]
            unfold longs
            rw [List.range_succ, List.map_append, iv_app]
            rfl
        · obtain ⟨t4, hd⟩ := hp
          rw [hN] at hd
          have hll : (longs (66 + r2)).length = 66 + r2 := by
            unfold longs
            rw [List.length_map, List.length_range]
          have hlg : ∀ n ∈ longs (66 + r2), n < 256 := fun n hn => by
            obtain ⟨k, _, rfl⟩ := List.mem_map.mp hn
            omega
          generalize longs (66 + r2) = lg at hd hll hlg
          -- at
          refine ⟨_, rfl, _, rfl, fp, _, rfl, .inl (SqL.of t4.f), _, _, rfl, rfl, ?_⟩
          rw [iv_len]
          refine ⟨a, l.length + 1, rfl, by omega, by omega, t4.d.src, fun at_ H11 hat d11 => ?_⟩
          have t5 := t4.draw d11
          have hd1 := d11.old D _ hDa hd
          refine ⟨_, rfl, _, rfl, _, rfl, fp, _, rfl, SqL.of t5.f, fun q1 n1 => ?_⟩
          rw [cut_takeR]
          have t6 := t5.same (same_new (o := .lst (iv (l.take at_))) n1)
          have hq1 : (upd H11 q1 (.lst (iv (l.take at_)))) q1 = some (.lst (iv (l.take at_))) := upd_same
          have hd2 := kn (x := .lst (iv (l.take at_))) hd1 n1
          generalize upd H11 q1 (.lst (iv (l.take at_))) = H12 at t6 hq1 hd2 ⊢
          have htl := List.length_take_le' at_ l
          refine ⟨_, rfl, q1, D, _, _, rfl, rfl, hq1, hd2, by rw [iv_len, iv_len, sizeLine_eq]; omega, fun q2 n2 => ?_⟩
          rw [← iv_app]
          have t7 := t6.same (same_new (o := .lst (iv (l.take at_ ++ lg))) n2)
          have hq2 : (upd H12 q2 (.lst (iv (l.take at_ ++ lg)))) q2 = some (.lst (iv (l.take at_ ++ lg))) := upd_same
          have hq2a := (t6.free n2).2.1
          generalize upd H12 q2 (.lst (iv (l.take at_ ++ lg))) = H13 at t7 hq2 ⊢
          refine ⟨(by show 1 ≤ sizeLine; decide), fun a1 z1 => ⟨(by show 1 ≤ sizeLine; decide), fun a2 z2 => ⟨(by show 1 ≤ sizeLine; decide), fun a3 z3 => ⟨(by show 2 ≤ sizeLine; decide), fun a4 z4 => ⟨(by show 1 ≤ sizeLine; decide), fun a5 z5 => ⟨(by show 0 ≤ sizeLine; decide), fun a6 z6 => ⟨(by show 6 ≤ sizeLine; decide), fun a7 z7 => ?_⟩⟩⟩⟩⟩⟩⟩
          have w1 := (t7.free z1).2.1
          have u1 := t7.same (same_new (o := .lst [.int 10]) z1)
          have w2 := (u1.free z2).2.1
          have u2 := u1.same (same_new (o := .lst [.int 32]) z2)
          have w3 := (u2.free z3).2.1
          have u3 := u2.same (same_new (o := .lst [.int 61]) z3)
          have w4 := (u3.free z4).2.1
          have u4 := u3.same (same_new (o := .lst [.int 32, .int 10]) z4)
          have w5 := (u4.free z5).2.1
          have u5 := u4.same (same_new (o := .lst [.int 200]) z5)
          have w6 := (u5.free z6).2.1
          have u6 := u5.same (same_new (o := .lst []) z6)
          have w7 := (u6.free z7).2.1
          have u7 := u6.same (same_new (o := .lst [.ref a1, .ref a2, .ref a3, .ref a4, .ref a5, .ref a6]) z7)
          have k7 := same_new (o := .lst [.ref a1, .ref a2, .ref a3, .ref a4, .ref a5, .ref a6]) z7
          have k6 := (same_new (o := .lst []) z6).trans k7
          have k5 := (same_new (o := .lst [.int 200]) z5).trans k6
          have k4 := (same_new (o := .lst [.int 32, .int 10]) z4).trans k5
          have k3 := (same_new (o := .lst [.int 61]) z3).trans k4
          have k2 := (same_new (o := .lst [.int 32]) z2).trans k3
          have k1 := (same_new (o := .lst [.int 10]) z1).trans k2
          have six : ∀ v ∈ [V.ref a1, .ref a2, .ref a3, .ref a4, .ref a5, .ref a6], ∃ (b : Addr) (m : List Nat), v = .ref b ∧ b ≠ a ∧ (upd (upd (upd (upd (upd (upd (upd H13 a1 (.lst [.int 10])) a2 (.lst [.int 32])) a3 (.lst [.int 61])) a4 (.lst [.int 32, .int 10])) a5 (.lst [.int 200])) a6 (.lst [])) a7 (.lst [.ref a1, .ref a2, .ref a3, .ref a4, .ref a5, .ref a6])) b = some (.lst (iv m)) ∧ (∀ n ∈ m, n < 256) ∧ m.length ≤ 2 := fun v hv => by
            simp only [List.mem_cons, List.not_mem_nil, or_false] at hv
            rcases hv with rfl | rfl | rfl | rfl | rfl | rfl
            · exact ⟨a1, [10], rfl, w1, k2 _ _ upd_same, by decide, by decide⟩
            · exact ⟨a2, [32], rfl, w2, k3 _ _ upd_same, by decide, by decide⟩
            · exact ⟨a3, [61], rfl, w3, k4 _ _ upd_same, by decide, by decide⟩
            · exact ⟨a4, [32, 10], rfl, w4, k5 _ _ upd_same, by decide, by decide⟩
            · exact ⟨a5, [200], rfl, w5, k6 _ _ upd_same, by decide, by decide⟩
            · exact ⟨a6, [], rfl, w6, k7 _ _ upd_same, by decide, by decide⟩
          have hq7 : (upd (upd (upd (upd (upd (upd (upd H13 a1 (.lst [.int 10])) a2 (.lst [.int 32])) a3 (.lst [.int 61])) a4 (.lst [.int 32, .int 10])) a5 (.lst [.int 200])) a6 (.lst [])) a7 (.lst [.ref a1, .ref a2, .ref a3, .ref a4, .ref a5, .ref a6])) a7 = some (.lst [.ref a1, .ref a2, .ref a3, .ref a4, .ref a5, .ref a6]) := upd_same
          have hq27 := k1 _ _ hq2
          generalize upd (upd (upd (upd (upd (upd (upd H13 a1 (.lst [.int 10])) a2 (.lst [.int 32])) a3 (.lst [.int 61])) a4 (.lst [.int 32, .int 10])) a5 (.lst [.int 200])) a6 (.lst [])) a7 (.lst [.ref a1, .ref a2, .ref a3, .ref a4, .ref a5, .ref a6]) = H14 at u7 six hq7 hq27
          refine ⟨_, rfl, a, 6, rfl, by decide, by decide, u7.d.src, fun r3 H15 hr3 d15 => ?_⟩
          have t8 := u7.draw d15
          have hr3' : r3 < [V.ref a1, .ref a2, .ref a3, .ref a4, .ref a5, .ref a6].length := hr3
          obtain ⟨b0, m0, eb, hba, hb14, hm0, hml⟩ := six _ (List.getElem_mem hr3')
          refine ⟨a7, _, _, _, rfl, rfl, SqL.of (d15.old a7 _ w7 hq7), atI_nat (List.getElem?_eq_getElem hr3'), ?_⟩
          rw [eb]
          have hb15 := d15.old b0 _ hba hb14
          have hq215 := d15.old q2 _ hq2a hq27
          refine ⟨q2, b0, _, _, rfl, rfl, hq215, hb15, by rw [iv_len, iv_len, List.length_append, sizeLine_eq]; omega, fun q5 n5 => ?_⟩
          rw [← iv_app]
          have t9 := t8.same (same_new (o := .lst (iv (l.take at_ ++ lg ++ m0))) n5)
          have hq5 : (upd H15 q5 (.lst (iv (l.take at_ ++ lg ++ m0)))) q5 = some (.lst (iv (l.take at_ ++ lg ++ m0))) := upd_same
          generalize upd H15 q5 (.lst (iv (l.take at_ ++ lg ++ m0))) = H16 at t9 hq5 ⊢
          refine ⟨_, rfl, _, rfl, _, rfl, fp, _, rfl, SqL.of t9.f, fun q6 n6 => ?_⟩
          rw [cut_dropR]
          have t10 := t9.same (same_new (o := .lst (iv (l.drop at_))) n6)
          have hq5' := kn (x := .lst (iv (l.drop at_))) hq5 n6
          refine ⟨q5, q6, _, _, rfl, rfl, hq5', upd_same, by rw [iv_len, iv_len, List.length_append, List.length_append, List.length_drop, sizeLine_eq]; omega, fun q7 n7 => ?_⟩
          rw [← iv_app]
          have t11 := t10.new (x := .lst (iv (l.take at_ ++ lg ++ m0 ++ l.drop at_))) n7
          refine key _ _ ⟨q7, _, _, _, _, _, _, rfl, t11, fun n hn => ?_, ?_⟩
          · simp only [List.mem_append] at hn
            rcases hn with ((hn | hn) | hn) | hn
            · exact hg n (List.mem_of_mem_take hn)
            · exact hlg n hn
            · exact hm0 n hn
            · exact hg n (List.mem_of_mem_drop hn)
          · rw [List.length_append, List.length_append, List.length_append, List.length_drop]
            have : (l.take at_).length = min at_ l.length := List.length_take ..
            omega
      · exact ⟨fp, l, _, _, _, _, _, rfl, t1, hg, by omega⟩
end
end FL


namespace FL
open PySem PySem.Spec PyProof.Rows L2
theorem cut_back (l : List Nat) (k : Nat) (h : 1 ≤ k) : cutV (iv l) none (some (-(k : Int))) = iv (l.take (l.length - k)) := by
  unfold cutV
  have e : HT.sIx (iv l).length (iv l).length (some (-(k : Int))) = l.length - k := by
    show (if -(k : Int) < 0 then (-(k : Int) + ((iv l).length : Int)).toNat else _) = _
    rw [if_pos (by omega), iv_len]
    omega
  rw [e, HT.sIx_none, List.drop_zero, Nat.sub_zero]
  unfold iv
  rw [← List.map_take]
/-! ### sixes' lines are texts -/
theorem six_sig : ∀ n, n < 64 → isSig (six n) = true := by decide +kernel
theorem four_sig {l : List Nat} (hb : ∀ x ∈ l, x < 256) : ∀ c ∈ FL.four l, isSig c = true := by
  match l, hb with
  | [], _ => simp [FL.four]
  | [a], hb =>
    have := hb a (by simp)
    intro c hc
    simp [FL.four] at hc
    rcases hc with rfl | rfl | rfl
    · exact six_sig _ (by omega)
    · exact six_sig _ (by omega)
    · decide
  | [a, b], hb =>
    have := hb a (by simp)
    have := hb b (by simp)
    intro c hc
    simp [FL.four] at hc
    rcases hc with rfl | rfl | rfl | rfl
    · exact six_sig _ (by omega)
    · exact six_sig _ (by omega)
    · exact six_sig _ (by omega)
    · decide
  | [a, b, d], hb =>
    have := hb a (by simp)
    have := hb b (by simp)
    have := hb d (by simp)
    intro c hc
    simp [FL.four] at hc
    rcases hc with rfl | rfl | rfl | rfl
    · exact six_sig _ (by omega)
    · exact six_sig _ (by omega)
    · exact six_sig _ (by omega)
    · exact six_sig _ (by omega)
  | a :: b :: d :: e :: r, _ => simp [FL.four]
theorem sixC_sig : ∀ (n : Nat) (l : List Nat), l.length ≤ n → (∀ x ∈ l, x < 256) → ∀ c ∈ sixC l, isSig c = true
  | n, [], _, _ => by simp [sixC]
  | 0, a :: r, h, _ => by simp at h
  | n + 1, a :: r, h, hb => by
    rw [sixC_step (by simp)]
    intro c hc
    rcases List.mem_append.mp hc with hc | hc
    · exact four_sig (fun x hx => hb x (List.mem_of_mem_take hx)) c hc
    · exact sixC_sig n _ (by rw [List.length_drop]; simp at h ⊢; omega) (fun x hx => hb x (List.mem_of_mem_drop hx)) c hc
theorem lines6_sig {l : List Nat} (hb : ∀ x ∈ l, x < 256) : allSig (lines6 l) = true := by
  refine List.all_eq_true.mpr fun c hc => ?_
  unfold lines6 linesX at hc
  obtain ⟨p, hp, hc⟩ := List.mem_flatten.mp hc
  obtain ⟨i, _, rfl⟩ := List.mem_map.mp hp
  unfold lineAt at hc
  rcases List.mem_append.mp hc with hc | hc
  · exact sixC_sig _ l (Nat.le_refl _) hb c (List.mem_of_mem_drop (List.mem_of_mem_take hc))
  · rw [List.mem_singleton.mp hc]
    decide
theorem flat_len {ps : List (List Nat)} {n : Nat} (h : ∀ p ∈ ps, p.length ≤ n) : ps.flatten.length ≤ ps.length * n := by
  induction ps with
  | nil => simp
  | cons p r ih =>
    have h1 := h p (by simp)
    have h2 := ih fun x hx => h x (List.mem_cons_of_mem _ hx)
    rw [List.flatten_cons, List.length_append, List.length_cons, Nat.add_mul]
    omega
theorem lines6_len (l : List Nat) : (lines6 l).length ≤ 4 * l.length + 150 := by
  have h1 := sixC_lenC l
  have h2 := flat_len (ps := (List.range (((sixC l).length + 71) / 72)).map (lineAt (sixC l))) (n := 73) fun p hp => by
    obtain ⟨i, _, rfl⟩ := List.mem_map.mp hp
    exact lineAt_len _ _
  rw [List.length_map, List.length_range] at h2
  unfold lines6 linesX
  omega
theorem linesX_last : ∀ (n : Nat) (s : List Nat), s.length ≤ n → s ≠ [] → (linesX s).getLast? = some 10
  | 0, s, h, h0 => absurd (List.eq_nil_of_length_eq_zero (by omega)) h0
  | n + 1, s, h, h0 => by
    have hl : 1 ≤ s.length := by
      cases s with
      | nil => exact absurd rfl h0
      | cons a r => simp
    rw [linesX_step h0]
    by_cases hd : s.drop 72 = []
    · rw [hd, linesX_nil, List.append_nil, List.getLast?_append]
      rfl
    · rw [List.getLast?_append, linesX_last n _ (by rw [List.length_drop]; omega) hd]
      rfl
theorem readBy6 {l : List Nat} (hb : ∀ x ∈ l, x < 256) : readBy read6 (lines6 l) = .ok l := by
  unfold readBy
  rw [read6_lines6 hb]
  dsimp only
  by_cases h0 : sixC l = []
  · rw [if_neg (fun y => y.1 (by unfold lines6; rw [h0]; rfl))]
  · rw [if_neg (fun y => y.2 (linesX_last _ _ (Nat.le_refl _) h0))]
end FL


namespace FL
open PySem PySem.Spec PyProof.Rows L2
def SXTN : Str := "0123456789ABCDEF"
/-! ### marks written -/
theorem endsB_drop {l : List Nat} {i : Nat} : endsB (l.drop (i + 1)) = (decide (i + 1 = l.length) || decide (l.length < i + 1) || decide (l[i + 1]? = some 10)) := by
  by_cases h : i + 1 < l.length
  · rw [decide_eq_false (by omega), decide_eq_false (by omega), List.drop_eq_getElem_cons h, List.getElem?_eq_getElem h]
    show decide (l[i + 1] = 10) = _
    by_cases e : l[i + 1] = 10
    · rw [decide_eq_true e, e]
      rfl
    · rw [decide_eq_false e]
      simp [e]
  · rw [List.drop_eq_nil_of_le (by omega)]
    by_cases e : i + 1 = l.length
    · rw [decide_eq_true e]
      rfl
    · rw [decide_eq_false e, decide_eq_true (by omega)]
      rfl
/-- both ways of `a or b` meet in a name -/
theorem or_key {b : Bool} {N : V → Hp → Prop} {B : Prop} {H : Hp} (J : Bool → Prop) (key : ∀ e, J e → N (.bl e) H) (hT : b = true → J true) (hF : ¬ b = true → (∀ e, J e → N (.bl e) H) → B) : if b = true then N (.bl true) H else B := by
  by_cases h : b = true
  · rw [if_pos h]
    exact key true (hT h)
  · rw [if_neg h]
    exact hF h key
section
variable {P : Program} {w : World} {K : PySem.W.Frag} {mg : Str → Option Value} {base : Heap}
def spUnit : Sp := fun vs H Q _ => ∃ (a : Addr) (l : List Nat) (i : Nat), vs = [.ref a, .int (i : Nat)] ∧ H a = some (.lst (iv l)) ∧ OctL l ∧ ∃ o, l[i]? = some o ∧ ∀ H', Same H H' → Q (.str (mk (unitC o (endsB (l.drop (i + 1)))))) H'
theorem scUnitAt : FnScope ["octets", "place", "octet", "ends"] ["octets", "place"] (defScope sUnitAt) := ⟨rfl, rfl, rfl, by decide +kernel, rfl, by decide +kernel, by decide +kernel⟩
theorem r_unit_at (A : FnAt K mg "_unit_at" sUnitAt) (R1 : Ready P w K mg base 1 "is_numbered" ["number"] spNumb) (R2 : Ready P w K mg base 1 "by_sixteen" ["octet"] spSixteen) (R3 : Ready P w K mg base 2 "text_of" ["numbers"] spTextN)
    (m_len : mg "len" = none) {t1 t2 t3 : Tok} (m_BLANK : mg "BLANK" = some (.int 32 t1)) (m_EQUALS : mg "EQUALS" = some (.int 61 t2)) (m_LINE_FEED : mg "LINE_FEED" = some (.int 10 t3)) : Ready P w K mg base 3 "_unit_at" ["octets", "place"] spUnit := by
  obtain ⟨f1, fd1, g1, k1, b1, G1⟩ := R1
  obtain ⟨f2, fd2, g2, k2, b2, G2⟩ := R2
  obtain ⟨f3, fd3, g3, k3, b3, G3⟩ := R3
  refine ready_of A (fun _ _ _ _ _ _ us hl => match us, hl with | [_, _], _ => rfl) fun f fd F => ?_
  refine F.ok scUnitAt (fun vs H Q E h => ?_) (fun cdv A outer s H vs Q E hr h => ?_)
  · obtain ⟨a, l, i, rfl, _⟩ := h
    rfl
  · obtain ⟨a, l, i, rfl, ha, hb, o, ho, q⟩ := h
    have sc := scUnitAt
    refine ⟨_, pss_cons (ps_set (i := 2) sc.nd rfl (.inl rfl) (pe_ix ix_list (pv 0) (pv 1) (fun _ _ => rfl)))
      (pss_cons (ps_set (i := 3) sc.nd rfl (.inl rfl) (pe_or (pe_cmpR op_eq (pe_op op_add (pv 1) pe_int) (pe_callB call_len_seq (by rfl) m_len PySem.boot_len (pa_cons (pv 0) pa_nil)) (nomark _)) (pe_one (pe_cmpR op_eq (pe_ix ix_list (pv 0) (pe_op op_add (pv 1) pe_int) (fun _ _ => rfl)) (pe_glob (v := .int 10) rfl m_LINE_FEED ⟨_, rfl⟩) (nomark _)))))
      (pss_cons (ps_if (PW.pt (pw_or (pt_cmpR op_eq (pv 2) (pe_glob (v := .int 61) rfl m_EQUALS ⟨_, rfl⟩) (nomark _)) (pw_or (PW.pt (pw_and (pt_cmpR op_eq (pv 2) (pe_glob (v := .int 32) rfl m_BLANK ⟨_, rfl⟩) (nomark _)) (pw_and1 (pt_val (pv 3))))) (pw_or1 (pt_not (pt_val (pe_call G1 (hr.mono (by decide)) (by rfl) g1 k1 b1 .nil pass0 (pa_cons (pv 2) pa_nil))))))))
        (pss_one (ps_ret (pe_call G2 (hr.mono (by decide)) (by rfl) g2 k2 b2 .nil pass0 (pa_cons (pv 2) pa_nil))))
        pss_nil)
      (pss_one (ps_ret (pe_call G3 (hr.mono (by decide)) (by rfl) g3 k3 b3 .nil pass0 (pa_cons (pe_lst (pa_cons (pv 2) pa_nil)) pa_nil)))))), ?_⟩
    have hil : i < l.length := by
      rcases Nat.lt_or_ge i l.length with h | h
      · exact h
      · rw [List.getElem?_eq_none h] at ho
        cases ho
    have hol := hb.lt o (List.mem_of_getElem? ho)
    have eqi : ∀ (x : Nat) (y : Nat), decide (V.int (x : Nat) = V.int ((y : Nat) : Int)) = decide (x = y) := fun x y => by
      by_cases e : x = y
      · rw [e, decide_eq_true rfl, decide_eq_true rfl]
      · rw [decide_eq_false e, decide_eq_false (fun z => e (by have := V.int.inj z; omega))]
    have he := endsB_drop (l := l) (i := i)
    rw [decide_eq_false (show ¬ l.length < i + 1 by omega), Bool.or_false] at he
    refine ⟨_, rfl, _, rfl, a, _, _, .int (o : Nat), rfl, rfl, SqL.of ha, atI_nat (iv_at ho), ?_⟩
    refine ⟨_, rfl, _, _, rfl, rfl, _, rfl, a, _, rfl, .inl (SqL.of ha), rfl, _, rfl, ?_⟩
    rw [iv_len]
    refine or_key (N := fun x H1 => gName 3 x _ H1 _) (J := fun e => e = endsB (l.drop (i + 1))) ?_ ?_ ?_
    rotate_left
    · intro hc
      have e : i + 1 = l.length := by
        have := V.int.inj (of_decide_eq_true hc)
        have : ((i : Nat) : Int) + 1 = ((l.length : Nat) : Int) := this
        omega
      rw [he, decide_eq_true e]
      rfl
    · intro hc key
      have e : ¬ i + 1 = l.length := fun z => hc (decide_eq_true (congrArg V.int (show ((i : Nat) : Int) + 1 = ((l.length : Nat) : Int) by omega)))
      obtain ⟨o2, ho2⟩ : ∃ o2, l[i + 1]? = some o2 := ⟨_, List.getElem?_eq_getElem (by omega)⟩
      refine ⟨_, rfl, _, rfl, _, _, rfl, rfl, a, _, _, .int (o2 : Nat), rfl, rfl, SqL.of ha, atI_nat (j := i + 1) (iv_at ho2), rfl, ?_⟩
      refine key _ ?_
      rw [he, decide_eq_false e, Bool.false_or, ho2]
      show decide (V.int ((o2 : Nat) : Int) = V.int ((10 : Nat) : Int)) = _
      rw [eqi]
      by_cases h : o2 = 10
      · rw [decide_eq_true h, h]
        rfl
      · rw [decide_eq_false h]
        simp [h]
    intro e he2
    · have hun : unitC o e = if o = 61 ∨ (o = 32 ∧ e = true) ∨ numb o = false then 61 :: hex2 o else [o] := rfl
      rw [← he2] at q
      have hexq : (o = 61 ∨ (o = 32 ∧ e = true) ∨ numb o = false) → Q (.str (mk (61 :: hex2 o))) H := fun h => by
        have := q H (Same.refl H)
        rw [hun, if_pos h] at this
        exact this
      refine ⟨_, rfl, rfl, _, rfl, ?_⟩
      rw [show (61 : Int) = ((61 : Nat) : Int) from rfl, eqi]
      by_cases h61 : o = 61
      · rw [decide_eq_true h61]
        exact iteT (iteT ⟨_, rfl, o, rfl, hol, hexq (.inl h61)⟩)
      rw [decide_eq_false h61]
      refine iteF ⟨_, rfl, rfl, _, rfl, ?_⟩
      rw [show (32 : Int) = ((32 : Nat) : Int) from rfl, eqi]
      have tail : ¬ (o = 32 ∧ e = true) → ∃ v, [some (V.ref a), some (.int (i : Nat)), some (.int (o : Nat)), some (.bl e)][2]? = some (some v) ∧ ∃ n : Nat, [v] = [.int (n : Nat)] ∧ (numb n = false → Q (.str (mk (61 :: hex2 o))) H) ∧ (numb n = true → ∀ H', Same H H' → Q (.str (mk [o])) H') := fun h => by
        refine ⟨_, rfl, o, rfl, fun hn => hexq (.inr (.inr hn)), fun hn H' s => ?_⟩
        have := q H' s
        rw [hun, if_neg (fun y => y.elim h61 (fun y => y.elim h (fun y => by rw [hn] at y; cases y)))] at this
        exact this
      by_cases h32 : o = 32
      · rw [decide_eq_true h32]
        refine iteT ⟨_, rfl, _, rfl, ?_⟩
        cases e with
        | true => exact iteT (iteT ⟨_, rfl, o, rfl, hol, hexq (.inr (.inl ⟨h32, rfl⟩))⟩)
        | false =>
          obtain ⟨v, hv, n, hvn, q1, q2⟩ := tail (fun y => by cases y.2)
          refine iteF ⟨_, rfl, o, rfl, _, rfl, ?_⟩
          have hnb : numb o = true := by rw [h32]; decide
          rw [hnb]
          refine iteF ⟨_, rfl, (by show 1 ≤ sizeLine; decide), fun p np => ?_⟩
          refine ⟨p, [o], rfl, by rw [upd_same]; rfl, (fun m hm => by rw [List.mem_singleton.mp hm]; exact .inr hnb), by show 1 ≤ 9000; decide, fun H1 s1 => ?_⟩
          have := q H1 ((same_new np).trans s1)
          rw [hun, if_neg (fun y => y.elim h61 (fun y => y.elim (fun z => by cases z.2) (fun y => by rw [hnb] at y; cases y)))] at this
          exact this
      · rw [decide_eq_false h32]
        refine iteF (iteF ⟨_, rfl, o, rfl, _, rfl, ?_⟩)
        cases hnb : numb o with
        | false => exact iteT ⟨_, rfl, o, rfl, hol, hexq (.inr (.inr hnb))⟩
        | true =>
          refine iteF ⟨_, rfl, (by show 1 ≤ sizeLine; decide), fun p np => ?_⟩
          refine ⟨p, [o], rfl, by rw [upd_same]; rfl, (fun m hm => by rw [List.mem_singleton.mp hm]; exact .inr hnb), by show 1 ≤ 9000; decide, fun H1 s1 => ?_⟩
          have := q H1 ((same_new np).trans s1)
          rw [hun, if_neg (fun y => y.elim h61 (fun y => y.elim (fun z => h32 z.1) (fun y => by rw [hnb] at y; cases y)))] at this
          exact this
end
end FL


namespace FL
open PySem PySem.Spec PyProof.Rows L2
def ipS : TIp := fun x y H Q => ∃ i j, x = .str i ∧ y = .str j ∧ i.length + j.length ≤ sizeLine ∧ Q (.str (i ++ j)) H
theorem ip_addS {X : Cx} : PIp X .Add ipS := fun pins s σ H x y u v Q I rx ry h => iop_add_str pins s σ H x y u v Q I rx ry h
def svM (ws : List (List Nat)) : List V := (ws.map mk).map V.str
theorem svM_len (ws : List (List Nat)) : (svM ws).length = ws.length := by
  unfold svM
  rw [List.length_map, List.length_map]
theorem svM_app (a b : List (List Nat)) : svM a ++ svM b = svM (a ++ b) := by
  unfold svM
  rw [List.map_append, List.map_append]
section
variable {P : Program} {w : World} {K : PySem.W.Frag} {mg : Str → Option Value} {base : Heap}
theorem scWriteMarks : FnScope ["octets", "lines", "line", "place", "octet", "unit"] ["octets"] (defScope sWriteMarks) := ⟨rfl, rfl, rfl, by decide +kernel, rfl, by decide +kernel, by decide +kernel⟩
theorem r_write_marks (A : FnAt K mg "_write_marks" sWriteMarks) (R1 : Ready P w K mg base 3 "_unit_at" ["octets", "place"] spUnit) (m_enumerate : mg "enumerate" = none) (m_len : mg "len" = none) {t1 t2 : Tok} (m_WIDTH : mg "WIDTH" = some (.int 72 t1)) (m_LINE_FEED : mg "LINE_FEED" = some (.int 10 t2)) :
    Ready P w K mg base 4 "_write_marks" ["octets"] (spWrC marksL) := by
  obtain ⟨f1, fd1, g1, k1, b1, G1⟩ := R1
  refine ready_of A (fun _ _ _ _ _ _ us hl => match us, hl with | [_], _ => rfl) fun f fd F => ?_
  refine F.ok scWriteMarks (fun vs H Q E h => ?_) (fun cdv A outer s H vs Q E hr h => ?_)
  · obtain ⟨a, l, rfl, _⟩ := h
    rfl
  · obtain ⟨a, l, rfl, ha, hb, q⟩ := h
    have sc := scWriteMarks
    refine ⟨_, pss_cons (ps_set (i := 1) sc.nd rfl (.inl rfl) (pe_lst pa_nil))
      (pss_cons (ps_set (i := 2) sc.nd rfl (.inl rfl) pe_str)
      (pss_cons (ps_for PassesOwn.never rfl (pi_enum (by rfl) m_enumerate (pa_cons (pv 0) pa_nil)) (pg_tup rfl (pgs_cons (pg_name (i := 3) sc.nd rfl (.inl rfl)) (pgs_cons (pg_name (i := 4) sc.nd rfl (.inl rfl)) pgs_nil)))
        (pss_one (ps_if (pt_cmpR op_eq (pv 4) (pe_glob (v := .int 10) rfl m_LINE_FEED ⟨_, rfl⟩) (nomark _))
            (pss_cons (ps_expr (pe_bm PySem.F.plainAttrs_list PySem.F.slot_list_append PySem.F.type_list_append mt_append (pv 1) (pa_cons (pe_op op_add_str (pv 2) pe_str) pa_nil)))
              (pss_one (ps_set (i := 2) sc.nd rfl (.inl rfl) pe_str)))
            (pss_cons (ps_set (i := 5) sc.nd rfl (.inl rfl) (pe_call G1 (hr.mono (by decide)) (by rfl) g1 k1 b1 .nil pass0 (pa_cons (pv 0) (pa_cons (pv 3) pa_nil))))
              (pss_cons (ps_if (pt_cmpR op_ge (pe_op op_add (pe_callB call_len_str (by rfl) m_len PySem.boot_len (pa_cons (pv 2) pa_nil)) (pe_callB call_len_str (by rfl) m_len PySem.boot_len (pa_cons (pv 5) pa_nil))) (pe_glob (v := .int 72) rfl m_WIDTH ⟨_, rfl⟩) (nomark _))
                (pss_cons (ps_expr (pe_bm PySem.F.plainAttrs_list PySem.F.slot_list_append PySem.F.type_list_append mt_append (pv 1) (pa_cons (pe_op op_add_str (pv 2) pe_str) pa_nil)))
                  (pss_one (ps_set (i := 2) sc.nd rfl (.inl rfl) pe_str)))
                pss_nil)
              (pss_one (ps_aug (i := 2) sc.nd rfl (.inl rfl) (pv 5) ip_addS)))))))
      (pss_cons (ps_if (pt_cmpR op_ne (pv 2) pe_str (nomark _))
        (pss_one (ps_expr (pe_bm PySem.F.plainAttrs_list PySem.F.slot_list_append PySem.F.type_list_append mt_append (pv 1) (pa_cons (pe_op op_add_str (pv 2) pe_str) pa_nil))))
        pss_nil)
      (pss_one (ps_ret (pe_join pe_str (pv 1))))))), ?_⟩
    have hbl := hb.len
    have e0 : ("" : Str) = mk [] := by decide +kernel
    have eLF : ("\n" : Str) = mk [10] := by decide +kernel
    have eSB : ("=\n" : Str) = mk [61, 10] := by decide +kernel
    refine ⟨(by show 0 ≤ sizeLine; decide), fun L nL => ?_⟩
    refine ⟨_, rfl, a, _, rfl, SqL.of (kn ha nL), ?_⟩
    refine for_it (walk_enum (K := K) (a := a) (xs := iv l)) (fun i σ H' => ∃ (ys : List (List Nat)) (line : List Nat) (y3 y4 y5 : Option V), σ = [some (.ref a), some (.ref L), some (.str (mk line)), y3, y4, y5] ∧ Same H H' ∧ H' L = some (.lst (svM ys)) ∧ ys.flatten ++ line ++ tailM (l.drop i) line.length = marksL l ∧ ys.length ≤ i ∧ (∀ y ∈ ys, y.length ≤ 75) ∧ line.length ≤ 71)
      ⟨[], [], none, none, none, by rw [← e0]; rfl, same_new nL, upd_same, rfl, Nat.le_refl _, (fun y h => by cases h), by decide⟩ (fun i σ H1 _ hp => ?_) (fun i x σ H1 H2 hi hp hy => ?_) (fun σ H1 hp => ?_)
    · obtain ⟨ys, line, y3, y4, y5, rfl, sm, _⟩ := hp
      exact SqL.of (sm _ _ ha)
    · obtain ⟨ys, line, y3, y4, y5, rfl, sm, hL, hE, hy1, hy2, hl71⟩ := hp
      obtain ⟨T, xx, yy, rfl, nT, rfl, hxx, hyy⟩ := hy
      injection hxx with hxx
      subst hxx
      rw [iv_len] at hi
      have hn := List.getElem?_eq_getElem hi
      have hol := hb.lt _ (List.getElem_mem hi)
      have hdr : l.drop i = l[i] :: l.drop (i + 1) := List.drop_eq_getElem_cons hi
      generalize l[i] = o at hn hol hdr
      have hyy : (iv l)[i]? = some yy := hyy
      rw [iv_at hn] at hyy
      injection hyy with hyy
      subst hyy
      rw [hdr] at hE
      have sT : Same H1 (upd H1 T (.tup [.int (i : Nat), .int (o : Nat)])) := same_new nT
      have hT : (upd H1 T (.tup [.int (i : Nat), .int (o : Nat)])) T = some (.tup [.int (i : Nat), .int (o : Nat)]) := upd_same
      generalize upd H1 T (.tup [.int (i : Nat), .int (o : Nat)]) = H2 at sT hT ⊢
      have sm2 := sm.trans sT
      have hL2 := sT _ _ hL
      refine ⟨T, _, rfl, SqT.of hT, rfl, _, _, rfl, _, _, rfl, rfl, ?_⟩
      refine ⟨_, rfl, rfl, _, rfl, ite2 (fun h => ?_) (fun h => ?_)⟩
      · have e : o = 10 := by have := V.int.inj (of_decide_eq_true h); omega
        have c1 := catX (rfl : mk line = _) eLF
        refine ⟨_, rfl, .inl ⟨rfl, _, SqL.of hL2⟩, _, rfl, _, _, rfl, rfl, (by rw [← len_append]; exact szE c1 (by simp; omega)), ?_⟩
        rw [c1]
        refine ⟨L, _, _, rfl, rfl, hL2, by rw [svM_len]; exact szl (by omega), ?_⟩
        refine ⟨ys ++ [line ++ [10]], [], _, _, _, by rw [← e0]; rfl, same_set sm2 nL, by rw [upd_same, ← svM_app]; rfl, ?_, by rw [List.length_append]; show ys.length + 1 ≤ _; omega, fun y hy => ?_, by decide⟩
        · rw [← hE, e]
          rw [tailM, if_pos rfl]
          simp
        · rcases List.mem_append.mp hy with hy | hy
          · exact hy2 y hy
          · rw [List.mem_singleton.mp hy, List.length_append]
            show line.length + 1 ≤ _
            omega
      · have hne : o ≠ 10 := fun z => h (decide_eq_true (by rw [z]; rfl))
        have hu := unitC_len o (endsB (l.drop (i + 1)))
        refine ⟨_, rfl, _, rfl, a, l, i, rfl, sm2 _ _ ha, hb, o, hn, fun H3 s3 => ?_⟩
        rw [tailM, if_neg hne] at hE
        generalize unitC o (endsB (l.drop (i + 1))) = u at hu hE ⊢
        have hL3 := s3 _ _ hL2
        have sm3 := sm2.trans s3
        refine ⟨_, rfl, _, rfl, szX (by omega), _, rfl, _, rfl, szX (by omega), _, _, rfl, rfl, _, _, rfl, rfl, _, rfl, ?_⟩
        rw [mk_len, mk_len]
        by_cases hlong : 72 ≤ line.length + u.length
        · rw [decide_eq_true (by omega : ((line.length : Nat) : Int) + ((u.length : Nat) : Int) ≥ 72)]
          rw [if_pos hlong] at hE
          have c1 := catX (rfl : mk line = _) eSB
          have c2 := catX e0 (rfl : mk u = _)
          refine iteT ⟨_, rfl, .inl ⟨rfl, _, SqL.of hL3⟩, _, rfl, _, _, rfl, rfl, (by rw [← len_append]; exact szE c1 (by simp; omega)), ?_⟩
          rw [c1]
          refine ⟨L, _, _, rfl, rfl, hL3, by rw [svM_len]; exact szl (by omega), ?_⟩
          refine ⟨_, rfl, _, rfl, _, _, rfl, rfl, (by rw [← len_append]; exact szE c2 (by simp; omega)), ?_⟩
          rw [c2, List.nil_append]
          refine ⟨ys ++ [line ++ [61, 10]], u, _, _, _, rfl, same_set sm3 nL, by rw [upd_same, ← svM_app]; rfl, ?_, by rw [List.length_append]; show ys.length + 1 ≤ _; omega, fun y hy => ?_, by omega⟩
          · rw [← hE]
            simp
          · rcases List.mem_append.mp hy with hy | hy
            · exact hy2 y hy
            · rw [List.mem_singleton.mp hy, List.length_append]
              show line.length + 2 ≤ _
              omega
        · rw [decide_eq_false (by omega : ¬ ((line.length : Nat) : Int) + ((u.length : Nat) : Int) ≥ 72)]
          rw [if_neg hlong] at hE
          have c2 := catX (rfl : mk line = _) (rfl : mk u = _)
          refine iteF ⟨_, rfl, _, rfl, _, _, rfl, rfl, (by rw [← len_append]; exact szE c2 (by simp; omega)), ?_⟩
          rw [c2]
          refine ⟨ys, line ++ u, _, _, _, rfl, sm3, hL3, ?_, by omega, hy2, by rw [List.length_append]; omega⟩
          rw [← hE, List.length_append]
          simp
    · obtain ⟨ys, line, y3, y4, y5, rfl, sm, hL, hE, hy1, hy2, hl71⟩ := hp
      rw [iv_len, List.drop_length] at hE
      rw [iv_len] at hy1
      have fin : ∀ (H2 : Hp) (zs : List (List Nat)), Same H H2 → H2 L = some (.lst (svM zs)) → zs.flatten = marksL l → zs.length ≤ 2001 → (∀ y ∈ zs, y.length ≤ 75) → ∃ u, [some (V.ref a), some (.ref L), some (.str (mk line)), y3, y4, y5][1]? = some (some u) ∧ ∃ (sep : Str) (p : Addr) (ws : List Str), V.str ("" : Str) = .str sep ∧ [u] = [.ref p] ∧ (SqL K H2 p (ws.map V.str) ∨ SqT K H2 p (ws.map V.str)) ∧ (ws.map (·.length)).sum + ws.length * sep.length ≤ 16777216 ∧ Q (.str (Txt.join sep ws)) H2 := fun H2 zs s2 h2 hf hz1 hz2 => by
        refine ⟨_, rfl, ("" : Str), L, zs.map mk, rfl, rfl, .inl (SqL.of h2), ?_, ?_⟩
        · have h1 := sum0C (ps := zs) (n := 75) hz2
          have h3 : ("" : Str).length = 0 := by decide +kernel
          rw [h3]
          have : zs.length * 75 ≤ 2001 * 75 := Nat.mul_le_mul_right _ hz1
          simp only [List.length_map] at h1 ⊢
          omega
        · rw [join0C, hf]
          exact q _ s2
      refine ⟨_, rfl, rfl, _, rfl, ?_⟩
      by_cases h0 : line = []
      · rw [h0] at hE
        refine iteNS (by rw [h0, e0]) ?_
        refine ⟨⟨_, rfl⟩, ?_⟩
        exact fin H1 ys sm hL (by rw [← hE]; simp [tailM]) (by omega) hy2
      · rw [decide_eq_false (show ¬ V.str (mk line) = V.str ("" : Str) from fun z => h0 (by have := V.str.inj z; rw [e0] at this; have := congrArg (fun s => s.cps.toList) this; simpa [mk_codes] using this))]
        have c1 := catX (rfl : mk line = _) eSB
        refine iteT ⟨_, rfl, .inl ⟨rfl, _, SqL.of hL⟩, _, rfl, _, _, rfl, rfl, (by rw [← len_append]; exact szE c1 (by simp; omega)), ?_⟩
        rw [c1]
        refine ⟨L, _, _, rfl, rfl, hL, by rw [svM_len]; exact szl (by omega), ?_⟩
        refine ⟨⟨_, rfl⟩, ?_⟩
        refine fin _ (ys ++ [line ++ [61, 10]]) (same_set sm nL) (by rw [upd_same, ← svM_app]; rfl) ?_ (by rw [List.length_append]; show ys.length + 1 ≤ _; omega) (fun y hy => ?_)
        · have hl1 : line.length ≠ 0 := fun z => h0 (List.eq_nil_of_length_eq_zero z)
          rw [← hE, tailM, if_neg hl1]
          simp
        · rcases List.mem_append.mp hy with hy | hy
          · exact hy2 y hy
          · rw [List.mem_singleton.mp hy, List.length_append]
            show line.length + 2 ≤ _
            omega
end
end FL


namespace FL
open PySem PySem.Spec PyProof.Rows L2
/-! ### octets as they stand -/
def plainR : List Nat → Nat → Bool
  | [], n => decide (n = 0)
  | o :: r, n => if o = 10 then plainR r 0 else if n + 1 ≤ 72 ∧ numb o = true then plainR r (n + 1) else false
def plainB (l : List Nat) : Bool := plainR l 0
theorem plainR_ok : ∀ (l : List Nat) (n : Nat), plainR l n = true → ∀ o ∈ l, o = 10 ∨ numb o = true
  | [], _, _, o, h => by cases h
  | a :: r, n, h, o, ho => by
    unfold plainR at h
    split at h
    · rename_i e
      rcases List.mem_cons.mp ho with rfl | ho
      · exact .inl e
      · exact plainR_ok r _ h o ho
    · split at h
      · rename_i e
        rcases List.mem_cons.mp ho with rfl | ho
        · exact .inr e.2
        · exact plainR_ok r _ h o ho
      · cases h
theorem plainR_last : ∀ (l : List Nat) (n : Nat), plainR l n = true → l = [] ∨ l.getLast? = some 10
  | [], _, _ => .inl rfl
  | a :: r, n, h => by
    refine .inr ?_
    unfold plainR at h
    split at h
    · rename_i e
      rcases plainR_last r _ h with h1 | h1
      · rw [h1, e]
        rfl
      · rw [List.getLast?_cons, h1]
        rfl
    · split at h
      · rcases plainR_last r _ h with h1 | h1
        · rw [h1] at h
          simp [plainR] at h
        · rw [List.getLast?_cons, h1]
          rfl
      · cases h
theorem plain_sig {l : List Nat} (h : plainB l = true) : allSig l = true :=
  List.all_eq_true.mpr fun o ho => (plainR_ok l 0 h o ho).elim (fun e => by rw [e]; decide) (fun e => (numb_sig e).1)
def rdP : RdC := fun l => .ok l
def bestC (l : List Nat) : Str := if plainB l = true then "plain" else if (lines6 l).length < (marksL l).length then "sixes" else "marks"
section
variable {P : Program} {w : World} {K : PySem.W.Frag} {mg : Str → Option Value} {base : Heap}
def spPlain : Sp := fun vs H Q _ => ∃ (a : Addr) (l : List Nat), vs = [.ref a] ∧ H a = some (.lst (iv l)) ∧ OctL l ∧ Q (.bl (plainB l)) H
theorem scIsPlain : FnScope ["octets", "size", "octet"] ["octets"] (defScope sIsPlain) := ⟨rfl, rfl, rfl, by decide +kernel, rfl, by decide +kernel, by decide +kernel⟩
theorem r_is_plain (A : FnAt K mg "_is_plain" sIsPlain) (R1 : Ready P w K mg base 1 "is_numbered" ["number"] spNumb) {t1 t2 : Tok} (m_WIDTH : mg "WIDTH" = some (.int 72 t1)) (m_LINE_FEED : mg "LINE_FEED" = some (.int 10 t2)) : Ready P w K mg base 2 "_is_plain" ["octets"] spPlain := by
  obtain ⟨f1, fd1, g1, k1, b1, G1⟩ := R1
  refine ready_of A (fun _ _ _ _ _ _ us hl => match us, hl with | [_], _ => rfl) fun f fd F => ?_
  refine F.ok scIsPlain (fun vs H Q E h => ?_) (fun cdv A outer s H vs Q E hr h => ?_)
  · obtain ⟨a, l, rfl, _⟩ := h
    rfl
  · obtain ⟨a, l, rfl, ha, hb, q⟩ := h
    have sc := scIsPlain
    refine ⟨_, pss_cons (ps_set (i := 1) sc.nd rfl (.inl rfl) pe_int)
      (pss_cons (ps_for PassesOwn.never rfl (pi_list (pv 0)) (pg_name (i := 2) sc.nd rfl (.inl rfl))
        (pss_cons (ps_if (pt_cmpR op_eq (pv 2) (pe_glob (v := .int 10) rfl m_LINE_FEED ⟨_, rfl⟩) (nomark _))
            (pss_one (ps_set (i := 1) sc.nd rfl (.inl rfl) pe_int))
            (pss_one (ps_aug (i := 1) sc.nd rfl (.inl rfl) pe_int ip_add)))
          (pss_one (ps_if (PW.pt (pw_or (pt_cmpR op_gt (pv 1) (pe_glob (v := .int 72) rfl m_WIDTH ⟨_, rfl⟩) (nomark _)) (pw_or1 (pt_not (PW.pt (pw_or (pt_cmpR op_eq (pv 2) (pe_glob (v := .int 10) rfl m_LINE_FEED ⟨_, rfl⟩) (nomark _)) (pw_or1 (pt_val (pe_call G1 (hr.mono (by decide)) (by rfl) g1 k1 b1 .nil pass0 (pa_cons (pv 2) pa_nil))))))))))
            (pss_one (ps_ret pe_bl))
            pss_nil))))
      (pss_one (ps_ret (pe_cmpR op_eq (pv 1) pe_int (nomark _))))), ?_⟩
    have eqi : ∀ (x : Nat) (y : Nat), decide (V.int (x : Nat) = V.int ((y : Nat) : Int)) = decide (x = y) := fun x y => by
      by_cases e : x = y
      · rw [e, decide_eq_true rfl, decide_eq_true rfl]
      · rw [decide_eq_false e, decide_eq_false (fun z => e (by have := V.int.inj z; omega))]
    refine ⟨_, rfl, a, rfl, ⟨_, SqL.of ha⟩, ?_⟩
    refine for_it (walk_list (K := K) (a := a) (xs := iv l)) (fun i σ H' => ∃ (n : Nat) (y2 : Option V), σ = [some (.ref a), some (.int (n : Nat)), y2] ∧ H' = H ∧ plainR (l.drop i) n = plainB l) ⟨0, none, rfl, rfl, rfl⟩ (fun i σ H' _ hp => ?_) (fun i x σ H1 H2 hi hp hy => ?_) (fun σ H1 hp => ?_)
    · obtain ⟨n, y2, rfl, rfl, _⟩ := hp
      exact SqL.of ha
    · obtain ⟨n, y2, rfl, rfl, hE⟩ := hp
      obtain ⟨rfl, hx⟩ := hy
      rw [iv_len] at hi
      have hn := List.getElem?_eq_getElem hi
      have hdr : l.drop i = l[i] :: l.drop (i + 1) := List.drop_eq_getElem_cons hi
      generalize l[i] = o at hn hdr
      rw [iv_at hn] at hx
      injection hx with hx
      subst hx
      rw [hdr, plainR] at hE
      refine ⟨_, rfl, rfl, _, rfl, ?_⟩
      rw [show (10 : Int) = ((10 : Nat) : Int) from rfl, eqi]
      by_cases h10 : o = 10
      · rw [decide_eq_true h10]
        rw [if_pos h10] at hE
        refine iteT ⟨_, rfl, _, _, rfl, rfl, _, rfl, ?_⟩
        rw [decide_eq_false (show ¬ (0 : Int) > 72 by decide)]
        refine iteF ⟨_, rfl, rfl, _, rfl, ?_⟩
        rw [eqi, decide_eq_true h10]
        exact iteT (iteF ⟨0, _, rfl, rfl, hE⟩)
      · rw [decide_eq_false h10]
        rw [if_neg h10] at hE
        refine iteF ⟨_, rfl, _, _, rfl, rfl, _, rfl, _, _, rfl, rfl, _, rfl, ?_⟩
        by_cases h72 : n + 1 ≤ 72
        · rw [decide_eq_false (by omega : ¬ ((n : Nat) : Int) + 1 > 72)]
          refine iteF ⟨_, rfl, rfl, _, rfl, ?_⟩
          rw [eqi, decide_eq_false h10]
          refine iteF ⟨_, rfl, o, rfl, _, rfl, ?_⟩
          cases hnb : numb o with
          | true =>
            rw [if_pos ⟨h72, hnb⟩] at hE
            exact iteF ⟨n + 1, _, rfl, rfl, hE⟩
          | false =>
            rw [if_neg (fun z => by rw [hnb] at z; cases z.2)] at hE
            refine iteT ?_
            rw [← hE] at q
            exact q
        · rw [decide_eq_true (by omega : ((n : Nat) : Int) + 1 > 72)]
          rw [if_neg (fun z => h72 z.1)] at hE
          refine iteT (iteT ?_)
          rw [← hE] at q
          exact q
    · obtain ⟨n, y2, rfl, rfl, hE⟩ := hp
      rw [iv_len, List.drop_length, plainR] at hE
      refine ⟨_, rfl, rfl, ?_⟩
      show Q (.bl (decide (V.int ((n : Nat) : Int) = V.int ((0 : Nat) : Int)))) H1
      rw [eqi, hE]
      exact q
def spWrPX (C : Addr) : Sp := fun vs H Q E => ∃ (a : Addr) (l : List Nat), vs = [.ref a] ∧ H a = some (.lst (iv l)) ∧ OctL l ∧ (plainB l = true → ∀ H', Same H H' → Q (.str (mk l)) H') ∧ (plainB l = false → Fails C "at" 0 H E)
theorem scWritePlain : FnScope ["octets"] ["octets"] (defScope sWritePlain) := ⟨rfl, rfl, rfl, by decide +kernel, rfl, by decide +kernel, by decide +kernel⟩
theorem x_write_plain {C : Addr} (MNoCode : MkFld P w K mg base "NoCode" C "at") (A : FnAt K mg "_write_plain" sWritePlain) (R1 : Ready P w K mg base 2 "_is_plain" ["octets"] spPlain) (R2 : Ready P w K mg base 2 "text_of" ["numbers"] spTextN) : ReadyX P w K mg base 4 "_write_plain" ["octets"] (spWrPX C) := by
  obtain ⟨f1, fd1, g1, k1, b1, G1⟩ := R1
  obtain ⟨f2, fd2, g2, k2, b2, G2⟩ := R2
  refine readyX_of A (fun _ _ _ _ _ _ us hl => match us, hl with | [_], _ => rfl) fun f fd F => ?_
  refine F.okX scWritePlain (fun vs H Q E h => ?_) (fun cdv A outer s H vs Q E hr h => ?_)
  · obtain ⟨a, l, rfl, _⟩ := h
    rfl
  · obtain ⟨a, l, rfl, ha, hb, q, qe⟩ := h
    have sc := scWritePlain
    refine ⟨_, pss_cons (ps_if (pt_not (pt_val (pe_call G1 (hr.mono (by decide)) (by rfl) g1 k1 b1 .nil pass0 (pa_cons (pv 0) pa_nil))))
        (pss_one (ps_raise rfl (takes_of rfl rfl rfl rfl) (pmk_fld MNoCode (hr.mono (by decide)) (by rfl) (pa_cons pe_str pa_nil) [.int 0] (.inr rfl))))
        pss_nil)
      (pss_one (ps_ret (pe_call G2 (hr.mono (by decide)) (by rfl) g2 k2 b2 .nil pass0 (pa_cons (pv 0) pa_nil)))), ?_⟩
    have := hb.len
    refine ⟨_, rfl, a, l, rfl, ha, hb, _, rfl, ?_⟩
    cases hp : plainB l with
    | true => exact iteF ⟨_, rfl, a, l, rfl, ha, plainR_ok l 0 hp, by omega, fun H' s => q hp H' s⟩
    | false => exact iteT (mk_leaf rfl (by decide) (qe hp))
def spWrittenP (K : PySem.W.Frag) (C CN : Addr) : Sp := fun vs H Q E => ∃ v, vs = [v, .str ("plain" : Str)] ∧ ((∃ a l, v = .ref a ∧ H a = some (.lst (iv l)) ∧ OctL l ∧ (plainB l = true → ∀ H', Same H H' → Q (.str (mk l)) H') ∧ (plainB l = false → Fails C "at" 0 H E)) ∨ (NoOctC K H v ∧ ∀ H', Same H H' → E (.ref CN) none H'))
def spNumbersOf : Sp := fun vs H Q _ => ∃ z : Str, vs = [.str z] ∧ z.length ≤ 10000 ∧ ∀ H' p, Same H H' → H p = none → H' p = some (.lst (iv z.cps.toList)) → Q (.ref p) H'
theorem scNumbersOf : FnScope ["text", "sign"] ["text"] (defScope sNumbersOf) := ⟨rfl, rfl, rfl, by decide +kernel, rfl, by decide +kernel, by decide +kernel⟩
theorem r_numbers_of (A : FnAt K mg "numbers_of" sNumbersOf) (m_ord : mg "ord" = none) : Ready P w K mg base 1 "numbers_of" ["text"] spNumbersOf := by
  refine ready_of A (fun _ _ _ _ _ _ us hl => match us, hl with | [_], _ => rfl) fun f fd F => ?_
  refine F.ok scNumbersOf (fun vs H Q E h => ?_) (fun cdv A outer s H vs Q E hr h => ?_)
  · obtain ⟨z, rfl, _⟩ := h
    rfl
  · obtain ⟨z, rfl, hz, q⟩ := h
    have sc := scNumbersOf
    refine ⟨_, pss_one (ps_ret (pe_lc (own := [("sign", 1)]) (g := gName 1) (tt := tYes) (by rfl) sc.nd (pi_str (pv 0)) (blkOk_by (own := [("sign", 1)]) (N := ["text", "sign"]) (sc := defScope sNumbersOf) (by decide +kernel)) (fun _ _ _ _ _ => (pg_name (i := 1) sc.nd rfl (.inl rfl))) (fun _ _ _ _ _ => pts_nil) (fun _ _ _ _ _ => (pe_callB call_ord (by rfl) m_ord (by decide +kernel) (pa_cons (pv 1) pa_nil))))), ?_⟩
    refine ⟨_, rfl, z, rfl, fun D hD => ?_⟩
    refine lc_it walk_str (fun i H' => Same H H' ∧ H' D = some (.lst (iv (z.cps.toList.take i)))) ⟨same_new hD, upd_same⟩ (fun _ _ _ _ => trivial) (fun i x H1 H2 hi hp hy => ?_) (fun H1 hp => ?_)
    · obtain ⟨rfl, c, hc, rfl⟩ := hy
      obtain ⟨sm, hd⟩ := hp
      have hc' := cps_at hc
      refine ⟨rfl, ?_⟩
      unfold tYes
      refine iteT ⟨_, rfl, _, rfl, rfl, _, hd, ?_, same_set sm hD, ?_⟩
      · rw [iv_len]
        exact Nat.lt_of_le_of_lt (List.length_take_le _ _) (szl (by have h2 : z.cps.size = z.length := rfl; omega))
      · rw [upd_same, take_more hc', iv_app]
        rfl
    · obtain ⟨sm, hd⟩ := hp
      have e : z.cps.toList.take z.cps.size = z.cps.toList := List.take_of_length_le (by simp)
      rw [e] at hd
      exact q H1 D sm hD hd
theorem scReadPlain : FnScope ["text"] ["text"] (defScope sReadPlain) := ⟨rfl, rfl, rfl, by decide +kernel, rfl, by decide +kernel, by decide +kernel⟩
theorem r_read_plain (A : FnAt K mg "_read_plain" sReadPlain) (R1 : Ready P w K mg base 1 "numbers_of" ["text"] spNumbersOf) : Ready P w K mg base 2 "_read_plain" ["text"] spNumbersOf := by
  obtain ⟨f1, fd1, g1, k1, b1, G1⟩ := R1
  refine ready_of A (fun _ _ _ _ _ _ us hl => match us, hl with | [_], _ => rfl) fun f fd F => ?_
  refine F.ok scReadPlain (fun vs H Q E h => ?_) (fun cdv A outer s H vs Q E hr h => ?_)
  · obtain ⟨z, rfl, _⟩ := h
    rfl
  · obtain ⟨z, rfl, hz, q⟩ := h
    have sc := scReadPlain
    refine ⟨_, pss_one (ps_ret (pe_call G1 (hr.mono (by decide)) (by rfl) g1 k1 b1 .nil pass0 (pa_cons (pv 0) pa_nil))), ?_⟩
    exact ⟨_, rfl, z, rfl, hz, q⟩
theorem x_read_by0 {C WR RD fR : Addr} {fdR : FuncData} {psR : List Str} {kk : Nat} {code : Str} (MNoCode : MkFld P w K mg base "NoCode" C "at") (A : FnAt K mg "read_by" sReadBy) (R1 : Ready P w K mg base 2 "is_text" ["value"] (spLine K allSig)) (R2 : ReadyX P w K mg base 4 "_check_code" ["value"] (spCheckCodeX K C WR))
    (m_READERS : mg "READERS" = some (.ref RD)) (m_len : mg "len" = none) {es : Array DictEntry} {n : Nat} (D : KDict K w RD es n) {rw_ : Value} (hw : PySem.W.nsIn K WR code = some (some rw_)) (hs : PySem.W.nsIn K RD code = some (some (.ref fR)))
    (GR : FnOk P w K mg base CX0 kk fR fdR psR spNumbersOf) (hk4 : kk ≤ 6) (kR : PySem.W.keepIn K (.ref fR) = true) (bR : L2.Binds K fdR psR []) :
    ReadyKX P w K mg base 7 "read_by" ["text", "code"] (spReadX K C code rdP) (kbR K) := by
  obtain ⟨f1, fd1, g1, k1, b1, G1⟩ := R1
  obtain ⟨f2, fd2, g2, k2, b2, G2⟩ := R2
  refine readyKX_of A (fun _ _ _ _ _ _ us hl => match us, hl with | [_, _], _ => rfl) (fun f fd F => kbr_of F fun _ _ _ _ _ _ a b => rfl) fun f fd F => ?_
  refine F.okX scReadBy (fun vs H Q E h => ?_) (fun cdv A outer s H vs Q E hr h => ?_)
  · obtain ⟨v, rfl, _⟩ := h
    rfl
  · obtain ⟨v, rfl, h⟩ := h
    have sc := scReadBy
    refine ⟨_, pss_cons (ps_if (pt_not (pt_val (pe_call G1 (hr.mono (by decide)) (by rfl) g1 k1 b1 .nil pass0 (pa_cons (pv 0) pa_nil))))
        (pss_one (ps_raise rfl (takes_of rfl rfl rfl rfl) (pmk_fld MNoCode (hr.mono (by decide)) (by rfl) (pa_cons pe_str pa_nil) [.int 0] (.inr rfl))))
        pss_nil)
      (pss_cons (ps_expr (pe_call G2 (hr.mono (by decide)) (by rfl) g2 k2 b2 .nil (E := E) (passes_call (takes_of rfl rfl rfl rfl) (fun _ _ _ _ h => h)) (pa_cons (pv 1) pa_nil)))
      (pss_cons (ps_set (i := 2) sc.nd rfl (.inl rfl) (pe_ix ix_kdict (pe_glob (v := .ref RD) rfl m_READERS rfl) (pv 1) (fun _ _ => rfl)))
      (pss_cons (ps_set (i := 3) sc.nd rfl (.inl rfl) (pe_callL (i := 2) GR (hr.mono hk4) rfl (by first | exact .inl rfl | exact .inr (.inl rfl) | exact .inr (.inr rfl)) kR bR .nil pass0 (pa_cons (pv 0) pa_nil)))
      (pss_cons (ps_if (PW.pt (pw_and (pt_cmpR op_ne (pv 0) pe_str (nomark _)) (pw_and1 (pt_not (pt_val (pe_bm PySem.F.plainAttrs_str PySem.F.slot_str_endswith PySem.F.type_str_endswith mt_endswith (pv 0) (pa_cons pe_str pa_nil)))))))
        (pss_one (ps_raise rfl (takes_of rfl rfl rfl rfl) (pmk_fld MNoCode (hr.mono (by decide)) (by rfl) (pa_cons pe_str (pa_cons (pe_callB call_len_str (by rfl) m_len PySem.boot_len (pa_cons (pv 0) pa_nil)) pa_nil)) [] (.inl rfl))))
        pss_nil)
      (pss_one (ps_ret (pv 3))))))), ?_⟩
    rcases h with ⟨z, rfl, hz, hall, q, qe⟩ | ⟨hno, qe⟩
    · refine ⟨_, rfl, _, rfl, .inl ⟨z, rfl, hz, fun H1 s1 => ?_⟩⟩
      rw [hall]
      refine ⟨_, rfl, iteF ?_⟩
      refine ⟨_, rfl, _, rfl, .inl ⟨_, _, rfl, hw, fun _ => ?_, fun z => by cases z⟩⟩
      refine ⟨_, rfl, RD, code, .ref fR, rfl, rfl, ⟨es, n, .ref fR, D.at_, D.lit, hs, rfl⟩, ?_⟩
      unfold readBy at q qe
      refine ⟨rfl, _, rfl, z, rfl, hz, fun H2 p s2 np hp => ?_⟩
      · unfold rdP at q qe
        dsimp only at q qe
        have e10 : ("" : Str) = mk [] := by decide +kernel
        refine ⟨_, rfl, rfl, _, rfl, ?_⟩
        by_cases h0 : z.cps.toList = []
        · have ez : z = ("" : Str) := by rw [e10, ← h0, mk_of]
          refine iteNS (congrArg V.str ez) (iteF ?_)
          exact ⟨_, rfl, q _ (by rw [if_neg (fun y => y.1 h0)]) H2 p (s1.trans s2) (Same.free s1 np) hp⟩
        · rw [decide_eq_false (fun y => h0 (by rw [V.str.inj y]; decide +kernel))]
          refine iteT ⟨_, rfl, rfl, _, _, rfl, rfl, ?_⟩
          rw [ends_lf]
          refine ⟨_, rfl, ?_⟩
          by_cases hl : z.cps.toList.getLast? = some 10
          · rw [decide_eq_true hl]
            refine iteF ⟨_, rfl, q _ (by rw [if_neg (fun y => y.2 hl)]) H2 p (s1.trans s2) (Same.free s1 np) hp⟩
          · rw [decide_eq_false hl]
            refine iteT ⟨_, rfl, _, rfl, Nat.le_of_lt (szl hz), ?_⟩
            have hf := qe z.cps.toList.length (by rw [if_pos ⟨h0, hl⟩])
            rw [len_cps] at hf
            exact mk_leaf rfl (Nat.le_refl _) (Fails.later hf (s1.trans s2))
    · rcases hno with ⟨z, rfl, hz, hall⟩ | ⟨t, ht, hk⟩
      · refine ⟨_, rfl, _, rfl, .inl ⟨z, rfl, hz, fun H1 s1 => ?_⟩⟩
        rw [hall]
        exact ⟨_, rfl, iteT (mk_leaf rfl (by decide) (Fails.later qe s1))⟩
      · exact ⟨_, rfl, _, rfl, .inr ⟨t, ht, hk, _, rfl, iteT (mk_leaf rfl (by decide) qe)⟩⟩

def spBestX (K : PySem.W.Frag) (CN : Addr) : Sp := fun vs H Q E => ∃ v, vs = [v] ∧ ((∃ a l, v = .ref a ∧ H a = some (.lst (iv l)) ∧ OctL l ∧ l.length ≤ 1500 ∧ ∀ H', Same H H' → Q (.str (bestC l)) H') ∨ (NoOctC K H v ∧ ∀ H', Same H H' → E (.ref CN) none H'))
end
end FL


namespace FL
open PySem PySem.Spec PyProof.Rows L2
/-! ### marks read: one step -/
def strC (s : List Nat) : List Nat × Nat := match s with
  | [] => ([], 0)
  | c :: r => if c = 32 then (if ((c :: r).drop (blk (c :: r))).head? = some 10 then ([], blk (c :: r)) else (List.replicate (blk (c :: r)) 32, blk (c :: r))) else ([c], 1)
def eqC (r : List Nat) : Except Nat (List Nat × Nat) := if (r.drop (blk r)).head? = some 10 then .ok ([], blk r + 2) else if 0 < blk r then .error (1 + blk r) else match figV r with
  | none => .error 1
  | some x => match figV (r.drop 1) with
    | none => .error 2
    | some y => .ok ([16 * x + y], 3)
theorem strC_cons (c : Nat) (r : List Nat) : strC (c :: r) = if c = 32 then (if ((c :: r).drop (blk (c :: r))).head? = some 10 then ([], blk (c :: r)) else (List.replicate (blk (c :: r)) 32, blk (c :: r))) else ([c], 1) := rfl
theorem readM_eq {n p : Nat} {r acc : List Nat} : readM (n + 1) (61 :: r) p acc = match eqC r with
    | .error d => .error (p + d)
    | .ok tk => readM n ((61 :: r).drop tk.2) (p + tk.2) (acc ++ tk.1) := by
  rw [readM, if_pos rfl]
  unfold eqC
  by_cases h : (r.drop (blk r)).head? = some 10
  · rw [if_pos h, if_pos h]
    show readM n (r.drop (blk r + 1)) (p + 1 + blk r + 1) acc = readM n (r.drop (blk r + 1)) (p + (blk r + 2)) (acc ++ [])
    rw [List.append_nil, show p + 1 + blk r + 1 = p + (blk r + 2) by omega]
  · rw [if_neg h, if_neg h]
    by_cases h2 : 0 < blk r
    · rw [if_pos h2, if_pos h2]
      show Except.error (p + 1 + blk r) = Except.error (p + (1 + blk r))
      rw [Nat.add_assoc]
    · rw [if_neg h2, if_neg h2]
      cases figV r with
      | none => rfl
      | some x =>
        dsimp only
        cases figV (r.drop 1) with
        | none => rfl
        | some y => rfl
theorem readM_str {n p c : Nat} {r acc : List Nat} (hc : c ≠ 61) : readM (n + 1) (c :: r) p acc = readM n ((c :: r).drop (strC (c :: r)).2) (p + (strC (c :: r)).2) (acc ++ (strC (c :: r)).1) := by
  rw [readM, if_neg hc, strC_cons]
  by_cases h : c = 32
  · rw [if_pos h, if_pos h]
    by_cases h2 : ((c :: r).drop (blk (c :: r))).head? = some 10
    · rw [if_pos h2, if_pos h2, List.append_nil]
    · rw [if_neg h2, if_neg h2]
  · rw [if_neg h, if_neg h]
    rfl
theorem blk_le (s : List Nat) : blk s ≤ s.length := by
  unfold blk
  exact (List.takeWhile_prefix (p := fun c => decide (c = 32)) (l := s)).length_le
theorem strC_k {c : Nat} {r : List Nat} : 1 ≤ (strC (c :: r)).2 ∧ (strC (c :: r)).2 ≤ (c :: r).length ∧ (strC (c :: r)).1.length ≤ (strC (c :: r)).2 := by
  have h1 := blk_le (c :: r)
  rw [strC_cons]
  by_cases h : c = 32
  · have h2 : blk (c :: r) = blk r + 1 := by rw [h]; exact blk_yes r
    rw [if_pos h]
    split
    · exact ⟨by show 1 ≤ blk (c :: r); omega, h1, by simp⟩
    · exact ⟨by show 1 ≤ blk (c :: r); omega, h1, by simp⟩
  · rw [if_neg h]
    simp
theorem eqC_k {r : List Nat} {t : List Nat} {k : Nat} (h : eqC r = .ok (t, k)) : 2 ≤ k ∧ k ≤ r.length + 1 ∧ t.length ≤ k := by
  unfold eqC at h
  split at h
  · rename_i h10
    injection h with h
    obtain ⟨rfl, rfl⟩ := Prod.mk.inj h
    have hb := blk_le r
    have : blk r < r.length := by
      rcases Nat.lt_or_ge (blk r) r.length with h | h
      · exact h
      · rw [List.drop_eq_nil_of_le h] at h10
        cases h10
    exact ⟨by omega, by omega, by simp⟩
  · split at h
    · cases h
    · cases h1 : figV r with
      | none => rw [h1] at h; cases h
      | some x =>
        rw [h1] at h
        dsimp only at h
        cases h2 : figV (r.drop 1) with
        | none => rw [h2] at h; cases h
        | some y =>
          rw [h2] at h
          injection h with h
          obtain ⟨rfl, rfl⟩ := Prod.mk.inj h
          have : 2 ≤ r.length := by
            match r, h1, h2 with
            | [], h1, _ => cases h1
            | [_], _, h2 => cases h2
            | _ :: _ :: _, _, _ => simp
          exact ⟨by omega, by omega, by simp⟩
def upC (c : Nat) : Nat := if 97 ≤ c ∧ c ≤ 122 then c - 32 else c
theorem up1 : ∀ c, c < 127 → Txt.upper (mk [c]) = mk [upC c] := by decide +kernel
theorem up0 : Txt.upper ("" : Str) = ("" : Str) := by decide +kernel
def hexIx (d : Nat) : Nat := (SXTN.cps.toList.takeWhile fun y => !decide (y = d)).length
theorem hex_up : ∀ c, c < 127 → hexV c = if upC c ∈ SXTN.cps.toList then some (hexIx (upC c)) else none := by decide +kernel
/-- a sign of a text is one of the first 127 -/
theorem sig_lt {c : Nat} (h : isSig c = true) : c < 127 := by
  unfold isSig at h
  rw [Bool.or_eq_true] at h
  rcases h with h | h
  · have := of_decide_eq_true h
    omega
  · rw [Bool.and_eq_true] at h
    have := of_decide_eq_true h.1
    omega
theorem cut1 (z : Str) {p : Nat} (h : p ≤ z.length) : cutS z (some ((p : Nat) : Int)) (some (((p : Nat) : Int) + 1)) = mk ((z.cps.toList.drop p).take 1) := by
  refine mk_eq ?_
  rw [show (((p : Nat) : Int) + 1) = ((p + 1 : Nat) : Int) from rfl, cutS_codes _ h, show p + 1 - p = 1 by omega]
section
variable {P : Program} {w : World} {K : PySem.W.Frag} {mg : Str → Option Value} {base : Heap}
def spBlanks : Sp := fun vs H Q _ => ∃ (z : Str) (b : Nat), vs = [.str z, .int (b : Nat)] ∧ z.length ≤ 10000 ∧ b ≤ z.length ∧ Q (.int ((b + blk (z.cps.toList.drop b) : Nat) : Int)) H
theorem scBlanksEnd : FnScope ["text", "begin", "end"] ["text", "begin"] (defScope sBlanksEnd) := ⟨rfl, rfl, rfl, by decide +kernel, rfl, by decide +kernel, by decide +kernel⟩
theorem r_blanks_end (A : FnAt K mg "_blanks_end" sBlanksEnd) (m_len : mg "len" = none) : Ready P w K mg base 1 "_blanks_end" ["text", "begin"] spBlanks := by
  refine ready_of A (fun _ _ _ _ _ _ us hl => match us, hl with | [_, _], _ => rfl) fun f fd F => ?_
  refine F.ok scBlanksEnd (fun vs H Q E h => ?_) (fun cdv A outer s H vs Q E hr h => ?_)
  · obtain ⟨z, b, rfl, _⟩ := h
    rfl
  · obtain ⟨z, b, rfl, hz, hb, q⟩ := h
    have sc := scBlanksEnd
    refine ⟨_, pss_cons (ps_set (i := 2) sc.nd rfl (.inl rfl) (pv 1))
      (pss_cons (ps_while PassesOwn.never (PW.pt (pw_and (pt_cmpR op_lt (pv 2) (pe_callB call_len_str (by rfl) m_len PySem.boot_len (pa_cons (pv 0) pa_nil)) (nomark _)) (pw_and1 (pt_cmpR op_eq (pe_item_str (pv 0) (pv 2) (fun _ _ => rfl)) pe_str (nomark _)))))
        (pss_one (ps_aug (i := 2) sc.nd rfl (.inl rfl) pe_int ip_add)))
      (pss_one (ps_ret (pv 2)))), ?_⟩
    have hl := len_cps z
    have e32 : (" " : Str) = ⟨#[32]⟩ := by decide +kernel
    refine ⟨_, rfl, ?_⟩
    refine ⟨fun m σ H' => ∃ e : Nat, σ = [some (.str z), some (.int (b : Nat)), some (.int (e : Nat))] ∧ H' = H ∧ e ≤ z.length ∧ m = z.length - e ∧ b + blk (z.cps.toList.drop b) = e + blk (z.cps.toList.drop e), ⟨z.length - b, b, rfl, rfl, hb, rfl, rfl⟩, fun m σ H' hW => ?_⟩
    obtain ⟨e, rfl, rfl, he, rfl, hE⟩ := hW
    refine ⟨_, rfl, _, rfl, z, rfl, Nat.le_of_lt (szl hz), _, _, rfl, rfl, _, rfl, ?_⟩
    by_cases h1 : e < z.length
    · rw [decide_eq_true (by omega : (e : Int) < (z.length : Int))]
      obtain ⟨c, hc⟩ : ∃ c, z.cps[e]? = some c := ⟨_, Array.getElem?_eq_getElem (show e < z.cps.size from h1)⟩
      have hd := drop_at (cps_at hc)
      refine iteT ⟨_, rfl, _, rfl, z, _, c, rfl, rfl, by omega, by omega, by omega, by rw [Int.toNat_natCast]; exact hc, rfl, _, rfl, ?_⟩
      rw [show decide (V.str ⟨#[c]⟩ = V.str (" " : Str)) = decide (c = 32) from sgn_is e32]
      rw [hd] at hE
      by_cases hb32 : c = 32
      · rw [decide_eq_true hb32]
        rw [hb32, blk_yes] at hE
        refine iteT ⟨fun σ' H'' => ∃ e' : Nat, σ' = [some (.str z), some (.int (b : Nat)), some (.int (e' : Nat))] ∧ H'' = H' ∧ e' = e + 1, fun σ' H'' hN => ?_, ?_⟩
        · obtain ⟨e', rfl, rfl, rfl⟩ := hN
          exact ⟨_, (by omega : z.length - (e + 1) < z.length - e), e + 1, rfl, rfl, h1, rfl, by omega⟩
        · exact ⟨_, rfl, _, _, rfl, rfl, e + 1, rfl, rfl, rfl⟩
      · rw [decide_eq_false hb32]
        rw [blk_no hb32] at hE
        refine iteF ⟨_, rfl, ?_⟩
        rw [hE] at q
        exact q
    · rw [decide_eq_false (by omega : ¬ (e : Int) < (z.length : Int))]
      refine iteF (iteF ⟨_, rfl, ?_⟩)
      rw [List.drop_eq_nil_of_le (by omega : z.cps.toList.length ≤ e)] at hE
      rw [hE] at q
      exact q
def spFigure (C : Addr) : Sp := fun vs H Q E => ∃ (z : Str) (p : Nat), vs = [.str z, .int (p : Nat)] ∧ z.length ≤ 10000 ∧ allSig z.cps.toList = true ∧ p ≤ z.length ∧ (∀ x, figV (z.cps.toList.drop p) = some x → Q (.int (x : Nat)) H) ∧ (figV (z.cps.toList.drop p) = none → Fails C "at" (p : Nat) H E)
theorem scFigureAt : FnScope ["text", "place", "figure"] ["text", "place"] (defScope sFigureAt) := ⟨rfl, rfl, rfl, by decide +kernel, rfl, by decide +kernel, by decide +kernel⟩
theorem x_figure_at {C : Addr} (MNoCode : MkFld P w K mg base "NoCode" C "at") (A : FnAt K mg "_figure_at" sFigureAt) {t1 : Tok} (m_SIXTEEN : mg "SIXTEEN" = some (.str SXTN t1)) : ReadyX P w K mg base 4 "_figure_at" ["text", "place"] (spFigure C) := by
  refine readyX_of A (fun _ _ _ _ _ _ us hl => match us, hl with | [_, _], _ => rfl) fun f fd F => ?_
  refine F.okX scFigureAt (fun vs H Q E h => ?_) (fun cdv A outer s H vs Q E hr h => ?_)
  · obtain ⟨z, p, rfl, _⟩ := h
    rfl
  · obtain ⟨z, p, rfl, hz, hsg, hp, q, qe⟩ := h
    have sc := scFigureAt
    refine ⟨_, pss_cons (ps_set (i := 2) sc.nd rfl (.inl rfl) (pe_upper (pe_slice sl_str (pv 0) (po_some (pv 1)) (po_some (pe_op op_add (pv 1) pe_int)))))
      (pss_cons (ps_if (PW.pt (pw_or (pt_cmpR op_eq (pv 2) pe_str (nomark _)) (pw_or1 (pt_cmpR op_notIn_sign (pv 2) (pe_glob (v := .str SXTN) rfl m_SIXTEEN ⟨_, rfl⟩) (by rfl)))))
        (pss_one (ps_raise rfl (takes_of rfl rfl rfl rfl) (pmk_fld MNoCode (hr.mono (by decide)) (by rfl) (pa_cons pe_str (pa_cons (pv 1) pa_nil)) [] (.inl rfl))))
        pss_nil)
      (pss_one (ps_ret (pe_bm PySem.F.plainAttrs_str PySem.F.slot_str_index PySem.F.type_str_index mt_sindex (pe_glob (v := .str SXTN) rfl m_SIXTEEN ⟨_, rfl⟩) (pa_cons (pv 2) pa_nil))))), ?_⟩
    have hl := len_cps z
    have e0 : ("" : Str) = mk [] := by decide +kernel
    refine ⟨_, rfl, _, rfl, _, rfl, _, rfl, _, _, rfl, rfl, _, rfl, z, rfl, Nat.le_of_lt (szl hz), ⟨_, rfl⟩, _, rfl, rfl, ?_, ?_⟩
    · rw [cut1 z hp, mk_len]
      have := List.length_take_le 1 (z.cps.toList.drop p)
      omega
    rw [cut1 z hp]
    cases hs : z.cps.toList.drop p with
    | nil =>
      rw [hs] at qe
      rw [show Txt.upper (mk (([] : List Nat).take 1)) = ("" : Str) from by rw [List.take_nil, ← e0, up0]]
      refine ⟨_, rfl, rfl, _, rfl, ?_⟩
      rw [decide_eq_true rfl]
      exact iteT (iteT ⟨_, rfl, mk_leaf rfl (Nat.le_refl _) (qe rfl)⟩)
    | cons c r =>
      rw [hs] at q qe
      have hc : c < 127 := sig_lt (List.all_eq_true.mp hsg c (List.mem_of_mem_drop (i := p) (by rw [hs]; exact List.mem_cons_self ..)))
      rw [show Txt.upper (mk ((c :: r).take 1)) = ⟨#[upC c]⟩ from up1 c hc]
      refine ⟨_, rfl, rfl, _, rfl, ?_⟩
      rw [decide_eq_false (show ¬ V.str ⟨#[upC c]⟩ = V.str ("" : Str) from fun y => by have := V.str.inj y; rw [e0] at this; have := congrArg (fun s => s.cps.toList) this; cases this)]
      refine iteF ⟨_, rfl, upC c, SXTN, rfl, rfl, _, rfl, ?_⟩
      have hv := hex_up c hc
      by_cases hin : upC c ∈ SXTN.cps.toList
      · rw [if_pos hin] at hv
        obtain ⟨rest, hocc⟩ := occ_one (x := SXTN) hin
        rw [decide_eq_true hin]
        exact iteF ⟨rfl, _, rfl, SXTN, _, hexIx (upC c), rest, rfl, rfl, hocc, q _ hv⟩
      · rw [if_neg hin] at hv
        rw [decide_eq_false hin]
        exact iteT ⟨_, rfl, mk_leaf rfl (Nat.le_refl _) (qe hv)⟩
/-- octets told, and the place behind -/
def Told (Q : VK) (H : Hp) (t : List Nat) (e : Nat) : Prop := ∀ H' T p, Same H H' → H T = none → H p = none → H' T = some (.tup [.ref p, .int (e : Nat)]) → H' p = some (.lst (iv t)) → Q (.ref T) H'
def spStretch : Sp := fun vs H Q _ => ∃ (z : Str) (b c : Nat) (r : List Nat), vs = [.str z, .int (b : Nat)] ∧ z.length ≤ 10000 ∧ z.cps.toList.drop b = c :: r ∧ Told Q H (strC (c :: r)).1 (b + (strC (c :: r)).2)
theorem scReadStretch : FnScope ["text", "begin", "end"] ["text", "begin"] (defScope sReadStretch) := ⟨rfl, rfl, rfl, by decide +kernel, rfl, by decide +kernel, by decide +kernel⟩
theorem lt_of_drop {l : List Nat} {b c : Nat} {r : List Nat} (h : l.drop b = c :: r) : b < l.length ∧ l[b]? = some c := by
  have hb : b < l.length := by
    rcases Nat.lt_or_ge b l.length with h1 | h1
    · exact h1
    · rw [List.drop_eq_nil_of_le h1] at h
      cases h
  rw [List.drop_eq_getElem_cons hb] at h
  injection h with h1 h2
  exact ⟨hb, by rw [List.getElem?_eq_getElem hb, h1]⟩
theorem one_is {l : List Nat} (h : l.length ≤ 1) {d : Nat} : decide (V.str (mk l) = V.str ⟨#[d]⟩) = decide (l.head? = some d) := by
  match l, h with
  | [], _ =>
    rw [decide_eq_false (show ¬ V.str (mk []) = V.str ⟨#[d]⟩ from fun y => by have := V.str.inj y; have := congrArg (fun s => s.cps.toList) this; cases this)]
    simp
  | [c], _ =>
    rw [show decide (V.str (mk [c]) = V.str ⟨#[d]⟩) = decide (c = d) from sgn_is rfl]
    by_cases e : c = d
    · rw [decide_eq_true e, e]
      simp
    · rw [decide_eq_false e]
      simp [e]
theorem head_take (l : List Nat) : (l.take 1).head? = l.head? := by
  cases l <;> rfl
theorem r_read_stretch (A : FnAt K mg "_read_stretch" sReadStretch) (R1 : Ready P w K mg base 1 "_blanks_end" ["text", "begin"] spBlanks) (m_ord : mg "ord" = none) {t1 : Tok} (m_BLANK : mg "BLANK" = some (.int 32 t1)) : Ready P w K mg base 2 "_read_stretch" ["text", "begin"] spStretch := by
  obtain ⟨f1, fd1, g1, k1, b1, G1⟩ := R1
  refine ready_of A (fun _ _ _ _ _ _ us hl => match us, hl with | [_, _], _ => rfl) fun f fd F => ?_
  refine F.ok scReadStretch (fun vs H Q E h => ?_) (fun cdv A outer s H vs Q E hr h => ?_)
  · obtain ⟨z, b, c, r, rfl, _⟩ := h
    rfl
  · obtain ⟨z, b, c, r, rfl, hz, hd, q⟩ := h
    have sc := scReadStretch
    refine ⟨_, pss_cons (ps_set (i := 2) sc.nd rfl (.inl rfl) (pe_call G1 (hr.mono (by decide)) (by rfl) g1 k1 b1 .nil pass0 (pa_cons (pv 0) (pa_cons (pv 1) pa_nil))))
      (pss_cons (ps_if (pt_cmpR op_eq (pv 2) (pv 1) (nomark _))
        (pss_one (ps_ret (pe_tup (pa_cons (pe_lst (pa_cons (pe_callB call_ord (by rfl) m_ord (by decide +kernel) (pa_cons (pe_item_str (pv 0) (pv 1) (fun _ _ => rfl)) pa_nil)) pa_nil)) (pa_cons (pe_op op_add (pv 1) pe_int) pa_nil)))))
        pss_nil)
      (pss_cons (ps_if (pt_cmpR op_eq (pe_slice sl_str (pv 0) (po_some (pv 2)) (po_some (pe_op op_add (pv 2) pe_int))) pe_str (nomark _))
        (pss_one (ps_ret (pe_tup (pa_cons (pe_lst pa_nil) (pa_cons (pv 2) pa_nil)))))
        pss_nil)
      (pss_one (ps_ret (pe_tup (pa_cons (pe_op op_rep (pe_lst (pa_cons (pe_glob (v := .int 32) rfl m_BLANK ⟨_, rfl⟩) pa_nil)) (pe_op op_sub (pv 2) (pv 1))) (pa_cons (pv 2) pa_nil))))))), ?_⟩
    have hl := len_cps z
    obtain ⟨hbl, hbc⟩ := lt_of_drop hd
    rw [hl] at hbl
    have hcc : z.cps[b]? = some c := by
      have := hbc
      rw [Array.getElem?_toList] at this
      exact this
    have eLF : ("\n" : Str) = ⟨#[10]⟩ := by decide +kernel
    refine ⟨_, rfl, _, rfl, z, b, rfl, hz, by omega, ?_⟩
    rw [hd]
    have hbk := blk_le (c :: r)
    have hlen : (c :: r).length = z.length - b := by rw [← hd, List.length_drop, hl]
    have eqi : ∀ (x : Nat) (y : Nat), decide (V.int (x : Nat) = V.int ((y : Nat) : Int)) = decide (x = y) := fun x y => by
      by_cases e : x = y
      · rw [e, decide_eq_true rfl, decide_eq_true rfl]
      · rw [decide_eq_false e, decide_eq_false (fun z => e (by have := V.int.inj z; omega))]
    refine ⟨_, rfl, _, rfl, rfl, _, rfl, ?_⟩
    rw [eqi]
    by_cases h32 : c = 32
    · have hk : blk (c :: r) = blk r + 1 := by rw [h32]; exact blk_yes r
      rw [decide_eq_false (show ¬ b + blk (c :: r) = b by omega)]
      rw [strC_cons] at q
      rw [if_pos h32] at q
      refine iteF ?_
      refine ⟨_, rfl, _, rfl, _, rfl, _, rfl, _, _, rfl, rfl, _, rfl, z, rfl, Nat.le_of_lt (szl hz), rfl, _, rfl, ?_⟩
      have hdd : z.cps.toList.drop (b + blk (c :: r)) = (c :: r).drop (blk (c :: r)) := by rw [← hd, List.drop_drop]
      rw [show (cutS z (some ((b + blk (c :: r) : Nat) : Int)) (some (((b + blk (c :: r) : Nat) : Int) + 1))) = mk ((z.cps.toList.drop (b + blk (c :: r))).take 1) from cut1 z (by omega), hdd]
      rw [eLF, one_is (List.length_take_le _ _), head_take]
      by_cases h10 : ((c :: r).drop (blk (c :: r))).head? = some 10
      · rw [decide_eq_true h10]
        rw [if_pos h10] at q
        refine iteT ⟨(by show 0 ≤ sizeLine; decide), fun p np => ⟨_, rfl, (by show 2 ≤ sizeLine; decide), fun T nT => ?_⟩⟩
        have s1 : Same H (upd H p (.lst [])) := same_new np
        exact q _ T p (s1.trans (same_new nT)) (Same.free s1 nT) np upd_same (kn upd_same nT)
      · rw [decide_eq_false h10]
        rw [if_neg h10] at q
        refine iteF ⟨(by show 1 ≤ sizeLine; decide), fun p np => ⟨_, rfl, _, rfl, _, _, rfl, rfl, ?_⟩⟩
        refine ⟨p, ((blk (c :: r) : Nat) : Int), _, rfl, congrArg V.int (show ((b + blk (c :: r) : Nat) : Int) - ((b : Nat) : Int) = _ by omega), upd_same, by omega, by omega, by show 1 * ((blk (c :: r) : Nat) : Int).toNat ≤ sizeLine; rw [sizeLine_eq]; omega, fun p2 np2 => ?_⟩
        have erep : (List.replicate ((blk (c :: r) : Nat) : Int).toNat [V.int 32]).flatten = iv (List.replicate (blk (c :: r)) 32) := by
          rw [Int.toNat_natCast]
          generalize blk (c :: r) = k
          induction k with
          | zero => rfl
          | succ k ih =>
            rw [List.replicate_succ, List.flatten_cons, ih, List.replicate_succ]
            rfl
        rw [erep]
        refine ⟨_, rfl, (by show 2 ≤ sizeLine; decide), fun T nT => ?_⟩
        have s1 : Same H (upd (upd H p (.lst [.int 32])) p2 (.lst (iv (List.replicate (blk (c :: r)) 32)))) := (same_new np).trans (same_new np2)
        exact q _ T p2 (s1.trans (same_new nT)) (Same.free s1 nT) (Same.free (same_new np) np2) upd_same (kn upd_same nT)
    · have hk : blk (c :: r) = 0 := blk_no h32
      rw [decide_eq_true (show b + blk (c :: r) = b by omega)]
      rw [strC_cons] at q
      rw [if_neg h32] at q
      refine iteT ⟨_, rfl, _, rfl, z, _, c, rfl, rfl, by omega, by omega, by omega, by rw [Int.toNat_natCast]; exact hcc, ?_⟩
      refine ⟨_, rfl, rfl, (by show 1 ≤ sizeLine; decide), fun p np => ⟨_, rfl, _, _, rfl, rfl, (by show 2 ≤ sizeLine; decide), fun T nT => ?_⟩⟩
      have s1 := same_new (o := .lst [.int (c : Nat)]) np
      exact q _ T p (s1.trans (same_new nT)) (Same.free s1 nT) np upd_same (kn upd_same nT)
def spEquals (C : Addr) : Sp := fun vs H Q E => ∃ (z : Str) (b : Nat) (r : List Nat), vs = [.str z, .int (b : Nat)] ∧ z.length ≤ 10000 ∧ allSig z.cps.toList = true ∧ z.cps.toList.drop b = 61 :: r ∧ (∀ t k, eqC r = .ok (t, k) → Told Q H t (b + k)) ∧ (∀ d : Nat, eqC r = .error d → Fails C "at" ((b + d : Nat) : Int) H E)
theorem scReadEquals : FnScope ["text", "begin", "end"] ["text", "begin"] (defScope sReadEquals) := ⟨rfl, rfl, rfl, by decide +kernel, rfl, by decide +kernel, by decide +kernel⟩
theorem x_read_equals {C : Addr} (MNoCode : MkFld P w K mg base "NoCode" C "at") (A : FnAt K mg "_read_equals" sReadEquals) (R1 : Ready P w K mg base 1 "_blanks_end" ["text", "begin"] spBlanks) (R2 : ReadyX P w K mg base 4 "_figure_at" ["text", "place"] (spFigure C)) :
    ReadyX P w K mg base 5 "_read_equals" ["text", "begin"] (spEquals C) := by
  obtain ⟨f1, fd1, g1, k1, b1, G1⟩ := R1
  obtain ⟨f2, fd2, g2, k2, b2, G2⟩ := R2
  refine readyX_of A (fun _ _ _ _ _ _ us hl => match us, hl with | [_, _], _ => rfl) fun f fd F => ?_
  refine F.okX scReadEquals (fun vs H Q E h => ?_) (fun cdv A outer s H vs Q E hr h => ?_)
  · obtain ⟨z, b, r, rfl, _⟩ := h
    rfl
  · obtain ⟨z, b, r, rfl, hz, hsg, hd, q, qe⟩ := h
    have sc := scReadEquals
    refine ⟨_, pss_cons (ps_set (i := 2) sc.nd rfl (.inl rfl) (pe_call G1 (hr.mono (by decide)) (by rfl) g1 k1 b1 .nil pass0 (pa_cons (pv 0) (pa_cons (pe_op op_add (pv 1) pe_int) pa_nil))))
      (pss_cons (ps_if (pt_cmpR op_eq (pe_slice sl_str (pv 0) (po_some (pv 2)) (po_some (pe_op op_add (pv 2) pe_int))) pe_str (nomark _))
        (pss_one (ps_ret (pe_tup (pa_cons (pe_lst pa_nil) (pa_cons (pe_op op_add (pv 2) pe_int) pa_nil)))))
        pss_nil)
      (pss_cons (ps_if (pt_cmpR op_gt (pv 2) (pe_op op_add (pv 1) pe_int) (nomark _))
        (pss_one (ps_raise rfl (takes_of rfl rfl rfl rfl) (pmk_fld MNoCode (hr.mono (by decide)) (by rfl) (pa_cons pe_str (pa_cons (pv 2) pa_nil)) [] (.inl rfl))))
        pss_nil)
      (pss_one (ps_ret (pe_tup (pa_cons (pe_lst (pa_cons (pe_op op_add (pe_op op_mul pe_int (pe_call G2 (hr.mono (by decide)) (by rfl) g2 k2 b2 .nil (E := E) (passes_call (takes_of rfl rfl rfl rfl) (fun _ _ _ _ h => h)) (pa_cons (pv 0) (pa_cons (pe_op op_add (pv 1) pe_int) pa_nil)))) (pe_call G2 (hr.mono (by decide)) (by rfl) g2 k2 b2 .nil (E := E) (passes_call (takes_of rfl rfl rfl rfl) (fun _ _ _ _ h => h)) (pa_cons (pv 0) (pa_cons (pe_op op_add (pv 1) pe_int) pa_nil)))) pa_nil)) (pa_cons (pe_op op_add (pv 1) pe_int) pa_nil))))))), ?_⟩
    have hl := len_cps z
    obtain ⟨hbl, hbc⟩ := lt_of_drop hd
    rw [hl] at hbl
    have eLF : ("\n" : Str) = ⟨#[10]⟩ := by decide +kernel
    have hd1 : z.cps.toList.drop (b + 1) = r := by rw [← List.drop_drop, hd]; rfl
    have hrl : r.length = z.length - (b + 1) := by rw [← hd1, List.length_drop, hl]
    have hbk := blk_le r
    refine ⟨_, rfl, _, rfl, _, _, rfl, rfl, z, b + 1, rfl, hz, by omega, ?_⟩
    rw [hd1]
    unfold eqC at q qe
    refine ⟨_, rfl, _, rfl, _, rfl, _, rfl, _, _, rfl, rfl, _, rfl, z, rfl, Nat.le_of_lt (szl hz), rfl, _, rfl, ?_⟩
    have hdd : z.cps.toList.drop (b + 1 + blk r) = r.drop (blk r) := by rw [← hd1, List.drop_drop]
    rw [show (cutS z (some ((b + 1 + blk r : Nat) : Int)) (some (((b + 1 + blk r : Nat) : Int) + 1))) = mk ((z.cps.toList.drop (b + 1 + blk r)).take 1) from cut1 z (by omega), hdd]
    rw [eLF, one_is (List.length_take_le _ _), head_take]
    by_cases h10 : (r.drop (blk r)).head? = some 10
    · rw [decide_eq_true h10]
      rw [if_pos h10] at q
      have q := q _ _ rfl
      refine iteT ⟨(by show 0 ≤ sizeLine; decide), fun p np => ⟨_, rfl, _, _, rfl, rfl, (by show 2 ≤ sizeLine; decide), fun T nT => ?_⟩⟩
      have s1 : Same H (upd H p (.lst [])) := same_new np
      refine q _ T p (s1.trans (same_new nT)) (Same.free s1 nT) np ?_ (kn upd_same nT)
      rw [upd_same]
      show some (HO.tup [V.ref p, V.int (((b + 1 + blk r : Nat) : Int) + 1)]) = some (.tup [.ref p, .int ((b + (blk r + 2) : Nat) : Int)])
      rw [show (((b + 1 + blk r : Nat) : Int) + 1) = ((b + (blk r + 2) : Nat) : Int) by omega]
    rw [decide_eq_false h10]
    rw [if_neg h10] at q qe
    refine iteF ⟨_, rfl, _, rfl, _, _, rfl, rfl, _, _, rfl, rfl, _, rfl, ?_⟩
    by_cases hk : 0 < blk r
    · rw [if_pos hk] at qe
      rw [decide_eq_true (show ((b + 1 + blk r : Nat) : Int) > ((b : Nat) : Int) + 1 by omega)]
      have hf := qe _ rfl
      rw [show b + (1 + blk r) = b + 1 + blk r by omega] at hf
      exact iteT ⟨_, rfl, mk_leaf rfl (Nat.le_refl _) hf⟩
    rw [decide_eq_false (show ¬ ((b + 1 + blk r : Nat) : Int) > ((b : Nat) : Int) + 1 by omega)]
    rw [if_neg hk] at q qe
    refine iteF ⟨_, rfl, _, rfl, _, _, rfl, rfl, z, b + 1, rfl, hz, hsg, by omega, fun x hx => ?_, fun hx => ?_⟩
    · rw [hd1] at hx
      rw [hx] at q qe
      dsimp only at q qe
      have hr1 : 1 ≤ r.length := by
        cases r with
        | nil => cases hx
        | cons a b => simp
      have hd2 : z.cps.toList.drop (b + 2) = r.drop 1 := by rw [← hd1, List.drop_drop]
      refine ⟨_, _, rfl, rfl, .inl ⟨by decide, by decide⟩, _, rfl, _, rfl, _, _, rfl, rfl, z, b + 2, rfl, hz, hsg, by omega, fun y hy => ?_, fun hy => ?_⟩
      · rw [hd2] at hy
        rw [hy] at q
        have q := q _ _ rfl
        refine ⟨_, _, rfl, rfl, (by show 1 ≤ sizeLine; decide), fun p np => ⟨_, rfl, _, _, rfl, rfl, (by show 2 ≤ sizeLine; decide), fun T nT => ?_⟩⟩
        have s1 := same_new (o := .lst [.int ((16 * x + y : Nat) : Int)]) np
        exact q _ T p (s1.trans (same_new nT)) (Same.free s1 nT) np upd_same (kn upd_same nT)
      · rw [hd2] at hy
        rw [hy] at qe
        exact qe _ rfl
    · rw [hd1] at hx
      rw [hx] at qe
      exact qe _ rfl
theorem scReadMarks : FnScope ["text", "octets", "place", "told"] ["text"] (defScope sReadMarks) := ⟨rfl, rfl, rfl, by decide +kernel, rfl, by decide +kernel, by decide +kernel⟩
theorem x_read_marks {C : Addr} (A : FnAt K mg "_read_marks" sReadMarks) (R1 : ReadyX P w K mg base 5 "_read_equals" ["text", "begin"] (spEquals C)) (R2 : Ready P w K mg base 2 "_read_stretch" ["text", "begin"] spStretch) (m_len : mg "len" = none) : ReadyX P w K mg base 6 "_read_marks" ["text"] (spRdC C readMk) := by
  obtain ⟨f1, fd1, g1, k1, b1, G1⟩ := R1
  obtain ⟨f2, fd2, g2, k2, b2, G2⟩ := R2
  refine readyX_of A (fun _ _ _ _ _ _ us hl => match us, hl with | [_], _ => rfl) fun f fd F => ?_
  refine F.okX scReadMarks (fun vs H Q E h => ?_) (fun cdv A outer s H vs Q E hr h => ?_)
  · obtain ⟨z, rfl, _⟩ := h
    rfl
  · obtain ⟨z, rfl, hz, hsg, q, qe⟩ := h
    have sc := scReadMarks
    refine ⟨_, pss_cons (ps_set (i := 1) sc.nd rfl (.inl rfl) (pe_lst pa_nil))
      (pss_cons (ps_set (i := 2) sc.nd rfl (.inl rfl) pe_int)
      (pss_cons (ps_while (passes_of rfl) (pt_cmpR op_lt (pv 2) (pe_callB call_len_str (by rfl) m_len PySem.boot_len (pa_cons (pv 0) pa_nil)) (nomark _))
        (pss_cons (ps_if (pt_cmpR op_eq (pe_item_str (pv 0) (pv 2) (fun _ _ => rfl)) pe_str (nomark _))
            (pss_one (ps_asg (pe_call G1 (hr.mono (by decide)) (by rfl) g1 k1 b1 .nil (E := E) (passes_call (takes_of rfl rfl rfl rfl) (fun _ _ _ _ h => h)) (pa_cons (pv 0) (pa_cons (pv 2) pa_nil))) (pg_tup rfl (pgs_cons (pg_name (i := 3) sc.nd rfl (.inl rfl)) (pgs_cons (pg_name (i := 2) sc.nd rfl (.inl rfl)) pgs_nil)))))
            (pss_one (ps_asg (pe_call G2 (hr.mono (by decide)) (by rfl) g2 k2 b2 .nil pass0 (pa_cons (pv 0) (pa_cons (pv 2) pa_nil))) (pg_tup rfl (pgs_cons (pg_name (i := 3) sc.nd rfl (.inl rfl)) (pgs_cons (pg_name (i := 2) sc.nd rfl (.inl rfl)) pgs_nil))))))
          (pss_one (ps_expr (pe_bm PySem.F.plainAttrs_list PySem.F.slot_list_extend PySem.F.type_list_extend mt_extend (pv 1) (pa_cons (pv 3) pa_nil))))))
      (pss_one (ps_ret (pv 1))))), ?_⟩
    have hl := len_cps z
    have e61 : ("=" : Str) = ⟨#[61]⟩ := by decide +kernel
    obtain ⟨R, hR⟩ : ∃ R, R = readMk z.cps.toList := ⟨_, rfl⟩
    refine ⟨(by show 0 ≤ sizeLine; decide), fun po npo => ?_⟩
    refine ⟨fun m σ H' => ∃ (p n : Nat) (acc : List Nat) (y3 : Option V), σ = [some (.str z), some (.ref po), some (.int (p : Nat)), y3] ∧ Same H H' ∧ H' po = some (.lst (iv acc)) ∧ p ≤ z.length ∧ acc.length ≤ p ∧ m = z.length - p ∧ z.length - p ≤ n ∧ readM n (z.cps.toList.drop p) p acc = R,
      ⟨z.length, 0, z.length, [], none, rfl, same_new npo, upd_same, Nat.zero_le _, Nat.le_refl _, rfl, by omega, by rw [hR, ← hl]; rfl⟩, fun m σ H' hW => ?_⟩
    obtain ⟨p, n, acc, y3, rfl, sm, hpo, hp, hacc, rfl, hn, hrd⟩ := hW
    refine ⟨_, rfl, _, rfl, z, rfl, Nat.le_of_lt (szl hz), _, _, rfl, rfl, _, rfl, ?_⟩
    by_cases h1 : p < z.length
    · rw [decide_eq_true (by omega : (p : Int) < (z.length : Int))]
      obtain ⟨c, hc⟩ : ∃ c, z.cps[p]? = some c := ⟨_, Array.getElem?_eq_getElem (show p < z.cps.size from h1)⟩
      have hd := drop_at (cps_at hc)
      generalize hr0 : z.cps.toList.drop (p + 1) = r at hd
      rw [hd] at hrd
      have hcrl : (c :: r).length = z.length - p := by rw [← hd, List.length_drop, hl]
      match n, hn with
      | 0, hn => omega
      | n + 1, hn =>
      refine iteT ⟨fun σ' H'' => ∃ (p' n' : Nat) (acc' : List Nat) (y3 : Option V), σ' = [some (.str z), some (.ref po), some (.int (p' : Nat)), y3] ∧ Same H H'' ∧ H'' po = some (.lst (iv acc')) ∧ p' ≤ z.length ∧ acc'.length ≤ p' ∧ p < p' ∧ z.length - p' ≤ n' ∧ readM n' (z.cps.toList.drop p') p' acc' = R, fun σ' H'' hN => ?_, ?_⟩
      · obtain ⟨p', n', acc', y3', rfl, a1, a2, a3, a4, a5, a6, a7⟩ := hN
        exact ⟨z.length - p', by omega, p', n', acc', y3', rfl, a1, a2, a3, a4, rfl, a6, a7⟩
      · -- what is told, then put to the rest
        refine ⟨_, rfl, _, rfl, z, _, c, rfl, rfl, by omega, by omega, by omega, by rw [Int.toNat_natCast]; exact hc, rfl, _, rfl, ?_⟩
        rw [show decide (V.str ⟨#[c]⟩ = V.str ("=" : Str)) = decide (c = 61) from sgn_is e61]
        by_cases h61 : c = 61
        · rw [decide_eq_true h61]
          subst h61
          rw [readM_eq] at hrd
          refine iteT ⟨_, rfl, _, rfl, z, p, r, rfl, hz, hsg, hd, fun t k hk H2 T tp s2 nT ntp hT htp => ?_, fun d hdd => ?_⟩
          · rw [hk] at hrd
            dsimp only at hrd
            obtain ⟨e1, e2, e3⟩ := eqC_k hk
            refine ⟨T, _, rfl, SqT.of hT, rfl, _, _, rfl, _, _, rfl, rfl, ?_⟩
            have hrl : (61 :: r).length = r.length + 1 := rfl
            have hpo2 := s2 _ _ hpo
            refine ⟨_, rfl, .inl ⟨rfl, _, SqL.of hpo2⟩, _, rfl, po, tp, _, _, rfl, rfl, hpo2, htp, by rw [iv_len, iv_len, sizeLine_eq]; omega, ?_⟩
            refine ⟨p + k, n, acc ++ t, _, rfl, same_set (sm.trans s2) npo, by rw [upd_same, iv_app], by omega, by rw [List.length_append]; omega, by omega, by omega, ?_⟩
            rw [← List.drop_drop, hd]
            exact hrd
          · rw [hdd] at hrd
            exact Fails.later (qe _ (by rw [← hR, ← hrd])) sm
        · rw [decide_eq_false h61]
          rw [readM_str h61] at hrd
          obtain ⟨e1, e2, e3⟩ := strC_k (c := c) (r := r)
          refine iteF ⟨_, rfl, _, rfl, z, p, c, r, rfl, hz, hd, fun H2 T tp s2 nT ntp hT htp => ?_⟩
          refine ⟨T, _, rfl, SqT.of hT, rfl, _, _, rfl, _, _, rfl, rfl, ?_⟩
          generalize strC (c :: r) = tk at e1 e2 e3 hrd hT htp ⊢
          obtain ⟨t, k⟩ := tk
          dsimp only at e1 e2 e3 hrd hT htp
          have hpo2 := s2 _ _ hpo
          refine ⟨_, rfl, .inl ⟨rfl, _, SqL.of hpo2⟩, _, rfl, po, tp, _, _, rfl, rfl, hpo2, htp, by rw [iv_len, iv_len, sizeLine_eq]; omega, ?_⟩
          refine ⟨p + k, n, acc ++ t, _, rfl, same_set (sm.trans s2) npo, by rw [upd_same, iv_app], by omega, by rw [List.length_append]; omega, by omega, by omega, ?_⟩
          rw [← List.drop_drop, hd]
          exact hrd
    · rw [decide_eq_false (by omega : ¬ (p : Int) < (z.length : Int))]
      rw [List.drop_eq_nil_of_le (by omega : z.cps.toList.length ≤ p), readM_nil] at hrd
      exact iteF ⟨_, rfl, q acc (by rw [← hR, ← hrd]) _ po sm npo hpo⟩
end
end FL


namespace FL
open PySem PySem.Spec PyProof.Rows L2
/-! ### the three codes side by side -/
inductive Cd where
  | pl
  | sx
  | mr
def Cd.word : Cd → Str
  | .pl => "plain"
  | .sx => "sixes"
  | .mr => "marks"
def Cd.wr : Cd → List Nat → List Nat
  | .pl => id
  | .sx => lines6
  | .mr => marksL
def Cd.can : Cd → List Nat → Bool
  | .pl => plainB
  | .sx => fun _ => true
  | .mr => fun _ => true
def Cd.rd : Cd → RdC
  | .pl => rdP
  | .sx => read6
  | .mr => readMk
theorem Cd.len (c : Cd) (l : List Nat) : (c.wr l).length ≤ 5 * l.length + 150 := by
  cases c with
  | pl =>
    show l.length ≤ _
    omega
  | sx =>
    have := lines6_len l
    show (lines6 l).length ≤ _
    omega
  | mr =>
    have := tailM_len l 0
    show (tailM l 0).length ≤ _
    omega
theorem Cd.sig (c : Cd) {l : List Nat} (hb : ∀ x ∈ l, x < 256) (h : c.can l = true) : allSig (c.wr l) = true := by
  cases c with
  | pl => exact plain_sig h
  | sx => exact lines6_sig hb
  | mr => exact List.all_eq_true.mpr (tailM_sig l 0 hb)
theorem readByP' {l : List Nat} (h : plainB l = true) : readBy rdP l = .ok l := by
  unfold readBy rdP
  dsimp only
  rcases plainR_last l 0 h with e | e
  · rw [if_neg (fun z => z.1 e)]
  · rw [if_neg (fun z => z.2 e)]
theorem Cd.back (c : Cd) {l : List Nat} (hb : ∀ x ∈ l, x < 256) (h : c.can l = true) : readBy c.rd (c.wr l) = .ok l := by
  cases c with
  | pl => exact readByP' h
  | sx => exact readBy6 hb
  | mr => exact readByM hb
/-! the texts' lines -/
theorem six_no10 : ∀ n, n < 64 → six n ≠ 10 := fun n h => (six_mem n h).2.2.1
theorem four_no10 {l : List Nat} (hb : ∀ x ∈ l, x < 256) : 10 ∉ FL.four l := by
  match l, hb with
  | [], _ => simp [FL.four]
  | [a], hb =>
    have := hb a (by simp)
    intro hc
    simp [FL.four] at hc
    rcases hc with hc | hc
    · exact six_no10 _ (by omega) hc.symm
    · exact six_no10 _ (by omega) hc.symm
  | [a, b], hb =>
    have := hb a (by simp)
    have := hb b (by simp)
    intro hc
    simp [FL.four] at hc
    rcases hc with hc | hc | hc
    · exact six_no10 _ (by omega) hc.symm
    · exact six_no10 _ (by omega) hc.symm
    · exact six_no10 _ (by omega) hc.symm
  | [a, b, d], hb =>
    have := hb a (by simp)
    have := hb b (by simp)
    have := hb d (by simp)
    intro hc
    simp [FL.four] at hc
    rcases hc with hc | hc | hc | hc
    · exact six_no10 _ (by omega) hc.symm
    · exact six_no10 _ (by omega) hc.symm
    · exact six_no10 _ (by omega) hc.symm
    · exact six_no10 _ (by omega) hc.symm
  | a :: b :: d :: e :: r, _ => simp [FL.four]
theorem sixC_no10 : ∀ (n : Nat) (l : List Nat), l.length ≤ n → (∀ x ∈ l, x < 256) → 10 ∉ sixC l
  | n, [], _, _ => by simp [sixC]
  | 0, a :: r, h, _ => by simp at h
  | n + 1, a :: r, h, hb => by
    rw [sixC_step (by simp)]
    intro hc
    rcases List.mem_append.mp hc with hc | hc
    · exact four_no10 (fun x hx => hb x (List.mem_of_mem_take hx)) hc
    · exact sixC_no10 n _ (by rw [List.length_drop]; simp at h ⊢; omega) (fun x hx => hb x (List.mem_of_mem_drop hx)) hc
def LinesOk (s : List Nat) : Prop := ∃ p ps, s = TL.joinL [10] (p :: ps) ∧ ∀ q ∈ p :: ps, q.length ≤ 72 ∧ 10 ∉ q
theorem linesX_ok : ∀ (n : Nat) (s : List Nat), s.length ≤ n → 10 ∉ s → LinesOk (linesX s)
  | _, [], _, _ => ⟨[], [], rfl, fun q hq => by rw [List.mem_singleton.mp hq]; exact ⟨by decide, by simp⟩⟩
  | 0, a :: r, h, _ => by simp at h
  | n + 1, a :: r, h, hn => by
    rw [linesX_step (by simp)]
    obtain ⟨p, ps, e, ok⟩ := linesX_ok n ((a :: r).drop 72) (by rw [List.length_drop]; simp at h ⊢; omega) (fun z => hn (List.mem_of_mem_drop z))
    refine ⟨(a :: r).take 72, p :: ps, ?_, fun q hq => ?_⟩
    · rw [e]
      show _ = (a :: r).take 72 ++ ([10] ++ TL.joinL [10] (p :: ps))
      rw [List.append_assoc]
    · rcases List.mem_cons.mp hq with rfl | hq
      · exact ⟨List.length_take_le _ _, fun z => hn (List.mem_of_mem_take z)⟩
      · exact ok q hq
theorem plainR_lines : ∀ (l : List Nat) (n : Nat), n ≤ 72 → plainR l n = true → ∃ p ps, l = TL.joinL [10] (p :: ps) ∧ (n + p.length ≤ 72 ∧ 10 ∉ p) ∧ ∀ q ∈ ps, q.length ≤ 72 ∧ 10 ∉ q
  | [], n, hn, _ => ⟨[], [], rfl, ⟨by simpa using hn, by simp⟩, fun q hq => by cases hq⟩
  | o :: r, n, hn, h => by
    unfold plainR at h
    by_cases ho : o = 10
    · rw [if_pos ho] at h
      obtain ⟨p, ps, e, h1, h2⟩ := plainR_lines r 0 (by decide) h
      refine ⟨[], p :: ps, by rw [ho, e]; rfl, ⟨by simpa using hn, by simp⟩, fun q hq => ?_⟩
      rcases List.mem_cons.mp hq with rfl | hq
      · exact ⟨by omega, h1.2⟩
      · exact h2 q hq
    · rw [if_neg ho] at h
      by_cases hc : n + 1 ≤ 72 ∧ numb o = true
      · rw [if_pos hc] at h
        obtain ⟨p, ps, e, h1, h2⟩ := plainR_lines r (n + 1) hc.1 h
        refine ⟨o :: p, ps, ?_, ⟨by rw [List.length_cons]; omega, fun z => ?_⟩, h2⟩
        · rw [e]
          cases ps <;> simp [TL.joinL]
        · rcases List.mem_cons.mp z with z | z
          · exact ho z.symm
          · exact h1.2 z
      · rw [if_neg hc] at h
        cases h
theorem Cd.lines (c : Cd) {l : List Nat} (hb : ∀ x ∈ l, x < 256) (h : c.can l = true) : LinesOk (c.wr l) := by
  cases c with
  | pl =>
    obtain ⟨p, ps, e, h1, h2⟩ := plainR_lines l 0 (by decide) h
    refine ⟨p, ps, e, fun q hq => ?_⟩
    rcases List.mem_cons.mp hq with rfl | hq
    · exact ⟨by omega, h1.2⟩
    · exact h2 q hq
  | sx => exact linesX_ok _ _ (Nat.le_refl _) (sixC_no10 _ l (Nat.le_refl _) hb)
  | mr =>
    obtain ⟨p, ps, e1, e2, e3, e4⟩ := tailM_lines l 0 hb (by decide)
    refine ⟨p, ps, e1, fun q hq => ?_⟩
    rcases List.mem_cons.mp hq with rfl | hq
    · exact ⟨by omega, e3⟩
    · exact e4 q hq
theorem sixC_ne {l : List Nat} (h : l ≠ []) : sixC l ≠ [] := by
  intro z
  rw [sixC_step h] at z
  have := (List.append_eq_nil_iff.mp z).1
  match l, h with
  | [a], _ => simp [FL.four] at this
  | [a, b], _ => simp [FL.four] at this
  | a :: b :: d :: r, _ => simp [FL.four] at this
theorem Cd.last (c : Cd) {l : List Nat} (h : c.can l = true) (hn : l ≠ []) : (c.wr l).getLast? = some 10 := by
  cases c with
  | pl => exact (plainR_last l 0 h).resolve_left hn
  | sx => exact linesX_last _ _ (Nat.le_refl _) (sixC_ne hn)
  | mr => exact tailM_last l 0 (.inl hn)
theorem Cd.nil (c : Cd) : c.wr [] = [] := by cases c <;> rfl
theorem Cd.ne (c : Cd) {l : List Nat} (h : c.can l = true) (hn : l ≠ []) : c.wr l ≠ [] := fun z => by
  have := c.last h hn
  rw [z] at this
  cases this
/-- no two rows are written alike -/
theorem Cd.inj (c : Cd) {l m : List Nat} (hl : ∀ x ∈ l, x < 256) (hm : ∀ x ∈ m, x < 256) (kl : c.can l = true) (km : c.can m = true) (h : c.wr l = c.wr m) : l = m := by
  have h1 := c.back hl kl
  rw [h, c.back hm km] at h1
  injection h1 with h1
  exact h1.symm
/-! what is read are octets -/
theorem o4n_lt {four : List Nat} (h4 : four.length ≤ 4) (h : ∀ s ∈ four, s < 64) : o4n four < 16777216 := by
  unfold o4n
  match four, h4, h with
  | [], _, _ => decide
  | [a], _, h =>
    have := h a (by simp)
    show 64 * (64 * (64 * (64 * 0 + a) + 0) + 0) + 0 < _
    omega
  | [a, b], _, h =>
    have := h a (by simp)
    have := h b (by simp)
    show 64 * (64 * (64 * (64 * 0 + a) + b) + 0) + 0 < _
    omega
  | [a, b, c], _, h =>
    have := h a (by simp)
    have := h b (by simp)
    have := h c (by simp)
    show 64 * (64 * (64 * (64 * 0 + a) + b) + c) + 0 < _
    omega
  | [a, b, c, d], _, h =>
    have := h a (by simp)
    have := h b (by simp)
    have := h c (by simp)
    have := h d (by simp)
    show 64 * (64 * (64 * (64 * 0 + a) + b) + c) + d < _
    omega
  | _ :: _ :: _ :: _ :: _ :: _, h4, _ => simp at h4
theorem o4_lt {four : List Nat} (h4 : four.length ≤ 4) (h : ∀ s ∈ four, s < 64) : ∀ n ∈ o4 four, n < 256 := by
  have := o4n_lt h4 h
  intro n hn
  unfold o4 at hn
  have hn := List.mem_of_mem_take hn
  simp only [List.mem_cons, List.not_mem_nil, or_false] at hn
  omega
theorem run6_oct : ∀ (l : List Nat) (p i : Nat) (st st' : St6), Ok6 st i → (∀ n ∈ st.oct, n < 256) → run6 l p st = .ok st' → Ok6 st' (i + l.length) ∧ ∀ n ∈ st'.oct, n < 256
  | [], p, i, st, st', o, hb, h => by
    rw [run6_nil] at h
    injection h with h
    subst h
    exact ⟨o, hb⟩
  | c :: r, p, i, st, st', o, hb, h => by
    cases hs : step6 st c with
    | none =>
      rw [run6_none hs] at h
      cases h
    | some s2 =>
      rw [run6_some hs] at h
      have hb2 : ∀ n ∈ s2.oct, n < 256 := by
        unfold step6 at hs
        split at hs
        · injection hs with hs
          rw [← hs]
          exact hb
        · split at hs
          · injection hs with hs
            rw [← hs]
            exact hb
          · split at hs
            · split at hs
              · injection hs with hs
                rw [← hs]
                intro n hn
                rcases List.mem_append.mp hn with hn | hn
                · exact hb n hn
                · exact o4_lt o.f4 o.f64 n hn
              · injection hs with hs
                rw [← hs]
                exact hb
            · cases hs
      have ih := run6_oct r (p + 1) (i + 1) s2 st' (ok6_step o hs) hb2 h
      rw [List.length_cons, show i + (r.length + 1) = i + 1 + r.length by omega]
      exact ih
theorem read6_oct {s o : List Nat} (h : read6 s = .ok o) : (∀ n ∈ o, n < 256) ∧ o.length ≤ 3 * s.length + 3 := by
  unfold read6 at h
  cases hr : run6 s 0 init6 with
  | error p =>
    rw [hr] at h
    cases h
  | ok st =>
    rw [hr] at h
    dsimp only at h
    obtain ⟨ok, hb⟩ := run6_oct s 0 0 init6 st ⟨by decide, (fun s hs => by cases hs), by decide, by decide⟩ (fun n hn => by cases hn) hr
    unfold end6 at h
    split at h
    · cases h
    · injection h with h
      subst h
      refine ⟨fun n hn => ?_, ?_⟩
      · rcases List.mem_append.mp hn with hn | hn
        · exact hb n hn
        · exact o4_lt ok.f4 ok.f64 n hn
      · have h1 := ok.ol
        have h2 := o4_len st.four
        rw [List.length_append]
        omega
theorem hexV_lt {c x : Nat} (h : hexV c = some x) : x < 16 := by
  unfold hexV at h
  split at h
  · injection h with h
    omega
  · split at h
    · injection h with h
      omega
    · split at h
      · injection h with h
        omega
      · cases h
theorem figV_lt {s : List Nat} {x : Nat} (h : figV s = some x) : x < 16 := by
  cases s with
  | nil => cases h
  | cons c r => exact hexV_lt h
theorem blk_le3 (s : List Nat) : blk s ≤ s.length := by
  unfold blk
  exact (List.takeWhile_sublist _).length_le
theorem readM_oct : ∀ (n : Nat) (s : List Nat) (p : Nat) (acc o : List Nat), (∀ c ∈ s, c < 256) → (∀ x ∈ acc, x < 256) → readM n s p acc = .ok o → (∀ x ∈ o, x < 256) ∧ o.length ≤ acc.length + s.length
  | n, [], p, acc, o, _, ha, h => by
    rw [readM_nil] at h
    injection h with h
    subst h
    exact ⟨ha, by simp⟩
  | 0, _ :: _, p, acc, o, _, ha, h => by
    unfold readM at h
    injection h with h
    subst h
    exact ⟨ha, by simp⟩
  | n + 1, c :: r, p, acc, o, hs, ha, h => by
    have hr : ∀ x ∈ r, x < 256 := fun x hx => hs x (List.mem_cons_of_mem _ hx)
    have hd : ∀ k, ∀ x ∈ r.drop k, x < 256 := fun k x hx => hr x (List.mem_of_mem_drop hx)
    have hds : ∀ k, ∀ x ∈ (c :: r).drop k, x < 256 := fun k x hx => hs x (List.mem_of_mem_drop hx)
    have hbl := blk_le3 (c :: r)
    unfold readM at h
    split at h
    · split at h
      · obtain ⟨h1, h2⟩ := readM_oct n _ _ acc o (hd _) ha h
        refine ⟨h1, ?_⟩
        rw [List.length_drop] at h2
        rw [List.length_cons]
        omega
      · split at h
        · cases h
        · cases hf : figV r with
          | none =>
            rw [hf] at h
            cases h
          | some x =>
            rw [hf] at h
            dsimp only at h
            cases hg : figV (r.drop 1) with
            | none =>
              rw [hg] at h
              cases h
            | some y =>
              rw [hg] at h
              dsimp only at h
              have hx := figV_lt hf
              have hy := figV_lt hg
              obtain ⟨h1, h2⟩ := readM_oct n _ _ (acc ++ [16 * x + y]) o (hd 2) (fun z hz => by
                rcases List.mem_append.mp hz with hz | hz
                · exact ha z hz
                · rw [List.mem_singleton.mp hz]
                  omega) h
              refine ⟨h1, ?_⟩
              rw [List.length_append, List.length_singleton, List.length_drop] at h2
              rw [List.length_cons]
              omega
    · split at h
      · split at h
        · obtain ⟨h1, h2⟩ := readM_oct n _ _ acc o (hds _) ha h
          refine ⟨h1, ?_⟩
          rw [List.length_drop] at h2
          omega
        · obtain ⟨h1, h2⟩ := readM_oct n _ _ (acc ++ List.replicate (blk (c :: r)) 32) o (hds _) (fun z hz => by
            rcases List.mem_append.mp hz with hz | hz
            · exact ha z hz
            · rw [(List.mem_replicate.mp hz).2]
              decide) h
          refine ⟨h1, ?_⟩
          rw [List.length_append, List.length_replicate, List.length_drop] at h2
          omega
      · obtain ⟨h1, h2⟩ := readM_oct n _ _ (acc ++ [c]) o hr (fun z hz => by
          rcases List.mem_append.mp hz with hz | hz
          · exact ha z hz
          · rw [List.mem_singleton.mp hz]
            exact hs c (List.mem_cons_self ..)) h
        refine ⟨h1, ?_⟩
        rw [List.length_append, List.length_singleton] at h2
        rw [List.length_cons]
        omega
theorem sig_lt3 {s : List Nat} (h : allSig s = true) : ∀ c ∈ s, c < 256 := fun c hc => by
  have := List.all_eq_true.mp h c hc
  unfold isSig at this
  by_cases h1 : c = 10
  · omega
  · rw [decide_eq_false h1, Bool.false_or] at this
    have := of_decide_eq_true (Bool.and_eq_true_iff.mp this).1
    omega
theorem readBy_ok {rd : RdC} {s o : List Nat} (h : readBy rd s = .ok o) : rd s = .ok o := by
  unfold readBy at h
  cases hr : rd s with
  | error p =>
    rw [hr] at h
    cases h
  | ok m =>
    rw [hr] at h
    dsimp only at h
    split at h
    · cases h
    · exact h
theorem Cd.oct (c : Cd) {s o : List Nat} (hs : allSig s = true) (h : readBy c.rd s = .ok o) : (∀ n ∈ o, n < 256) ∧ o.length ≤ 3 * s.length + 3 := by
  have h := readBy_ok h
  cases c with
  | pl =>
    injection h with h
    subst h
    exact ⟨sig_lt3 hs, by omega⟩
  | sx => exact read6_oct h
  | mr =>
    obtain ⟨h1, h2⟩ := readM_oct _ _ _ [] o (sig_lt3 hs) (fun x hx => by cases hx) h
    exact ⟨h1, by simp at h2; omega⟩
end FL


namespace FL
open PySem PySem.Spec PyProof.Rows L2
theorem fnok_or {P : Program} {w : World} {K : PySem.W.Frag} {mg : Str → Option Value} {base : Heap} {CX : CXT} {k : Nat} {f : Addr} {fd : FuncData} {ps : List Str} {sp sp' : Sp} (F : FnOk P w K mg base CX k f fd ps sp) (F' : FnOk P w K mg base CX k f fd ps sp') :
    FnOk P w K mg base CX k f fd ps (fun vs H Q E => sp vs H Q E ∨ sp' vs H Q E) :=
  ⟨fun vs H Q E h => h.elim (F.len vs H Q E) (F'.len vs H Q E), fun A outer s H args us vs Q E hr he hb hv hs => hs.elim (F.run A outer s H args us vs Q E hr he hb hv) (F'.run A outer s H args us vs Q E hr he hb hv)⟩
section
variable {P : Program} {w : World} {K : PySem.W.Frag} {mg : Str → Option Value} {base : Heap}
theorem ok_read_by {f : Addr} {fd : FuncData} {C WR RD fR : Addr} {fdR : FuncData} {psR : List Str} {kk : Nat} {code : Str} {rd : RdC} (MNoCode : MkFld P w K mg base "NoCode" C "at") (F : Fun K "read_by" "read_by" sReadBy f fd) (R1 : Ready P w K mg base 2 "is_text" ["value"] (spLine K allSig)) (R2 : ReadyX P w K mg base 4 "_check_code" ["value"] (spCheckCodeX K C WR))
    (m_READERS : mg "READERS" = some (.ref RD)) (m_len : mg "len" = none) {es : Array DictEntry} {n : Nat} (D : KDict K w RD es n) {rw_ : Value} (hw : PySem.W.nsIn K WR code = some (some rw_)) (hs : PySem.W.nsIn K RD code = some (some (.ref fR)))
    (GR : FnOk P w K mg base (L2.CX P w) kk fR fdR psR (spRdC C rd)) (hk4 : kk ≤ 6) (kR : PySem.W.keepIn K (.ref fR) = true) (bR : L2.Binds K fdR psR []) :
    FnOk P w K mg base (L2.CX P w) 7 f fd ["text", "code"] (spReadX K C code rd) := by
  obtain ⟨f1, fd1, g1, k1, b1, G1⟩ := R1
  obtain ⟨f2, fd2, g2, k2, b2, G2⟩ := R2
  refine F.okX scReadBy (fun vs H Q E h => ?_) (fun cdv A outer s H vs Q E hr h => ?_)
  · obtain ⟨v, rfl, _⟩ := h
    rfl
  · obtain ⟨v, rfl, h⟩ := h
    have sc := scReadBy
    refine ⟨_, pss_cons (ps_if (pt_not (pt_val (pe_call G1 (hr.mono (by decide)) (by rfl) g1 k1 b1 .nil pass0 (pa_cons (pv 0) pa_nil))))
        (pss_one (ps_raise rfl (takes_of rfl rfl rfl rfl) (pmk_fld MNoCode (hr.mono (by decide)) (by rfl) (pa_cons pe_str pa_nil) [.int 0] (.inr rfl))))
        pss_nil)
      (pss_cons (ps_expr (pe_call G2 (hr.mono (by decide)) (by rfl) g2 k2 b2 .nil (E := E) (passes_call (takes_of rfl rfl rfl rfl) (fun _ _ _ _ h => h)) (pa_cons (pv 1) pa_nil)))
      (pss_cons (ps_set (i := 2) sc.nd rfl (.inl rfl) (pe_ix ix_kdict (pe_glob (v := .ref RD) rfl m_READERS rfl) (pv 1) (fun _ _ => rfl)))
      (pss_cons (ps_set (i := 3) sc.nd rfl (.inl rfl) (pe_callL (i := 2) GR (hr.mono hk4) rfl (by first | exact .inl rfl | exact .inr (.inl rfl) | exact .inr (.inr rfl)) kR bR .nil (E := E) (passes_call (takes_of rfl rfl rfl rfl) (fun _ _ _ _ h => h)) (pa_cons (pv 0) pa_nil)))
      (pss_cons (ps_if (PW.pt (pw_and (pt_cmpR op_ne (pv 0) pe_str (nomark _)) (pw_and1 (pt_not (pt_val (pe_bm PySem.F.plainAttrs_str PySem.F.slot_str_endswith PySem.F.type_str_endswith mt_endswith (pv 0) (pa_cons pe_str pa_nil)))))))
        (pss_one (ps_raise rfl (takes_of rfl rfl rfl rfl) (pmk_fld MNoCode (hr.mono (by decide)) (by rfl) (pa_cons pe_str (pa_cons (pe_callB call_len_str (by rfl) m_len PySem.boot_len (pa_cons (pv 0) pa_nil)) pa_nil)) [] (.inl rfl))))
        pss_nil)
      (pss_one (ps_ret (pv 3))))))), ?_⟩
    rcases h with ⟨z, rfl, hz, hall, q, qe⟩ | ⟨hno, qe⟩
    · refine ⟨_, rfl, _, rfl, .inl ⟨z, rfl, hz, fun H1 s1 => ?_⟩⟩
      rw [hall]
      refine ⟨_, rfl, iteF ?_⟩
      refine ⟨_, rfl, _, rfl, .inl ⟨_, _, rfl, hw, fun _ => ?_, fun z => by cases z⟩⟩
      refine ⟨_, rfl, RD, code, .ref fR, rfl, rfl, ⟨es, n, .ref fR, D.at_, D.lit, hs, rfl⟩, ?_⟩
      unfold readBy at q qe
      refine ⟨rfl, _, rfl, z, rfl, hz, hall, fun o ho H2 p s2 np hp => ?_, fun p hp => ?_⟩
      · rw [ho] at q qe
        dsimp only at q qe
        have e10 : ("" : Str) = mk [] := by decide +kernel
        refine ⟨_, rfl, rfl, _, rfl, ?_⟩
        by_cases h0 : z.cps.toList = []
        · have ez : z = ("" : Str) := by rw [e10, ← h0, mk_of]
          refine iteNS (congrArg V.str ez) (iteF ?_)
          exact ⟨_, rfl, q o (by rw [if_neg (fun y => y.1 h0)]) H2 p (s1.trans s2) (Same.free s1 np) hp⟩
        · rw [decide_eq_false (fun y => h0 (by rw [V.str.inj y]; decide +kernel))]
          refine iteT ⟨_, rfl, rfl, _, _, rfl, rfl, ?_⟩
          rw [ends_lf]
          refine ⟨_, rfl, ?_⟩
          by_cases hl : z.cps.toList.getLast? = some 10
          · rw [decide_eq_true hl]
            refine iteF ⟨_, rfl, q o (by rw [if_neg (fun y => y.2 hl)]) H2 p (s1.trans s2) (Same.free s1 np) hp⟩
          · rw [decide_eq_false hl]
            refine iteT ⟨_, rfl, _, rfl, Nat.le_of_lt (szl hz), ?_⟩
            have hf := qe z.cps.toList.length (by rw [if_pos ⟨h0, hl⟩])
            rw [len_cps] at hf
            exact mk_leaf rfl (Nat.le_refl _) (Fails.later hf (s1.trans s2))
      · rw [hp] at qe
        exact Fails.later (qe p rfl) s1
    · rcases hno with ⟨z, rfl, hz, hall⟩ | ⟨t, ht, hk⟩
      · refine ⟨_, rfl, _, rfl, .inl ⟨z, rfl, hz, fun H1 s1 => ?_⟩⟩
        rw [hall]
        exact ⟨_, rfl, iteT (mk_leaf rfl (by decide) (Fails.later qe s1))⟩
      · exact ⟨_, rfl, _, rfl, .inr ⟨t, ht, hk, _, rfl, iteT (mk_leaf rfl (by decide) qe)⟩⟩
theorem ok_read_by0 {f : Addr} {fd : FuncData} {C WR RD fR : Addr} {fdR : FuncData} {psR : List Str} {kk : Nat} {code : Str} (MNoCode : MkFld P w K mg base "NoCode" C "at") (F : Fun K "read_by" "read_by" sReadBy f fd) (R1 : Ready P w K mg base 2 "is_text" ["value"] (spLine K allSig)) (R2 : ReadyX P w K mg base 4 "_check_code" ["value"] (spCheckCodeX K C WR))
    (m_READERS : mg "READERS" = some (.ref RD)) (m_len : mg "len" = none) {es : Array DictEntry} {n : Nat} (D : KDict K w RD es n) {rw_ : Value} (hw : PySem.W.nsIn K WR code = some (some rw_)) (hs : PySem.W.nsIn K RD code = some (some (.ref fR)))
    (GR : FnOk P w K mg base CX0 kk fR fdR psR spNumbersOf) (hk4 : kk ≤ 6) (kR : PySem.W.keepIn K (.ref fR) = true) (bR : L2.Binds K fdR psR []) :
    FnOk P w K mg base (L2.CX P w) 7 f fd ["text", "code"] (spReadX K C code rdP) := by
  obtain ⟨f1, fd1, g1, k1, b1, G1⟩ := R1
  obtain ⟨f2, fd2, g2, k2, b2, G2⟩ := R2
  refine F.okX scReadBy (fun vs H Q E h => ?_) (fun cdv A outer s H vs Q E hr h => ?_)
  · obtain ⟨v, rfl, _⟩ := h
    rfl
  · obtain ⟨v, rfl, h⟩ := h
    have sc := scReadBy
    refine ⟨_, pss_cons (ps_if (pt_not (pt_val (pe_call G1 (hr.mono (by decide)) (by rfl) g1 k1 b1 .nil pass0 (pa_cons (pv 0) pa_nil))))
        (pss_one (ps_raise rfl (takes_of rfl rfl rfl rfl) (pmk_fld MNoCode (hr.mono (by decide)) (by rfl) (pa_cons pe_str pa_nil) [.int 0] (.inr rfl))))
        pss_nil)
      (pss_cons (ps_expr (pe_call G2 (hr.mono (by decide)) (by rfl) g2 k2 b2 .nil (E := E) (passes_call (takes_of rfl rfl rfl rfl) (fun _ _ _ _ h => h)) (pa_cons (pv 1) pa_nil)))
      (pss_cons (ps_set (i := 2) sc.nd rfl (.inl rfl) (pe_ix ix_kdict (pe_glob (v := .ref RD) rfl m_READERS rfl) (pv 1) (fun _ _ => rfl)))
      (pss_cons (ps_set (i := 3) sc.nd rfl (.inl rfl) (pe_callL (i := 2) GR (hr.mono hk4) rfl (by first | exact .inl rfl | exact .inr (.inl rfl) | exact .inr (.inr rfl)) kR bR .nil pass0 (pa_cons (pv 0) pa_nil)))
      (pss_cons (ps_if (PW.pt (pw_and (pt_cmpR op_ne (pv 0) pe_str (nomark _)) (pw_and1 (pt_not (pt_val (pe_bm PySem.F.plainAttrs_str PySem.F.slot_str_endswith PySem.F.type_str_endswith mt_endswith (pv 0) (pa_cons pe_str pa_nil)))))))
        (pss_one (ps_raise rfl (takes_of rfl rfl rfl rfl) (pmk_fld MNoCode (hr.mono (by decide)) (by rfl) (pa_cons pe_str (pa_cons (pe_callB call_len_str (by rfl) m_len PySem.boot_len (pa_cons (pv 0) pa_nil)) pa_nil)) [] (.inl rfl))))
        pss_nil)
      (pss_one (ps_ret (pv 3))))))), ?_⟩
    rcases h with ⟨z, rfl, hz, hall, q, qe⟩ | ⟨hno, qe⟩
    · refine ⟨_, rfl, _, rfl, .inl ⟨z, rfl, hz, fun H1 s1 => ?_⟩⟩
      rw [hall]
      refine ⟨_, rfl, iteF ?_⟩
      refine ⟨_, rfl, _, rfl, .inl ⟨_, _, rfl, hw, fun _ => ?_, fun z => by cases z⟩⟩
      refine ⟨_, rfl, RD, code, .ref fR, rfl, rfl, ⟨es, n, .ref fR, D.at_, D.lit, hs, rfl⟩, ?_⟩
      unfold readBy at q qe
      refine ⟨rfl, _, rfl, z, rfl, hz, fun H2 p s2 np hp => ?_⟩
      · unfold rdP at q qe
        dsimp only at q qe
        have e10 : ("" : Str) = mk [] := by decide +kernel
        refine ⟨_, rfl, rfl, _, rfl, ?_⟩
        by_cases h0 : z.cps.toList = []
        · have ez : z = ("" : Str) := by rw [e10, ← h0, mk_of]
          refine iteNS (congrArg V.str ez) (iteF ?_)
          exact ⟨_, rfl, q _ (by rw [if_neg (fun y => y.1 h0)]) H2 p (s1.trans s2) (Same.free s1 np) hp⟩
        · rw [decide_eq_false (fun y => h0 (by rw [V.str.inj y]; decide +kernel))]
          refine iteT ⟨_, rfl, rfl, _, _, rfl, rfl, ?_⟩
          rw [ends_lf]
          refine ⟨_, rfl, ?_⟩
          by_cases hl : z.cps.toList.getLast? = some 10
          · rw [decide_eq_true hl]
            refine iteF ⟨_, rfl, q _ (by rw [if_neg (fun y => y.2 hl)]) H2 p (s1.trans s2) (Same.free s1 np) hp⟩
          · rw [decide_eq_false hl]
            refine iteT ⟨_, rfl, _, rfl, Nat.le_of_lt (szl hz), ?_⟩
            have hf := qe z.cps.toList.length (by rw [if_pos ⟨h0, hl⟩])
            rw [len_cps] at hf
            exact mk_leaf rfl (Nat.le_refl _) (Fails.later hf (s1.trans s2))
    · rcases hno with ⟨z, rfl, hz, hall⟩ | ⟨t, ht, hk⟩
      · refine ⟨_, rfl, _, rfl, .inl ⟨z, rfl, hz, fun H1 s1 => ?_⟩⟩
        rw [hall]
        exact ⟨_, rfl, iteT (mk_leaf rfl (by decide) (Fails.later qe s1))⟩
      · exact ⟨_, rfl, _, rfl, .inr ⟨t, ht, hk, _, rfl, iteT (mk_leaf rfl (by decide) qe)⟩⟩
/-- written by any of the three codes -/
def spWr3 (K : PySem.W.Frag) (C CN : Addr) : Sp := fun vs H Q E => ∃ (c : Cd) (v : V), vs = [v, .str c.word] ∧ ((∃ a l, v = .ref a ∧ H a = some (.lst (iv l)) ∧ OctL l ∧ (c.can l = true → ∀ H', Same H H' → Q (.str (mk (c.wr l))) H') ∧ (c.can l = false → Fails C "at" 0 H E)) ∨ (NoOctC K H v ∧ ∀ H', Same H H' → E (.ref CN) none H'))
theorem ok_written3 {f : Addr} {fd : FuncData} {C CN : Addr} (F1 : FnOk P w K mg base (L2.CX P w) 5 f fd ["octets", "code"] (spWrittenP K C CN)) (F2 : FnOk P w K mg base (L2.CX P w) 5 f fd ["octets", "code"] (spWrittenX K CN "sixes" lines6)) (F3 : FnOk P w K mg base (L2.CX P w) 5 f fd ["octets", "code"] (spWrittenX K CN "marks" marksL)) :
    FnOk P w K mg base (L2.CX P w) 5 f fd ["octets", "code"] (spWr3 K C CN) := by
  refine (fnok_or (fnok_or F1 F2) F3).imp fun vs H Q E h => ?_
  obtain ⟨c, v, rfl, h⟩ := h
  cases c with
  | pl => exact .inl (.inl ⟨v, rfl, h⟩)
  | sx => exact .inl (.inr ⟨v, rfl, h.imp (fun ⟨a, l, e, hH, ol, q, _⟩ => ⟨a, l, e, hH, ol, q rfl⟩) id⟩)
  | mr => exact .inr ⟨v, rfl, h.imp (fun ⟨a, l, e, hH, ol, q, _⟩ => ⟨a, l, e, hH, ol, q rfl⟩) id⟩
def spRd3 (K : PySem.W.Frag) (C : Addr) : Sp := fun vs H Q E => ∃ c : Cd, spReadX K C c.word c.rd vs H Q E
theorem ok_read3 {f : Addr} {fd : FuncData} {C : Addr} (F1 : FnOk P w K mg base (L2.CX P w) 7 f fd ["text", "code"] (spReadX K C "plain" rdP)) (F2 : FnOk P w K mg base (L2.CX P w) 7 f fd ["text", "code"] (spReadX K C "sixes" read6)) (F3 : FnOk P w K mg base (L2.CX P w) 7 f fd ["text", "code"] (spReadX K C "marks" readMk)) :
    FnOk P w K mg base (L2.CX P w) 7 f fd ["text", "code"] (spRd3 K C) := by
  refine (fnok_or (fnok_or F1 F2) F3).imp fun vs H Q E h => ?_
  obtain ⟨c, h⟩ := h
  cases c with
  | pl => exact .inl (.inl h)
  | sx => exact .inl (.inr h)
  | mr => exact .inr h
theorem x_read3 {C : Addr} (A : FnAt K mg "read_by" sReadBy) (h : ∀ f fd, Fun K "read_by" "read_by" sReadBy f fd → FnOk P w K mg base (L2.CX P w) 7 f fd ["text", "code"] (spRd3 K C)) : ReadyKX P w K mg base 7 "read_by" ["text", "code"] (spRd3 K C) (kbR K) :=
  readyKX_of A (fun _ _ _ _ _ _ us hl => match us, hl with | [_, _], _ => rfl) (fun f fd F => kbr_of F fun _ _ _ _ _ _ a b => rfl) h
end
end FL


namespace FL
open PySem PySem.Spec PyProof.Rows L2
/-! ### several except clauses, the first one with a name, and sure to take what the body raises -/
/-- how a suite under `as n` ends: the name is gone -/
def goneE (i : Nat) (D : Ends) : Ends := { nx := fun σ H => D.nx (σ.set i none) H, rt := D.rt, bk := fun σ H => D.bk (σ.set i none) H, ct := fun σ H => D.ct (σ.set i none) H }
def wSure (K : PySem.W.Frag) (c : Value) (i : Nat) (ts : Addr → Value → Option Addr → TS) (D : Ends) : WX := fun cls d σ H =>
  PySem.W.exmOne K cls c = some true ∧ ∀ a, H a = none → ts a cls d (goneE i D) (σ.set i (some (.ref a))) H
section
variable {X : Cx} {x n : Str} {c : Value} {i : Nat} {body suite : List Stmt} {b₀ : Stmt} {np pos pos' : Pos} {tb : WX → TS} {ts : Addr → Value → Option Addr → TS} {more : List ExceptHandler}
/-- the suite's end is the statement's, once the name is gone -/
theorem end_gone {pins : List (Addr × Obj)} {a : Addr} {p : Addr × Obj} {D : Ends} (ok : X.Ok) (hN : X.N.Nodup) (hi : X.N[i]? = some n) (hln : X.env.kindOf n = some .local) {f : Flow} {s : Shared} (h : SP (X.suite a (p :: (X.pn ++ pins))) [] (goneE i D) f s) :
    wpAny (model X.prog X.w) X.A (do bindName X.env n .none; unbindBehindTheSuite X.env n pos') (fun _ s7 => SP X pins D f s7) X.xe s := by
  cases f with
  | next =>
    obtain ⟨σ, H, S, q⟩ := h
    exact gone_ok (S.unsuite ok) hN hi hln fun s7 J => ⟨_, _, J, q⟩
  | brk =>
    obtain ⟨σ, H, S, q⟩ := h
    exact gone_ok (S.unsuite ok) hN hi hln fun s7 J => ⟨_, _, J, q⟩
  | cont =>
    obtain ⟨σ, H, S, q⟩ := h
    exact gone_ok (S.unsuite ok) hN hi hln fun s7 J => ⟨_, _, J, q⟩
  | ret u =>
    obtain ⟨v, σ, H, S, r, q⟩ := h
    exact gone_ok (S.unsuite ok) hN hi hln fun s7 J => ⟨_, _, _, J, r, q⟩
/-- the body's end is the statement's -/
theorem end_body {pins : List (Addr × Obj)} {pn : List (Addr × Obj)} {xe : Value → Shared → Prop} {D : Ends} (ok : X.Ok) {f : Flow} {s : Shared} (h : SP (X.tr (X.pn ++ pins) xe) [] D f s) : f ≠ .next → SP X pins D f s := by
  intro hf
  cases f with
  | next => exact absurd rfl hf
  | brk =>
    obtain ⟨σ, H, J, q⟩ := h
    exact ⟨σ, H, J.ofTry ok, q⟩
  | cont =>
    obtain ⟨σ, H, J, q⟩ := h
    exact ⟨σ, H, J.ofTry ok, q⟩
  | ret u =>
    obtain ⟨v, σ, H, J, r, q⟩ := h
    exact ⟨v, σ, H, J.ofTry ok, r, q⟩
theorem ps_try_first (hs : X.stack = X.env :: X.outer) (hf : X.env.frame = some X.env.locals) (hN : X.N.Nodup) (hi : X.N[i]? = some n) (hln : X.env.kindOf n = some .local) (hc : Names X x c)
    (hb : ∀ (W : WX) (pn : List (Addr × Obj)) (xe : Value → Shared → Prop), Takes (X.tr pn xe) W → PassesOwn (model X.prog X.w) X.A X.env xe → PSs (X.tr pn xe) body (tb W))
    (hsu : ∀ (a : Addr) (oe : Obj) (cls : Value) (d : Option Addr) (pn : List (Addr × Obj)), Zc cls d oe → (∃ vs, oe.data = .fields vs) → PSs (X.suite a ((a, oe) :: pn)) (b₀ :: suite) (ts a cls d)) :
    PS X (.Try body (.ExceptHandler (some (.Name x np)) (some n) (b₀ :: suite) pos' :: more) [] [] pos) (fun D σ H => tb (wSure X.K c i ts D) D σ H) := by
  refine ⟨fun pins s σ H D I h => ?_⟩
  have ok := I.ok
  have hfr : X.A.frames = some (X.env :: X.outer) := by rw [ok.frames, hs]
  refine wpAny_Try_except ?_
  have bodyRun := (hb (wSure X.K c i ts D) (X.pn ++ pins) (fun e s₁ => wpAny (model X.prog X.w) X.A (noteFrame e X.env) (fun _ s₂ => wpAny (model X.prog X.w) X.A (setFlight e none) (fun _ s₃ =>
    wpAny (model X.prog X.w) X.A (handleBy e X.env (.ExceptHandler (some (.Name x np)) (some n) (b₀ :: suite) pos' :: more)) (SP X pins D) X.xe s₃) X.xe s₂) X.xe s₁) (fun u s' xx => ?land) PassesOwn.looking).run [] s σ H D (I.toTry _) h
  · refine wpAny_mono bodyRun (fun f s1 q => ?_) fun e s1 z => z
    cases f with
    | next =>
      obtain ⟨σ', H', J', q⟩ := q
      exact wpAny_execs_nil ⟨σ', H', J'.ofTry ok, q⟩
    | brk => exact end_body (pn := []) ok q (by simp)
    | cont => exact end_body (pn := []) ok q (by simp)
    | ret u => exact end_body (pn := []) ok q (by simp)
  case land =>
    obtain ⟨a, B, sI, pins', σ', H', cls, d, rfl, J', nb, up, sky, na, os, ag, hm, hsuite⟩ := xx
    have J : Inv X pins σ' H' sI := J'.ofTry ok
    rw [hs] at sky
    show wpAny (model X.prog X.w) X.A (noteFrame (.ref a) X.env) _ _ _
    refine Sky.land Zc.steady hfr hf sky fun h3 fl3 up3 => ?_
    have J3 : Inv X pins σ' H' { s' with heap := h3 } := J.landed nb fl3.1 (up.trans up3) os ag
    obtain ⟨oe3, vs3, he3, hz3, hd3⟩ := fl3.there
    have out : a ∉ frs (X.env :: X.outer) := fun hmem => by
      obtain ⟨_, o', e', hnf⟩ := fl3.2.2.1.mem hmem
      rw [he3] at e'
      cases e'
      exact hnf _ hd3
    have nL : a ≠ X.env.locals := fun z => out (List.mem_filterMap.mpr ⟨X.env, List.mem_cons_self, by rw [hf, z]⟩)
    have nF : a ∉ X.fs := fun hmem => by
      obtain ⟨e, he, q⟩ := List.mem_filterMap.mp hmem
      exact out (List.mem_filterMap.mpr ⟨e, List.mem_cons_of_mem _ he, q⟩)
    have S3 := J3.suite he3 hd3 na nL nF
    have LM := PySem.W.exm_one (M := model X.prog X.w) J3.kIn (fun A Q E s k q => wpAny_typeOf_ref (k _ _ he3) (by rw [hz3.1]; exact q)) hm
    refine wpAny_handleBy_cons (codeAny_handlers_test ?_) (by intro q; cases q)
    have hit : ∀ {Q : Value → Shared → Prop} {E : Value → Shared → Prop}, Q c { s' with heap := h3 } → wpAny (model X.prog X.w) (X.A.mark (some (.ref a))) (eval (.Name x np) X.env) Q E { s' with heap := h3 } := fun q => by
      obtain ⟨hg, hdbg, hmg | ⟨hmg, hv, hnn⟩⟩ := hc
      · exact ld_glob (X := X.suite a ((a, oe3) :: (X.pn ++ pins))) S3 hg hmg q hdbg
      · exact ld_blt (X := X.suite a ((a, oe3) :: (X.pn ++ pins))) S3 hg hmg hv q hnn hdbg
    refine hit (LM.here ?_)
    refine codeAny_handlers_suite_as (HandSPX.lands_againZ fl3 fun h4 fl4 up4 => ?_)
    have J4 : Inv X pins σ' H' { s' with heap := h4 } := J.landed nb fl4.1 ((up.trans up3).trans up4) os ag
    obtain ⟨oe4, vs4, he4, hz4, hd4⟩ := fl4.there
    have S4 := J4.suite he4 hd4 na nL nF
    refine store_ok (X := X.suite a ((a, oe4) :: (X.pn ++ pins))) (v := .ref a) S4 hN hi (.inl hln) rfl (fun s5 S5 => ?_) (.inr hln)
    exact wpAny_mono ((hsu a oe4 cls d (X.pn ++ pins) hz4 ⟨_, hd4⟩).run [] s5 _ H' _ S5 (hsuite a na)) (fun f s6 q => end_gone (p := (a, oe4)) ok hN hi hln q) fun _ _ z => z.elim
end
end FL


namespace FL
open PySem PySem.Spec PyProof.Rows L2
theorem kit_ve {K : PySem.W.Frag} {C : Addr} (s : PySem.W.subIn K (.ref C) (.type "ValueError") = some true) : PySem.W.kitOne K (.ref C) (.type "ValueError") = some true := by
  unfold PySem.W.kitOne
  rw [if_neg (by intro h; cases h)]
  show (if PySem.W.kitMeta "ValueError" = true then PySem.W.subIn K (.ref C) (.type "ValueError") else none) = some true
  rw [if_pos (by decide +kernel)]
  exact s
end FL


namespace FL
open PySem PySem.Spec PyProof.Rows L2
/-! ### a short text from its end -/
def tRevS (te : TE) : TE := fun σ H Q => te σ H fun x H1 => ∃ z : Str, x = .str z ∧ z.length ≤ 2 ∧ ∀ r : Str, r.length ≤ 2 → (∀ c ∈ r.cps.toList, c ∈ z.cps.toList) → Q (.str r) H1
theorem sidx_small : ∀ n, n ≤ 2 → (Builtin.Str.strSliceIndices none none (-1) n).length ≤ 2 := by decide +kernel
theorem pe_revS {X : Cx} {e : Expr} {te : TE} {k : Nat} {p1 p2 p3 pos : Pos} (he : PE X e te) : PE X (.Subscript e (.Slice none none (some (.UnaryOp .USub (.Constant (.int 1) k p1) p2)) p3) pos) (tRevS te) := by
  refine ⟨fun pins s σ H Q I h => ?_⟩
  refine Subscript_ (thn (he.run pins s σ H _ I h) fun v s1 ⟨x, H1, I1, r1, q1⟩ => ?_)
  obtain ⟨z, ex, hz, q⟩ := q1
  subst ex
  obtain ⟨t, rfl⟩ := r1
  have hst : PO X (some (.UnaryOp .USub (.Constant (.int 1) k p1) p2)) (tPart (tUn (rU fun i => .int (-i)) (tC (.int 1)))) := po_some (pe_un un_neg pe_int)
  refine wpAny_Slice (thn (po_none.run pins s1 σ H1 (fun o H2 => o = none ∧ H2 = H1) I1 ⟨rfl, rfl⟩) fun vl s2 ⟨l, H2, I2, pl, el, e2⟩ => ?_)
  subst el e2
  refine thn (po_none.run pins s2 σ H2 (fun o H3 => o = none ∧ H3 = H2) I2 ⟨rfl, rfl⟩) fun vu s3 ⟨u, H3, I3, pu, eu, e3⟩ => ?_
  subst eu e3
  refine thn (hst.run pins s3 σ H3 (fun o H4 => o = some (-1) ∧ H4 = H3) I3 ⟨1, rfl, -1, rfl, rfl, rfl⟩) fun vs s4 ⟨o, H4, I4, ps, eo, e4⟩ => ?_
  subst eo e4
  have I5 : Inv X pins σ H4 { s4 with heap := s4.heap.push { cls := .type "slice", data := .fields #[vl, vu, vs] } } := I4.kept (t' := s4.toks) fun b ob q => Heap.get?_push_of_some _ q
  obtain ⟨l', rfl, hl'⟩ := IsPart.raw pl
  obtain ⟨u', rfl, hu'⟩ := IsPart.raw pu
  obtain ⟨s', rfl, hs'⟩ := IsPart.raw ps
  refine tail_any (ops := [.str z t, .ref s4.heap.objs.size]) (typeIs_str _ _ _) (F.slot_str_getitem.lookup) ?_ (by with_unfolding_all rfl)
  have h0 : ((s'.map (·.1)).getD 1 == 0) = false := by
    rw [hs']
    rfl
  refine wpAny_getItem_str_slice (l := l') (u := u') (st := s') ⟨_, Heap.get?_push_size _ rfl, rfl, rfl⟩ h0 ?_
  have hpk : slicePicked z l' u' s' = Builtin.Str.strSliceIndices none none (-1) z.length := by
    unfold slicePicked
    rw [hl', hu', hs']
    rfl
  have hlen : (((slicePicked z l' u' s').filterMap (z.cps[·]?)).toArray : Array Nat).size ≤ 2 := by
    rw [hpk, List.size_toArray]
    exact Nat.le_trans (List.length_filterMap_le _ _) (sidx_small _ hz)
  unfold sliceMade
  rw [hs']
  show Made.post (if (((-1 : Int) == 1) && _) = true then Made.val (.str z t) else Made.str ⟨((slicePicked z l' u' s').filterMap (z.cps[·]?)).toArray⟩) _ _
  rw [if_neg (by rw [show ((-1 : Int) == 1) = false from rfl, Bool.false_and]; decide)]
  refine ⟨Nat.le_trans hlen (by decide), .str ⟨((slicePicked z l' u' s').filterMap (z.cps[·]?)).toArray⟩, H4, I5.tok _, ⟨_, rfl⟩, q _ hlen fun c hc => ?_⟩
  obtain ⟨i, _, hi⟩ := List.mem_filterMap.mp (by simpa using hc)
  exact Array.mem_toList_iff.mpr (Array.mem_of_getElem? hi)
end FL



namespace FL
open PySem PySem.Spec PyProof.Rows L2
/-! ### blanks at the ends -/
def is32 (c : Nat) : Bool := decide (c = 32)
def lst32 (l : List Nat) : List Nat := l.dropWhile is32
def stripL (l : List Nat) : List Nat := (lst32 (lst32 l).reverse).reverse
theorem drop_tw (p : Nat → Bool) : ∀ l : List Nat, l.drop (l.takeWhile p).length = l.dropWhile p
  | [] => rfl
  | c :: r => by
    by_cases h : p c = true
    · rw [List.takeWhile_cons, if_pos h, List.dropWhile_cons, if_pos h]
      exact drop_tw p r
    · rw [List.takeWhile_cons, if_neg h, List.dropWhile_cons, if_neg h]
      rfl
theorem blank_has : (" " : Str).cps.contains = is32 := by
  funext c
  have e : (" " : Str).cps = #[32] := by decide +kernel
  rw [e]
  unfold is32
  by_cases h : c = 32
  · subst h
    simp
  · simp [h]
theorem strip_codes (x : Str) : (Txt.stripChars x (" " : Str)).cps.toList = stripL x.cps.toList := by
  unfold Txt.stripChars
  rw [blank_has, PyProof.Rows.stripBy_eq, PySem.StrLaws.strSub_toList]
  unfold PySem.stripHi PySem.stripLo
  rw [if_pos rfl, if_pos rfl, drop_tw]
  have hx := len_cps x
  generalize x.cps.toList = l at hx ⊢
  unfold stripL lst32
  generalize hM : l.dropWhile is32 = M
  have hlen : M.length = l.length - (l.takeWhile is32).length := by
    rw [← hM, ← drop_tw, List.length_drop]
  have h1 : (M.reverse.takeWhile is32).length ≤ M.length := by
    have := (List.takeWhile_prefix (p := is32) (l := M.reverse)).length_le
    rwa [List.length_reverse] at this
  rw [← drop_tw is32 M.reverse, ← hx]
  rw [show l.length - (M.reverse.takeWhile is32).length - (l.takeWhile is32).length = M.length - (M.reverse.takeWhile is32).length by omega]
  rw [List.drop_reverse, List.reverse_reverse]
theorem strip_len (x : Str) : (Txt.stripChars x (" " : Str)).length ≤ x.length := PyProof.Rows.len_stripChars _ _
def noBlank (l : List Nat) : Bool := decide (l.head? ≠ some 32)
theorem lst32_id {l : List Nat} : lst32 l = l ↔ l.head? ≠ some 32 := by
  unfold lst32
  cases l with
  | nil => simp
  | cons c r =>
    rw [List.dropWhile_cons]
    by_cases h : c = 32
    · subst h
      have e : is32 32 = true := rfl
      rw [if_pos e]
      constructor
      · intro z
        have := congrArg List.length z
        have h2 := (List.dropWhile_suffix (l := r) is32).length_le
        rw [List.length_cons] at this
        omega
      · intro z
        exact absurd rfl z
    · have e : is32 c = false := decide_eq_false h
      rw [e, if_neg Bool.false_ne_true]
      simp [h]
theorem lst32_head (l : List Nat) : (lst32 l).head? ≠ some 32 := by
  unfold lst32
  induction l with
  | nil => simp
  | cons c r ih =>
    rw [List.dropWhile_cons]
    by_cases h : c = 32
    · subst h
      have e : is32 32 = true := rfl
      rw [if_pos e]
      exact ih
    · have e : is32 c = false := decide_eq_false h
      rw [e, if_neg Bool.false_ne_true]
      simp [h]
/-- no blank at its begin or its end -/
def trim (l : List Nat) : Prop := l.head? ≠ some 32 ∧ l.reverse.head? ≠ some 32
theorem stripL_id {l : List Nat} : stripL l = l ↔ trim l := by
  constructor
  · intro h
    have h1 : l.reverse.head? ≠ some 32 := by
      rw [← h]
      unfold stripL
      rw [List.reverse_reverse]
      exact lst32_head _
    refine ⟨?_, h1⟩
    have hl := congrArg List.length h
    have a1 : (lst32 l).length ≤ l.length := (List.dropWhile_suffix (l := l) is32).length_le
    have a2 : (stripL l).length ≤ (lst32 l).length := by
      unfold stripL
      rw [List.length_reverse]
      have := (List.dropWhile_suffix (l := (lst32 l).reverse) is32).length_le
      rwa [List.length_reverse] at this
    have e : lst32 l = l := (List.dropWhile_suffix (l := l) is32).eq_of_length (by
      show (lst32 l).length = l.length
      omega)
    exact lst32_id.mp e
  · intro h
    unfold stripL
    rw [lst32_id.mpr h.1, lst32_id.mpr h.2, List.reverse_reverse]
theorem trim_strip (l : List Nat) : trim (stripL l) := by
  unfold stripL trim
  rw [List.reverse_reverse]
  refine ⟨?_, lst32_head _⟩
  generalize hm : lst32 l = m
  have hh : m.head? ≠ some 32 := hm ▸ lst32_head l
  have hp : (lst32 m.reverse).reverse <+: m := by
    have := List.reverse_prefix.mpr (List.dropWhile_suffix (l := m.reverse) is32)
    rwa [List.reverse_reverse] at this
  obtain ⟨t, ht⟩ := hp
  intro z
  apply hh
  rw [← ht]
  cases hq : (lst32 m.reverse).reverse with
  | nil => rw [hq] at z; simp at z
  | cons a b => rw [hq] at z; simpa using z
theorem strip_sub (l : List Nat) : ∀ c ∈ stripL l, c ∈ l := fun c hc => by
  unfold stripL lst32 at hc
  have h1 := (List.dropWhile_suffix (l := (l.dropWhile is32).reverse) is32).subset (List.mem_reverse.mp hc)
  exact (List.dropWhile_suffix (l := l) is32).subset (List.mem_reverse.mp h1)
/-! ### names and values -/
def isNmS (c : Nat) : Bool := isLet c || (isFig c || decide (c = 45))
def isNm (l : List Nat) : Bool := isLn l && (decide (1 ≤ l.length ∧ l.length ≤ 30) && (isLet (l.getD 0 0) && l.all isNmS))
def isVal (l : List Nat) : Bool := isLn l && decide (stripL l = l)
section
variable {P : Program} {w : World} {K : PySem.W.Frag} {mg : Str → Option Value} {base : Heap}
end
end FL


namespace FL
open PySem PySem.Spec PyProof.Rows L2
/-! ### a text's lines -/
def spl : List Nat → List Nat × List (List Nat)
  | [] => ([], [])
  | c :: r => if c = 10 then ([], (spl r).1 :: (spl r).2) else (c :: (spl r).1, (spl r).2)
theorem spl_join : ∀ l : List Nat, l = TL.joinL [10] ((spl l).1 :: (spl l).2)
  | [] => rfl
  | c :: r => by
    have ih := spl_join r
    unfold spl
    by_cases h : c = 10
    · rw [if_pos h]
      show c :: r = [] ++ ([10] ++ TL.joinL [10] ((spl r).1 :: (spl r).2))
      rw [← ih, h]
      rfl
    · rw [if_neg h]
      show c :: r = TL.joinL [10] ((c :: (spl r).1) :: (spl r).2)
      have : TL.joinL [10] ((c :: (spl r).1) :: (spl r).2) = c :: TL.joinL [10] ((spl r).1 :: (spl r).2) := by
        cases (spl r).2 <;> simp [TL.joinL]
      rw [this, ← ih]
theorem spl_no : ∀ l : List Nat, ∀ q ∈ (spl l).1 :: (spl l).2, 10 ∉ q
  | [], q, hq => by
    rw [show q = [] from List.mem_singleton.mp hq]
    simp
  | c :: r, q, hq => by
    have ih := spl_no r
    unfold spl at hq
    by_cases h : c = 10
    · rw [if_pos h] at hq
      rcases List.mem_cons.mp hq with rfl | hq
      · simp
      · exact ih q hq
    · rw [if_neg h] at hq
      rcases List.mem_cons.mp hq with rfl | hq
      · intro z
        rcases List.mem_cons.mp z with z | z
        · exact h z.symm
        · exact ih _ (List.mem_cons_self ..) z
      · exact ih q (List.mem_cons_of_mem _ hq)
theorem spl_le : ∀ l : List Nat, ∀ q ∈ (spl l).1 :: (spl l).2, q.length ≤ l.length
  | [], q, hq => by
    rw [show q = [] from List.mem_singleton.mp hq]
    simp
  | c :: r, q, hq => by
    have ih := spl_le r
    unfold spl at hq
    by_cases h : c = 10
    · rw [if_pos h] at hq
      rcases List.mem_cons.mp hq with rfl | hq
      · simp
      · have := ih q hq
        rw [List.length_cons]
        omega
    · rw [if_neg h] at hq
      rcases List.mem_cons.mp hq with rfl | hq
      · have := ih _ (List.mem_cons_self ..)
        rw [List.length_cons, List.length_cons]
        omega
      · have := ih q (List.mem_cons_of_mem _ hq)
        rw [List.length_cons]
        omega
theorem split_lf {ps : List (List Nat)} (hne : ps ≠ []) (hp : ∀ p ∈ ps, 10 ∉ p) : Txt.split (mk (TL.joinL [10] ps)) ("\n" : Str) = ps.map mk := by
  have hu : ("\n" : Str) = mk [10] := by decide +kernel
  have hj : mk (TL.joinL [10] ps) = Txt.join ("\n" : Str) (ps.map mk) := by
    symm
    refine mk_eq ?_
    show TL.tl _ = _
    rw [TL.join_eq, TL.tl_join]
    have e : TL.tl ("\n" : Str) = [10] := by
      show ("\n" : Str).cps.toList = [10]
      rw [hu, mk_codes]
    rw [e, List.map_map]
    congr 1
    exact (List.map_congr_left (fun p _ => mk_codes p)).trans (List.map_id _)
  rw [hj]
  refine TL.split_join (s := 10) (S := []) ?_ ?_ (by simpa using hne) fun p h => ?_
  · show ("\n" : Str).cps.toList = [10]
    rw [hu, mk_codes]
  · rw [hu]
    show (#[10] : Array Nat).all (· < 256) = true
    simp
  · obtain ⟨q, hq, rfl⟩ := List.mem_map.mp h
    show 10 ∉ (mk q).cps.toList
    rw [mk_codes]
    exact hp q hq
theorem atI_last {α : Type} (xs : List α) : atI xs (-1) = xs.getLast? := by
  unfold atI
  rw [show ixN xs.length (-1) = if xs.length = 0 then none else some (xs.length - 1) by
    unfold ixN
    by_cases h : xs.length = 0
    · simp [h]
    · rw [if_neg (by decide)]
      simp [h]
      omega]
  cases xs with
  | nil => rfl
  | cons a r => simp [List.getLast?_eq_getElem?]
end FL


namespace FL
open PySem PySem.Spec PyProof.Rows L2
/-! ### what reading says -/
theorem codeJ_sh (q : Int) : SeqAt.shaped (.tuple [.str "code", .int q]) = true := by
  have h : PyData.strOk ("code" : Str) = true := by decide +kernel
  refine shaped_of ?_ ?_
  · simp [PyData.canLay0, PyData.canLayAll0, h]
  · simp [PyData.depth, PyData.depthAll]
theorem ints_depthJ (l : List Nat) : (PyData.list (idt l)).depth ≤ 1 := by
  rw [PyData.depth]
  have : PyData.depthAll (idt l) ≤ 0 := depthAll_of fun d hd => by
    obtain ⟨z, hz, rfl⟩ := List.mem_map.mp hd
    rw [PyData.depth]
    exact Nat.le_refl _
  omega
theorem toldL_sh (l : List Nat) : SeqAt.shaped (.tuple [.str "told", .list (idt l)]) = true := by
  have h : PyData.strOk ("told" : Str) = true := by decide +kernel
  have hl := (Bool.and_eq_true_iff.mp (shaped_ints l)).1
  have hd := ints_depthJ l
  refine shaped_of ?_ ?_
  · rw [PyData.canLay0, PyData.canLayAll0, PyData.canLayAll0, PyData.canLayAll0, hl, canLay_str h]
    rfl
  · rw [PyData.depth]
    have : PyData.depthAll [PyData.str "told", PyData.list (idt l)] ≤ 1 := depthAll_of fun d hd2 => by
      rcases List.mem_cons.mp hd2 with rfl | hd2
      · rw [PyData.depth]
        omega
      · rw [List.mem_singleton.mp hd2]
        exact hd
    omega
theorem sh_eqJ {d : PyData} (h : SeqAt.shaped d = true) : PyData.eqv d d = true := SeqAt.eqv_refl _ (Bool.and_eq_true_iff.mp h).1
theorem codeJ_dp {K : PySem.W.Frag} {H : Hp} {p : Addr} {q : Int} (h : H p = some (.tup [.str "code", .int q])) : Dp K H (.ref p) (.tuple [.str "code", .int q]) := .tup (SqT.of h) (.cons (.str _) (.cons (.int _) .nil))
theorem toldL_dp {K : PySem.W.Frag} {H : Hp} {p r : Addr} {l : List Nat} (h : H p = some (.tup [.str "told", .ref r])) (hr : H r = some (.lst (iv l))) : Dp K H (.ref p) (.tuple [.str "told", .list (idt l)]) := .tup (SqT.of h) (.cons (.str _) (.cons (dpl hr) .nil))
section
variable {P : Program} {w : World} {K : PySem.W.Frag} {mg : Str → Option Value} {base : Heap}
structure CaughtD (K : PySem.W.Frag) (mg : Str → Option Value) (C CN : Addr) : Prop where
  gC : mg "NoCode" = some (.ref C)
  gN : mg "NoOctets" = some (.ref CN)
  te : PySem.W.exmOne K (.ref C) (.ref C) = some true
  G : ExcC K C
  F : XfC K C
  no : PySem.W.findIn K (.ref C) "at" = some none
  kN : PySem.W.kitOne K (.ref C) (.ref CN) = some false
  kV : PySem.W.kitOne K (.ref C) (.type "ValueError") = some true
def spSaidR : Sp := fun vs H Q _ => ∃ (c : Cd) (z : Str), vs = [.str z, .str c.word] ∧ z.length ≤ 10000 ∧ allSig z.cps.toList = true ∧
  (∀ o, readBy c.rd z.cps.toList = .ok o → ∀ H' T p, Same H H' → H' T = some (.tup [.str "told", .ref p]) → H' p = some (.lst (iv o)) → H p = none → H T = none → Q (.ref T) H') ∧
  (∀ p : Nat, readBy c.rd z.cps.toList = .error p → ∀ H' T, Same H H' → H' T = some (.tup [.str "code", .int (p : Nat)]) → Q (.ref T) H')
theorem scLawSaidR : FnScope ["_law_line_here", "_law_word", "e"] ["_law_line_here", "_law_word"] (defScope sLawSaid) := ⟨rfl, rfl, rfl, by decide +kernel, rfl, by decide +kernel, by decide +kernel⟩
theorem r_saidR {C CN : Addr} (T : CaughtD K mg C CN) (A : FnAt K mg "_law_said" sLawSaid) (RF : ReadyKX P w K mg base 7 "read_by" ["text", "code"] (spRd3 K C) (kbR K)) (mi : mg "isinstance" = none) (m_int : mg "int" = none) (m_VE : mg "ValueError" = none) :
    Ready P w K mg base 8 "_law_said" ["_law_line_here", "_law_word"] spSaidR := by
  obtain ⟨f1, fd1, g1, k1, b1, kb1, G1⟩ := RF
  refine ready_of A (fun _ _ _ _ _ _ us hl => match us, hl with | [_, _], _ => rfl) fun f fd F => ?_
  refine F.ok scLawSaidR (fun vs H Q E h => ?_) (fun cdv A outer s H vs Q E hr h => ?_)
  · obtain ⟨c, z, rfl, _⟩ := h
    rfl
  · obtain ⟨cd, z, rfl, hz, hsg, qt, qr⟩ := h
    have sc := scLawSaidR
    refine ⟨_, pss_one (ps_try_first (i := 2) (c := .ref C) (tb := fun W => (tRet (tTup (tCons (tC (.str "told")) (tCons (tCallS (spRd3 K C) (WE W) (tCons (tVar 0) (tCons (tVar 1) tNil))) tNil))))) rfl rfl sc.nd rfl rfl ⟨rfl, by decide, Or.inl T.gC⟩
        (fun W pn xe tk _ => pss_one (ps_ret (by exact (pe_tup (pa_cons pe_str (pa_cons (pe_callS G1 hr rfl g1 k1 b1 (fun σ => passAt tk σ) (by exact (pa_cons (pv 0) (pa_cons (pv 1) pa_nil)))) pa_nil))))))
        (fun a oe cls d pn hz hf => pss_one (ps_ret (pe_tup (pa_cons pe_str (pa_cons (pe_ix (r := rIxL K) (by exact ix_list) (pe_lst (pa_cons (pe_xf T.F T.no hz hf (pv 2)) (pa_cons (pe_un un_neg pe_int) pa_nil)))
          (pe_callTy call_int1 (by rfl) m_int (by decide +kernel) (pa_cons (pe_or (pe_callB (call_isG T.G hz hf) (by rfl) mi (by decide +kernel) (pa_cons (pv 2) (pa_cons (pe_glob (v := .ref CN) rfl T.gN rfl) pa_nil))) (pe_one (pe_not (pe_callB (call_isG T.G hz hf) (by rfl) mi (by decide +kernel) (pa_cons (pv 2) (pa_cons (pe_bltn (v := .ty "ValueError") (by rfl) m_VE (by decide +kernel) rfl) pa_nil)))))) pa_nil)) (fun _ _ => rfl)) pa_nil)))))), ?_⟩
    refine ⟨_, rfl, _, rfl, cd, _, rfl, .inl ⟨z, rfl, hz, hsg, fun o ho H' p s' np hp => ?_, fun pp hpp => ?_⟩⟩
    · refine ⟨(by show 2 ≤ sizeLine; decide), fun T nT => ?_⟩
      exact qt o ho _ T p (s'.trans (same_new nT)) upd_same (kn hp nT) np (Same.free s' nT)
    · intro d H' s' nd hd
      refine ⟨T.te, fun ea na => ?_⟩
      refine ⟨_, rfl, rfl, rfl, d, _, _, rfl, hd, rfl, _, rfl, (by show 2 ≤ sizeLine; decide), fun p np => ?_⟩
      have hd2 := kn (x := .lst [.int (pp : Nat), .int (-1)]) hd np
      refine ⟨_, rfl, rfl, d, rfl, .ref CN, .ref CN, false, _, rfl, hd2, fun u hu => hu, T.kN, _, rfl, iteF ?_⟩
      refine ⟨_, rfl, rfl, d, rfl, .ty "ValueError", .type "ValueError", true, _, rfl, hd2, fun u hu => hu, T.kV, _, rfl, .inr ⟨_, rfl, ?_⟩⟩
      refine ⟨p, _, _, .int (pp : Nat), rfl, rfl, SqL.of upd_same, rfl, (by show 2 ≤ sizeLine; decide), fun T2 nT => ?_⟩
      exact qr pp hpp _ T2 (s'.trans ((same_new np).trans (same_new nT))) upd_same
end
end FL


namespace FL
open PySem PySem.Spec PyProof.Rows L2
/-! ### the suite's text of numbers -/
def LSIG : Str := " !\"#$&'()*+,-./0123456789:;<=>?@ABCDEFGHIJKLMNOPQRSTUVWXYZ[\\]^_`abcdefghijklmnopqrstuvwxyz{|}~"
theorem lsig_len : LSIG.length = 94 := by decide +kernel
theorem lsig_at : ∀ n, n < 127 → 32 ≤ n → n ≠ 37 → LSIG.cps[n - 32 - (if 37 < n then 1 else 0)]? = some n := by decide +kernel
def textV (l : List Nat) : V := if l.all numb = true then .str (mk l) else .non
section
variable {P : Program} {w : World} {K : PySem.W.Frag} {mg : Str → Option Value} {base : Heap}
def spLawText : Sp := fun vs H Q _ => ∃ (a : Addr) (l : List Nat), vs = [.ref a] ∧ H a = some (.lst (iv l)) ∧ l.length ≤ 1000 ∧ ∀ H', Same H H' → Q (textV l) H'
theorem scLawText : FnScope ["_law_numbers_here", "_law_signs", "_law_found", "_law_number"] ["_law_numbers_here"] (defScope sLawText) := ⟨rfl, rfl, rfl, by decide +kernel, rfl, by decide +kernel, by decide +kernel⟩
theorem r_law_text (A : FnAt K mg "_law_text" sLawText) (m_int : mg "int" = none) : Ready P w K mg base 1 "_law_text" ["_law_numbers_here"] spLawText := by
  refine ready_of A (fun _ _ _ _ _ _ us hl => match us, hl with | [_], _ => rfl) fun f fd F => ?_
  refine F.ok scLawText (fun vs H Q E h => ?_) (fun cdv A outer s H vs Q E hr h => ?_)
  · obtain ⟨a, l, rfl, _⟩ := h
    rfl
  · obtain ⟨a, l, rfl, ha, hl, q⟩ := h
    have sc := scLawText
    refine ⟨_, pss_cons (ps_set (i := 1) sc.nd rfl (.inl rfl) pe_str)
      (pss_cons (ps_set (i := 2) sc.nd rfl (.inl rfl) pe_str)
      (pss_cons (ps_for PassesOwn.never rfl (pi_list (pv 0)) (pg_name (i := 3) sc.nd rfl (.inl rfl))
        (pss_cons (ps_if (PW.pt (pw_or (pt_not (pt_chain op_le op_le pe_int (pv 3) pe_int (by with_unfolding_all rfl))) (pw_or1 (pt_cmpR op_eq (pv 3) pe_int (nomark _)))))
            (pss_one (ps_ret pe_non))
            pss_nil)
          (pss_one (ps_set (i := 2) sc.nd rfl (.inl rfl) (pe_op op_add_str (pv 2) (pe_item_str (pv 1) (pe_op op_sub (pe_op op_sub (pv 3) pe_int) (pe_callTy call_int1 (by rfl) m_int (by decide +kernel) (pa_cons (pe_cmpR op_gt (pv 3) pe_int (nomark _)) pa_nil))) (fun _ _ => rfl)))))))
      (pss_one (ps_ret (pv 2))))), ?_⟩
    have e0x : ("" : Str) = mk [] := by decide +kernel
    refine ⟨_, rfl, a, rfl, ⟨_, SqL.of ha⟩, ?_⟩
    refine for_it (walk_list (K := K) (a := a) (xs := iv l)) (fun i σ H' => ∃ (y3 : Option V), σ = [some (.ref a), some (.str LSIG), some (.str (mk (l.take i))), y3] ∧ H' = H ∧ (l.take i).all numb = true) ⟨none, by rw [List.take_zero, ← e0x]; rfl, rfl, rfl⟩ (fun i σ H' _ hp => ?_) (fun i x σ H1 H2 hi hp hy => ?_) (fun σ H1 hp => ?_)
    · obtain ⟨y3, rfl, rfl, _⟩ := hp
      exact SqL.of ha
    · obtain ⟨y3, rfl, rfl, hall⟩ := hp
      obtain ⟨rfl, hx⟩ := hy
      rw [iv_len] at hi
      have hn := List.getElem?_eq_getElem hi
      have hmem := List.getElem_mem hi
      generalize l[i] = n at hn hmem
      rw [iv_at hn] at hx
      injection hx with hx
      subst hx
      have hbad : numb n ≠ true → Q .non H2 := fun h => by
        have := q H2 (Same.refl _)
        unfold textV at this
        rw [if_neg (fun z => h (List.all_eq_true.mp z n hmem))] at this
        exact this
      refine ⟨_, rfl, _, _, rfl, rfl, _, rfl, ?_⟩
      by_cases h1 : (32 : Int) ≤ (n : Nat)
      · rw [decide_eq_true h1]
        refine iteT ⟨_, _, rfl, rfl, _, rfl, ?_⟩
        by_cases h2 : ((n : Nat) : Int) ≤ 126
        · refine iteNS h2 ?_
          refine ⟨_, rfl, rfl, _, rfl, ite2 (fun h3 => ?_) (fun h3 => ?_)⟩
          · have e : n = 37 := by have := V.int.inj (of_decide_eq_true h3); omega
            exact hbad (by rw [e]; decide)
          · have hne : n ≠ 37 := fun z => h3 (decide_eq_true (by rw [z]; rfl))
            have hb : numb n = true := numb_iff.mpr ⟨by omega, by omega, hne⟩
            refine ⟨_, rfl, _, rfl, _, rfl, _, _, rfl, rfl, _, rfl, _, _, rfl, rfl, .inr ⟨_, rfl, ?_⟩⟩
            have hidx := lsig_at n (by omega) (by omega) hne
            have hc := catX (rfl : mk (l.take i) = _) (rfl : mk [n] = _)
            have hfin : ∀ (j : Int) , j = ((n - 32 - (if 37 < n then 1 else 0) : Nat) : Int) → ∃ (a_1 : Str) (i_1 : Int) (c : Nat), V.str LSIG = V.str a_1 ∧ V.int j = V.int i_1 ∧ 0 ≤ i_1 ∧ i_1 < 2 ^ 63 ∧ i_1 < a_1.length ∧ a_1.cps[i_1.toNat]? = some c ∧
                ∃ (i_2 j_1 : Str), V.str (mk (l.take i)) = V.str i_2 ∧ V.str ⟨#[c]⟩ = V.str j_1 ∧ i_2.length + j_1.length ≤ sizeLine ∧ ∃ (y3 : Option V), [some (V.ref a), some (V.str LSIG), some (V.str (i_2 ++ j_1)), some (.int (n : Nat))] = [some (.ref a), some (.str LSIG), some (.str (mk (l.take (i + 1)))), y3] ∧ H2 = H2 ∧ (l.take (i + 1)).all numb = true := fun j hj => by
              refine ⟨LSIG, j, n, rfl, rfl, by omega, by split at hj <;> omega, by rw [lsig_len]; split at hj <;> omega, by rw [hj, Int.toNat_natCast]; exact hidx, _, _, rfl, rfl, ?_, some (.int (n : Nat)), ?_, rfl, ?_⟩
              · rw [← len_append]
                refine szE hc ?_
                have := List.length_take_le i l
                simp
                omega
              · rw [take_more hn, ← hc]
                rfl
              · rw [take_more hn, List.all_append, hall]
                simp [hb]
            by_cases h4 : n > 37
            · rw [decide_eq_true (by omega : ((n : Nat) : Int) > 37)]
              refine ⟨_, _, rfl, rfl, hfin _ ?_⟩
              rw [if_pos h4]
              show ((n : Nat) : Int) - 32 - 1 = _
              omega
            · rw [decide_eq_false (by omega : ¬ ((n : Nat) : Int) > 37)]
              refine ⟨_, _, rfl, rfl, hfin _ ?_⟩
              rw [if_neg h4]
              show ((n : Nat) : Int) - 32 - 0 = _
              omega
        · rw [decide_eq_false h2]
          exact iteT (hbad fun z => h2 (by have := numb_iff.mp z; omega))
      · rw [decide_eq_false h1]
        exact iteF ⟨_, rfl, iteT (hbad fun z => h1 (by have := numb_iff.mp z; omega))⟩
    · obtain ⟨y3, rfl, rfl, hall⟩ := hp
      rw [iv_len, List.take_length] at hall ⊢
      have := q H1 (Same.refl _)
      unfold textV at this
      rw [if_pos hall] at this
      exact ⟨_, rfl, this⟩
end
end FL


namespace FL
open PySem PySem.Spec PyProof.Rows L2
/-! ### the suite's marks -/
theorem op_mulB {X : Cx} : OpR X (binaryOp .Mult) (fun x y H Q => ∃ (z : Str) (b : Bool), x = .str z ∧ y = .int (if b = true then 1 else 0) ∧ z.length ≤ 10000 ∧ Q (.str (if b = true then z else mk [])) H) := by
  intro pins s σ H x y v u Q I rx ry h
  obtain ⟨z, b, rfl, rfl, hz, q⟩ := h
  obtain ⟨t, rfl⟩ := rx
  obtain ⟨t', rfl⟩ := ry
  cases b with
  | false => exact PySem.P.mul_str_none (by decide) (by decide) ⟨.str (mk []), H, I.tok _, ⟨_, rfl⟩, q⟩
  | true =>
    refine PySem.P.mul_str (by decide) (fun _ h => by cases h) (fun _ h => by cases h) ?_
    rw [if_neg (by decide), if_pos (by rfl)]
    exact ⟨.str z, H, I, ⟨t, rfl⟩, q⟩
def uv (o : Nat) (e : Bool) : V := if o = 10 then .non else .str (mk (unitC o e))
def uV : List Nat → List V
  | [] => []
  | o :: r => uv o (endsB r) :: uV r
theorem uV_len : ∀ l, (uV l).length = l.length
  | [] => rfl
  | o :: r => by
    show (uV r).length + 1 = _
    rw [uV_len r]
    rfl
theorem uV_at : ∀ {l : List Nat} {i o : Nat}, l[i]? = some o → (uV l)[i]? = some (uv o (endsB (l.drop (i + 1))))
  | [], _, _, h => by simp at h
  | a :: r, 0, o, h => by
    have : a = o := by simpa using h
    subst this
    rfl
  | a :: r, i + 1, o, h => by
    have := uV_at (l := r) (i := i) (o := o) (by simpa using h)
    simpa [uV] using this
theorem later_at {l : List Nat} {i o x : Nat} (h : l[i]? = some o) (hx : (l.drop 1 ++ [10])[i]? = some x) : endsB (l.drop (i + 1)) = decide (x = 10) := by
  have hil : i < l.length := by
    rcases Nat.lt_or_ge i l.length with h1 | h1
    · exact h1
    · rw [List.getElem?_eq_none h1] at h
      cases h
  rw [endsB_drop, decide_eq_false (show ¬ l.length < i + 1 by omega), Bool.or_false]
  by_cases e : i + 1 = l.length
  · have e2 : (l.drop 1).length ≤ i := by rw [List.length_drop]; omega
    rw [List.getElem?_append_right e2, List.length_drop, show i - (l.length - 1) = 0 by omega] at hx
    injection hx with hx
    rw [decide_eq_true e, ← hx]
    rfl
  · have e2 : i < (l.drop 1).length := by rw [List.length_drop]; omega
    rw [List.getElem?_append_left e2, List.getElem?_drop, Nat.add_comm 1 i] at hx
    rw [decide_eq_false e, hx, Bool.false_or]
    by_cases h10 : x = 10
    · rw [h10]
      rfl
    · rw [decide_eq_false h10]
      simp [h10]
theorem sxtn_at : ∀ k, k < 16 → SXTN.cps[k]? = some (hexd k) := by decide +kernel
theorem sxtn_len : SXTN.length = 16 := by decide +kernel
section
variable {P : Program} {w : World} {K : PySem.W.Frag} {mg : Str → Option Value} {base : Heap}
def spUnits : Sp := fun vs H Q _ => ∃ (a : Addr) (l : List Nat), vs = [.ref a] ∧ H a = some (.lst (iv l)) ∧ OctL l ∧ ∀ H' p, Same H H' → H p = none → H' p = some (.lst (uV l)) → Q (.ref p) H'
theorem scLawUnits : FnScope ["_law_eights", "_law_found", "_law_octet", "_law_later", "_law_line_here"] ["_law_eights"] (defScope sLawUnits) := ⟨rfl, rfl, rfl, by decide +kernel, rfl, by decide +kernel, by decide +kernel⟩
theorem r_law_units (A : FnAt K mg "_law_units" sLawUnits) (R1 : Ready P w K mg base 1 "_law_text" ["_law_numbers_here"] spLawText) (m_zip : mg "zip" = none) : Ready P w K mg base 2 "_law_units" ["_law_eights"] spUnits := by
  obtain ⟨f1, fd1, g1, k1, b1, G1⟩ := R1
  refine ready_of A (fun _ _ _ _ _ _ us hl => match us, hl with | [_], _ => rfl) fun f fd F => ?_
  refine F.ok scLawUnits (fun vs H Q E h => ?_) (fun cdv A outer s H vs Q E hr h => ?_)
  · obtain ⟨a, l, rfl, _⟩ := h
    rfl
  · obtain ⟨a, l, rfl, ha, hb, q⟩ := h
    have sc := scLawUnits
    refine ⟨_, pss_cons (ps_set (i := 1) sc.nd rfl (.inl rfl) (pe_lst pa_nil))
      (pss_cons (ps_for PassesOwn.never rfl (pi_zip (by rfl) m_zip (pa_cons (pv 0) (pa_cons (pe_op op_cat (pe_slice sl_list (pv 0) (po_some pe_int) po_none) (pe_lst (pa_cons pe_int pa_nil))) pa_nil))) (pg_tup rfl (pgs_cons (pg_name (i := 2) sc.nd rfl (.inl rfl)) (pgs_cons (pg_name (i := 3) sc.nd rfl (.inl rfl)) pgs_nil)))
        (pss_cons (ps_set (i := 4) sc.nd rfl (.inl rfl) (pe_call G1 (hr.mono (by decide)) (by rfl) g1 k1 b1 .nil pass0 (pa_cons (pe_lst (pa_cons (pv 2) pa_nil)) pa_nil)))
          (pss_cons (ps_if (pt_cmpR op_eq (pv 2) pe_int (nomark _))
            (pss_one (ps_set (i := 4) sc.nd rfl (.inl rfl) pe_non))
            (pss_one (ps_if (PW.pt (pw_or (pt_cmpR op_isN (pv 4) pe_non (nomark _)) (pw_or (pt_cmpR op_eq (pv 2) pe_int (nomark _)) (pw_or1 (PW.pt (pw_and (pt_cmpR op_eq (pv 2) pe_int (nomark _)) (pw_and1 (pt_cmpR op_eq (pv 3) pe_int (nomark _)))))))))
                (pss_one (ps_set (i := 4) sc.nd rfl (.inl rfl) (pe_op op_add_str (pe_op op_add_str pe_str (pe_item_str pe_str (pe_op op_fdiv (pv 2) pe_int) (fun _ _ => rfl))) (pe_item_str pe_str (pe_op op_mod (pv 2) pe_int) (fun _ _ => rfl)))))
                pss_nil)))
          (pss_one (ps_expr (pe_bm PySem.F.plainAttrs_list PySem.F.slot_list_append PySem.F.type_list_append mt_append (pv 1) (pa_cons (pv 4) pa_nil)))))))
      (pss_one (ps_ret (pv 1)))), ?_⟩
    have hbl := hb.len
    have eqi : ∀ (x : Nat) (y : Nat), decide (V.int (x : Nat) = V.int ((y : Nat) : Int)) = decide (x = y) := fun x y => by
      by_cases e : x = y
      · rw [e, decide_eq_true rfl, decide_eq_true rfl]
      · rw [decide_eq_false e, decide_eq_false (fun z => e (by have := V.int.inj z; omega))]
    refine ⟨(by show 0 ≤ sizeLine; decide), fun fp nf => ?_⟩
    have s1 : Same H (upd H fp (.lst [])) := same_new nf
    have hf : (upd H fp (.lst [])) fp = some (.lst []) := upd_same
    generalize upd H fp (.lst []) = H1 at s1 hf ⊢
    refine ⟨_, rfl, _, rfl, _, rfl, a, _, rfl, SqL.of (s1 _ _ ha), fun p1 n1 => ?_⟩
    have ec : cutV (iv l) (some 1) none = iv (l.drop 1) := by
      unfold cutV
      rw [show (1 : Int) = ((1 : Nat) : Int) from rfl, HT.sIx_nat]
      show ((iv l).drop (min 1 (iv l).length)).take ((iv l).length - min 1 (iv l).length) = _
      by_cases h : 1 ≤ (iv l).length
      · rw [Nat.min_eq_left h, List.take_of_length_le (by rw [List.length_drop]; exact Nat.le_refl _), ← iv_drop]
      · rw [Nat.min_eq_right (by omega : (iv l).length ≤ 1), List.drop_eq_nil_of_le (Nat.le_refl (iv l).length), List.drop_eq_nil_of_le (by rw [iv_len] at h; omega : l.length ≤ 1)]
        simp [iv]
    rw [ec]
    refine ⟨(by show 1 ≤ sizeLine; decide), fun p2 n2 => ?_⟩
    refine ⟨p1, p2, _, _, rfl, rfl, kn upd_same n2, upd_same, by rw [iv_len, List.length_drop, sizeLine_eq]; show _ + 1 ≤ _; omega, fun p3 n3 => ?_⟩
    rw [show [V.int 10] = iv [10] from rfl, ← iv_app]
    have s3 : Same H1 (upd (upd (upd H1 p1 (.lst (iv (l.drop 1)))) p2 (.lst (iv [10]))) p3 (.lst (iv (l.drop 1 ++ [10])))) := (same_new n1).trans ((same_new n2).trans (same_new n3))
    have h3 : (upd (upd (upd H1 p1 (.lst (iv (l.drop 1)))) p2 (.lst (iv [10]))) p3 (.lst (iv (l.drop 1 ++ [10])))) p3 = some (.lst (iv (l.drop 1 ++ [10]))) := upd_same
    generalize upd (upd (upd H1 p1 (.lst (iv (l.drop 1)))) p2 (.lst (iv [10]))) p3 (.lst (iv (l.drop 1 ++ [10]))) = H3 at s3 h3 ⊢
    have np3 : fp ≠ p3 := fun e => by
      have := (same_new n1).trans (same_new (o := .lst [.int 10]) n2) _ _ hf
      rw [e] at this
      rw [n3] at this
      cases this
    have hp3H : H p3 = none := Same.free (s1.trans ((same_new n1).trans (same_new n2))) n3
    refine ⟨a, p3, _, _, rfl, SqL.of (s3 _ _ (s1 _ _ ha)), SqL.of h3, ?_⟩
    refine for_it (walk_zip (K := K) (a := a) (b := p3) (xs := iv l) (ys := iv (l.drop 1 ++ [10])) (n := l.length) (by rw [iv_len, iv_len, List.length_append, List.length_drop, List.length_singleton]; omega)) (fun i σ H' => ∃ (y2 y3 y4 : Option V), σ = [some (.ref a), some (.ref fp), y2, y3, y4] ∧ Same H H' ∧ H' p3 = some (.lst (iv (l.drop 1 ++ [10]))) ∧ H' fp = some (.lst ((uV l).take i)))
      ⟨none, none, none, rfl, s1.trans s3, h3, by rw [List.take_zero]; exact s3 _ _ hf⟩ (fun i σ H4 _ hp => ?_) (fun i x σ H4 H5 hi hp hy => ?_) (fun σ H4 hp => ?_)
    · obtain ⟨y2, y3, y4, rfl, sm, h5, _⟩ := hp
      exact ⟨SqL.of (sm _ _ ha), SqL.of h5⟩
    · obtain ⟨y2, y3, y4, rfl, sm, h5, hfp⟩ := hp
      obtain ⟨T, xx, yy, rfl, nT, rfl, hxx, hyy⟩ := hy
      have hn := List.getElem?_eq_getElem hi
      have hol := hb.lt _ (List.getElem_mem hi)
      generalize l[i] = o at hn hol
      have hxx : (iv l)[i]? = some xx := hxx
      rw [iv_at hn] at hxx
      injection hxx with hxx
      subst hxx
      have hyy : (iv (l.drop 1 ++ [10]))[i]? = some yy := hyy
      obtain ⟨lt, hlt⟩ : ∃ lt, (l.drop 1 ++ [10])[i]? = some lt := ⟨_, List.getElem?_eq_getElem (by rw [List.length_append, List.length_drop, List.length_singleton]; omega)⟩
      rw [iv_at hlt] at hyy
      injection hyy with hyy
      subst hyy
      have hE := later_at hn hlt
      have hU := uV_at hn
      rw [hE] at hU
      have sT : Same H4 (upd H4 T (.tup [.int (o : Nat), .int (lt : Nat)])) := same_new nT
      have hT : (upd H4 T (.tup [.int (o : Nat), .int (lt : Nat)])) T = some (.tup [.int (o : Nat), .int (lt : Nat)]) := upd_same
      generalize upd H4 T (.tup [.int (o : Nat), .int (lt : Nat)]) = H5 at sT hT ⊢
      refine ⟨T, _, rfl, SqT.of hT, rfl, _, _, rfl, _, _, rfl, rfl, ?_⟩
      refine ⟨_, rfl, (by show 1 ≤ sizeLine; decide), fun q1 m1 => ?_⟩
      refine ⟨q1, [o], rfl, by rw [upd_same]; rfl, by show 1 ≤ 1000; decide, fun H6 s6 => ?_⟩
      have t6 : Same H4 H6 := sT.trans ((same_new m1).trans s6)
      have hf6 := t6 _ _ hfp
      have hlf : ((uV l).take i).length < sizeLine := by
        rw [List.length_take, uV_len]
        exact szl (by omega)
      have done : ∀ (v : V), v = uv o (decide (lt = 10)) → Same H (upd H6 fp (.lst ((uV l).take i ++ [v]))) ∧ (upd H6 fp (.lst ((uV l).take i ++ [v]))) p3 = some (.lst (iv (l.drop 1 ++ [10]))) ∧ (upd H6 fp (.lst ((uV l).take i ++ [v]))) fp = some (.lst ((uV l).take (i + 1))) := fun v hv =>
        ⟨same_set (sm.trans t6) nf, by rw [upd_ne np3.symm]; exact t6 _ _ h5, by rw [upd_same, take_more hU, hv]⟩
      have e61x : ("=" : Str) = mk [61] := by decide +kernel
      have ch := catX e61x (rfl : mk [hexd (o / 16)] = _)
      have ch2 := catX ch (rfl : mk [hexd (o % 16)] = _)
      refine ⟨_, rfl, rfl, _, rfl, ?_⟩
      rw [show (10 : Int) = ((10 : Nat) : Int) from rfl, eqi]
      by_cases h10 : o = 10
      · rw [decide_eq_true h10]
        refine iteT ?_
        exact ⟨_, rfl, .inl ⟨rfl, _, SqL.of hf6⟩, _, rfl, fp, _, _, rfl, rfl, hf6, hlf, _, _, _, rfl, done .non (by unfold uv; rw [if_pos h10])⟩
      rw [decide_eq_false h10]
      have hexv : (o = 61 ∨ (o = 32 ∧ decide (lt = 10) = true) ∨ numb o = false) → V.str (mk (61 :: hex2 o)) = uv o (decide (lt = 10)) := fun h => by
        unfold uv unitC
        rw [if_neg h10, if_pos h]
      have plv : ¬ (o = 61 ∨ (o = 32 ∧ decide (lt = 10) = true) ∨ numb o = false) → V.str (mk [o]) = uv o (decide (lt = 10)) := fun h => by
        unfold uv unitC
        rw [if_neg h10, if_neg h]
      refine iteF ⟨_, rfl, rfl, _, rfl, ?_⟩
      cases hnb : numb o with
      | false =>
        have hv : textV [o] = .non := by
          unfold textV
          rw [if_neg (by simp [hnb])]
        rw [hv, decide_eq_true rfl]
        refine iteT (iteT ?_)
        refine ⟨_, rfl, _, _, rfl, rfl, ⟨by decide, by decide⟩, ?_⟩
        refine ⟨SXTN, _, hexd (o / 16), rfl, rfl, by omega, by omega, by rw [sxtn_len]; omega, ?_, ?_⟩
        · rw [show ((o : Nat) : Int) / 16 = ((o / 16 : Nat) : Int) by omega, Int.toNat_natCast]
          exact sxtn_at _ (by omega)
        refine ⟨_, _, rfl, rfl, (by rw [← len_append]; exact szE ch (by simp)), _, rfl, _, _, rfl, rfl, (by show (0 : Int) < 16; decide), ?_⟩
        refine ⟨SXTN, _, hexd (o % 16), rfl, rfl, by omega, by omega, by rw [sxtn_len]; omega, ?_, ?_⟩
        · rw [show ((o : Nat) : Int) % 16 = ((o % 16 : Nat) : Int) by omega, Int.toNat_natCast]
          exact sxtn_at _ (by omega)
        refine ⟨_, _, rfl, rfl, (by rw [← len_append]; exact szE ch2 (by simp)), ?_⟩
        rw [show (("=" : Str) ++ (⟨#[hexd (o / 16)]⟩ : Str) ++ (⟨#[hexd (o % 16)]⟩ : Str)) = mk (61 :: hex2 o) from ch2]
        exact ⟨_, rfl, .inl ⟨rfl, _, SqL.of hf6⟩, _, rfl, fp, _, _, rfl, rfl, hf6, hlf, _, _, _, rfl, done (.str (mk (61 :: hex2 o))) (hexv (.inr (.inr hnb)))⟩
      | true =>
        have hv : textV [o] = .str (mk [o]) := by
          unfold textV
          rw [if_pos (by simp [hnb])]
        rw [hv, decide_eq_false (show ¬ V.str (mk [o]) = V.non from fun z => by cases z)]
        refine iteF ⟨_, rfl, rfl, _, rfl, ?_⟩
        rw [show (61 : Int) = ((61 : Nat) : Int) from rfl, eqi]
        by_cases h61 : o = 61
        · rw [decide_eq_true h61]
          refine iteT (iteT ?_)
          refine ⟨_, rfl, _, _, rfl, rfl, ⟨by decide, by decide⟩, ?_⟩
          refine ⟨SXTN, _, hexd (o / 16), rfl, rfl, by omega, by omega, by rw [sxtn_len]; omega, ?_, ?_⟩
          · rw [show ((o : Nat) : Int) / 16 = ((o / 16 : Nat) : Int) by omega, Int.toNat_natCast]
            exact sxtn_at _ (by omega)
          refine ⟨_, _, rfl, rfl, (by rw [← len_append]; exact szE ch (by simp)), _, rfl, _, _, rfl, rfl, (by show (0 : Int) < 16; decide), ?_⟩
          refine ⟨SXTN, _, hexd (o % 16), rfl, rfl, by omega, by omega, by rw [sxtn_len]; omega, ?_, ?_⟩
          · rw [show ((o : Nat) : Int) % 16 = ((o % 16 : Nat) : Int) by omega, Int.toNat_natCast]
            exact sxtn_at _ (by omega)
          refine ⟨_, _, rfl, rfl, (by rw [← len_append]; exact szE ch2 (by simp)), ?_⟩
          rw [show (("=" : Str) ++ (⟨#[hexd (o / 16)]⟩ : Str) ++ (⟨#[hexd (o % 16)]⟩ : Str)) = mk (61 :: hex2 o) from ch2]
          exact ⟨_, rfl, .inl ⟨rfl, _, SqL.of hf6⟩, _, rfl, fp, _, _, rfl, rfl, hf6, hlf, _, _, _, rfl, done (.str (mk (61 :: hex2 o))) (hexv (.inl h61))⟩
        rw [decide_eq_false h61]
        refine iteF ⟨_, rfl, rfl, _, rfl, ?_⟩
        rw [show (32 : Int) = ((32 : Nat) : Int) from rfl, eqi]
        by_cases h32 : o = 32
        · rw [decide_eq_true h32]
          refine iteT ⟨_, rfl, rfl, _, rfl, ?_⟩
          rw [eqi]
          by_cases hlt10 : lt = 10
          · rw [show decide (lt = 10) = true from decide_eq_true hlt10] at hexv done ⊢
            refine iteT ?_
            refine ⟨_, rfl, _, _, rfl, rfl, ⟨by decide, by decide⟩, ?_⟩
            refine ⟨SXTN, _, hexd (o / 16), rfl, rfl, by omega, by omega, by rw [sxtn_len]; omega, ?_, ?_⟩
            · rw [show ((o : Nat) : Int) / 16 = ((o / 16 : Nat) : Int) by omega, Int.toNat_natCast]
              exact sxtn_at _ (by omega)
            refine ⟨_, _, rfl, rfl, (by rw [← len_append]; exact szE ch (by simp)), _, rfl, _, _, rfl, rfl, (by show (0 : Int) < 16; decide), ?_⟩
            refine ⟨SXTN, _, hexd (o % 16), rfl, rfl, by omega, by omega, by rw [sxtn_len]; omega, ?_, ?_⟩
            · rw [show ((o : Nat) : Int) % 16 = ((o % 16 : Nat) : Int) by omega, Int.toNat_natCast]
              exact sxtn_at _ (by omega)
            refine ⟨_, _, rfl, rfl, (by rw [← len_append]; exact szE ch2 (by simp)), ?_⟩
            rw [show (("=" : Str) ++ (⟨#[hexd (o / 16)]⟩ : Str) ++ (⟨#[hexd (o % 16)]⟩ : Str)) = mk (61 :: hex2 o) from ch2]
            exact ⟨_, rfl, .inl ⟨rfl, _, SqL.of hf6⟩, _, rfl, fp, _, _, rfl, rfl, hf6, hlf, _, _, _, rfl, done (.str (mk (61 :: hex2 o))) (hexv (.inr (.inl ⟨h32, rfl⟩)))⟩
          · rw [show decide (lt = 10) = false from decide_eq_false hlt10] at plv done ⊢
            refine iteF ?_
            exact ⟨_, rfl, .inl ⟨rfl, _, SqL.of hf6⟩, _, rfl, fp, _, _, rfl, rfl, hf6, hlf, _, _, _, rfl, done (.str (mk [o])) (plv (fun y => y.elim h61 (fun y => y.elim (fun z => by cases z.2) (fun y => by rw [hnb] at y; cases y))))⟩
        · rw [decide_eq_false h32]
          refine iteF (iteF ?_)
          exact ⟨_, rfl, .inl ⟨rfl, _, SqL.of hf6⟩, _, rfl, fp, _, _, rfl, rfl, hf6, hlf, _, _, _, rfl, done (.str (mk [o])) (plv (fun y => y.elim h61 (fun y => y.elim (fun z => h32 z.1) (fun y => by rw [hnb] at y; cases y))))⟩
    · obtain ⟨y2, y3, y4, rfl, sm, h5, hfp⟩ := hp
      rw [List.take_of_length_le (by rw [uV_len]; exact Nat.le_refl _)] at hfp
      exact ⟨_, rfl, q H4 fp sm nf hfp⟩
end
end FL



namespace FL
open PySem PySem.Spec PyProof.Rows L2
section
variable {P : Program} {w : World} {K : PySem.W.Frag} {mg : Str → Option Value} {base : Heap}
theorem scLawMarks : FnScope ["_law_eights", "_law_found", "_law_line_here", "_law_unit"] ["_law_eights"] (defScope sLawMarks) := ⟨rfl, rfl, rfl, by decide +kernel, rfl, by decide +kernel, by decide +kernel⟩
theorem r_law_marks (A : FnAt K mg "_law_marks" sLawMarks) (R1 : Ready P w K mg base 2 "_law_units" ["_law_eights"] spUnits) (m_int : mg "int" = none) (m_len : mg "len" = none) : Ready P w K mg base 3 "_law_marks" ["_law_eights"] (spWrC marksL) := by
  obtain ⟨f1, fd1, g1, k1, b1, G1⟩ := R1
  refine ready_of A (fun _ _ _ _ _ _ us hl => match us, hl with | [_], _ => rfl) fun f fd F => ?_
  refine F.ok scLawMarks (fun vs H Q E h => ?_) (fun cdv A outer s H vs Q E hr h => ?_)
  · obtain ⟨a, l, rfl, _⟩ := h
    rfl
  · obtain ⟨a, l, rfl, ha, hb, q⟩ := h
    have sc := scLawMarks
    refine ⟨_, pss_cons (ps_set (i := 1) sc.nd rfl (.inl rfl) pe_str)
      (pss_cons (ps_set (i := 2) sc.nd rfl (.inl rfl) pe_str)
      (pss_cons (ps_for PassesOwn.never rfl (pi_list (pe_call G1 (hr.mono (by decide)) (by rfl) g1 k1 b1 .nil pass0 (pa_cons (pv 0) pa_nil))) (pg_name (i := 3) sc.nd rfl (.inl rfl))
        (pss_one (ps_if (pt_cmpR op_isN (pv 3) pe_non (nomark _))
            (pss_cons (ps_set (i := 1) sc.nd rfl (.inl rfl) (pe_op op_add_str (pe_op op_add_str (pv 1) (pv 2)) pe_str))
              (pss_one (ps_set (i := 2) sc.nd rfl (.inl rfl) pe_str)))
            (pss_cons (ps_if (pt_cmpR op_gt (pe_callB call_len_str (by rfl) m_len PySem.boot_len (pa_cons (pe_op op_add_str (pv 2) (pv 3)) pa_nil)) pe_int (nomark _))
                (pss_cons (ps_set (i := 1) sc.nd rfl (.inl rfl) (pe_op op_add_str (pe_op op_add_str (pv 1) (pv 2)) pe_str))
                  (pss_one (ps_set (i := 2) sc.nd rfl (.inl rfl) pe_str)))
                pss_nil)
              (pss_one (ps_set (i := 2) sc.nd rfl (.inl rfl) (pe_op op_add_str (pv 2) (pv 3))))))))
      (pss_one (ps_ret (pe_op op_add_str (pv 1) (pe_op op_mulB (pe_op op_add_str (pv 2) pe_str) (pe_callTy call_int1 (by rfl) m_int (by decide +kernel) (pa_cons (pe_cmpR op_ne (pv 2) pe_str (nomark _)) pa_nil)))))))), ?_⟩
    have hbl := hb.len
    have e0 : ("" : Str) = mk [] := by decide +kernel
    have eLF : ("\n" : Str) = mk [10] := by decide +kernel
    have eSB : ("=\n" : Str) = mk [61, 10] := by decide +kernel
    refine ⟨_, rfl, a, l, rfl, ha, hb, fun H1 p s1 np hp => ?_⟩
    refine ⟨p, rfl, ⟨_, SqL.of hp⟩, ?_⟩
    refine for_it (walk_list (K := K) (a := p) (xs := uV l)) (fun i σ H' => ∃ (acc line : List Nat) (y3 : Option V), σ = [some (.ref a), some (.str (mk acc)), some (.str (mk line)), y3] ∧ H' = H1 ∧ acc ++ line ++ tailM (l.drop i) line.length = marksL l ∧ acc.length ≤ 75 * i ∧ line.length ≤ 71)
      ⟨[], [], none, by rw [← e0]; rfl, rfl, rfl, by decide, by decide⟩ (fun i σ H' _ hp2 => ?_) (fun i x σ H2 H3 hi hp2 hy => ?_) (fun σ H2 hp2 => ?_)
    · obtain ⟨acc, line, y3, rfl, rfl, _⟩ := hp2
      exact SqL.of hp
    · obtain ⟨acc, line, y3, rfl, rfl, hE, ha1, hl71⟩ := hp2
      obtain ⟨rfl, hx⟩ := hy
      rw [uV_len] at hi
      have hn := List.getElem?_eq_getElem hi
      have hol := hb.lt _ (List.getElem_mem hi)
      have hdr : l.drop i = l[i] :: l.drop (i + 1) := List.drop_eq_getElem_cons hi
      generalize l[i] = o at hn hol hdr
      rw [uV_at hn] at hx
      injection hx with hx
      subst hx
      rw [hdr] at hE
      unfold uv
      by_cases h10 : o = 10
      · rw [if_pos h10]
        refine ⟨_, rfl, rfl, _, rfl, ?_⟩
        rw [decide_eq_true rfl]
        have c1 := catX (rfl : mk acc = _) (rfl : mk line = _)
        have c2 := catX c1 eLF
        refine iteT ⟨_, rfl, _, rfl, _, _, rfl, rfl, (by rw [← len_append, c1, mk_len, sizeLine_eq, List.length_append]; omega), _, _, rfl, rfl, (by rw [← len_append, c2, mk_len, sizeLine_eq, List.length_append, List.length_append]; show _ + 1 ≤ _; omega), ?_⟩
        rw [c2]
        refine ⟨acc ++ line ++ [10], [], _, by rw [← e0]; rfl, rfl, ?_, by rw [List.length_append, List.length_append]; show _ + 1 ≤ _; omega, by decide⟩
        rw [← hE, tailM, if_pos h10]
        simp
      · rw [if_neg h10]
        have hu := unitC_len o (endsB (l.drop (i + 1)))
        rw [tailM, if_neg h10] at hE
        generalize unitC o (endsB (l.drop (i + 1))) = u at hu hE ⊢
        refine ⟨_, rfl, rfl, _, rfl, ?_⟩
        rw [decide_eq_false (show ¬ V.str (mk u) = V.non from fun z => by cases z)]
        have c1 := catX (rfl : mk line = _) (rfl : mk u = _)
        refine iteF ⟨_, rfl, _, rfl, _, _, rfl, rfl, (by rw [← len_append]; exact szE c1 (by simp; omega)), _, rfl, (by exact szE c1 (by simp; omega)), _, _, rfl, rfl, _, rfl, ?_⟩
        rw [c1, mk_len, List.length_append]
        by_cases hlong : 72 ≤ line.length + u.length
        · rw [decide_eq_true (by omega : ((line.length + u.length : Nat) : Int) > 71)]
          rw [if_pos hlong] at hE
          have c2 := catX (rfl : mk acc = _) (rfl : mk line = _)
          have c3 := catX c2 eSB
          have c4 := catX e0 (rfl : mk u = _)
          refine iteT ⟨_, rfl, _, rfl, _, _, rfl, rfl, (by rw [← len_append, c2, mk_len, sizeLine_eq, List.length_append]; omega), _, _, rfl, rfl, (by rw [← len_append, c3, mk_len, sizeLine_eq, List.length_append, List.length_append]; show _ + 2 ≤ _; omega), ?_⟩
          rw [c3]
          refine ⟨_, rfl, _, rfl, _, _, rfl, rfl, (by rw [← len_append]; exact szE c4 (by simp; omega)), ?_⟩
          rw [c4, List.nil_append]
          refine ⟨acc ++ line ++ [61, 10], u, _, rfl, rfl, ?_, by rw [List.length_append, List.length_append]; show _ + 2 ≤ _; omega, by omega⟩
          rw [← hE]
          simp
        · rw [decide_eq_false (by omega : ¬ ((line.length + u.length : Nat) : Int) > 71)]
          rw [if_neg hlong] at hE
          refine iteF ⟨_, rfl, _, rfl, _, _, rfl, rfl, (by rw [← len_append]; exact szE c1 (by simp; omega)), ?_⟩
          rw [c1]
          refine ⟨acc, line ++ u, _, rfl, rfl, ?_, by omega, by rw [List.length_append]; omega⟩
          rw [← hE, List.length_append]
          simp
    · obtain ⟨acc, line, y3, rfl, rfl, hE, ha1, hl71⟩ := hp2
      rw [uV_len] at ha1 hE
      rw [List.drop_length] at hE
      have c1 := catX (rfl : mk line = _) eSB
      have fin : ∀ t : List Nat, acc ++ t = marksL l → t.length ≤ 75 → ∃ (i j : Str), V.str (mk acc) = .str i ∧ V.str (mk t) = .str j ∧ i.length + j.length ≤ sizeLine ∧ Q (.str (i ++ j)) H2 := fun t ht htl => by
        have c2 := catX (rfl : mk acc = _) (rfl : mk t = _)
        refine ⟨_, _, rfl, rfl, by rw [mk_len, mk_len, sizeLine_eq]; omega, ?_⟩
        rw [c2, ht]
        exact q _ s1
      refine ⟨_, rfl, _, rfl, _, _, rfl, rfl, (by rw [← len_append]; exact szE c1 (by simp; omega)), _, rfl, rfl, .inr ⟨_, rfl, ?_⟩⟩
      rw [c1]
      by_cases h0 : line = []
      · refine ⟨mk (line ++ [61, 10]), false, rfl, ?_, by rw [mk_len, List.length_append]; show _ + 2 ≤ _; omega, ?_⟩
        · rw [show (!decide (V.str (mk line) = V.str ("" : Str))) = false from by rw [h0, e0, decide_eq_true rfl]; rfl]
        · rw [if_neg Bool.false_ne_true]
          exact fin [] (by rw [← hE, h0]; simp [tailM]) (by decide)
      · have hl1 : line.length ≠ 0 := fun z => h0 (List.eq_nil_of_length_eq_zero z)
        refine ⟨mk (line ++ [61, 10]), true, rfl, ?_, by rw [mk_len, List.length_append]; show _ + 2 ≤ _; omega, ?_⟩
        · rw [show (!decide (V.str (mk line) = V.str ("" : Str))) = true from by
            rw [decide_eq_false (fun z => h0 (by have := V.str.inj z; rw [e0] at this; have := congrArg (fun s => s.cps.toList) this; simpa [mk_codes] using this))]
            rfl]
        · rw [if_pos rfl]
          exact fin (line ++ [61, 10]) (by rw [← hE, tailM, if_neg hl1, List.append_assoc]) (by rw [List.length_append]; show _ + 2 ≤ _; omega)
end
end FL



namespace FL
open PySem PySem.Spec PyProof.Rows L2
/-! ### drawn texts -/
theorem cut_lenH (z : Str) (lo hi : Option Int) : (cutS z lo hi).length = min (HT.sIx z.length z.length hi - HT.sIx z.length 0 lo) (z.length - HT.sIx z.length 0 lo) := by
  show (((z.cps.toList.drop (HT.sIx z.length 0 lo)).take (HT.sIx z.length z.length hi - HT.sIx z.length 0 lo)).toArray).size = _
  rw [List.size_toArray, List.length_take, List.length_drop, Array.length_toList]
  rfl
theorem cut_memH (z : Str) (lo hi : Option Int) : ∀ c ∈ (cutS z lo hi).cps.toList, c ∈ z.cps.toList := fun c hc => by
  unfold cutS at hc
  exact List.mem_of_mem_drop (List.mem_of_mem_take (by simpa using hc))
theorem cut_toH (z : Str) (i : Nat) : (cutS z none (some (i : Nat))).length ≤ i := by
  rw [cut_lenH, HT.sIx_none, HT.sIx_nat]
  omega
theorem cut_fromH (z : Str) (i : Nat) : (cutS z (some (i : Nat)) none).length = z.length - i := by
  rw [cut_lenH, HT.sIx_none, HT.sIx_nat]
  omega
theorem cut_midH (z : Str) (i j : Nat) : (cutS z (some (i : Nat)) (some (j : Nat))).length ≤ j - i := by
  rw [cut_lenH, HT.sIx_nat, HT.sIx_nat]
  omega
theorem sig_cutH {z : Str} (h : allSig z.cps.toList = true) (lo hi : Option Int) : allSig (cutS z lo hi).cps.toList = true :=
  List.all_eq_true.mpr fun c hc => List.all_eq_true.mp h c (cut_memH z lo hi c hc)
theorem sig_appH {a b : Str} (ha : allSig a.cps.toList = true) (hb : allSig b.cps.toList = true) : allSig (a ++ b).cps.toList = true := by
  have : (a ++ b).cps.toList = a.cps.toList ++ b.cps.toList := TL.tl_append a b
  rw [this]
  unfold allSig at *
  rw [List.all_append, ha, hb]
  rfl
/-- a text of signs, no longer than n -/
def TxN (n : Nat) (z : Str) : Prop := z.length ≤ n ∧ allSig z.cps.toList = true
def IsTxN (n : Nat) (v : V) : Prop := ∃ z : Str, v = .str z ∧ TxN n z
section
variable {P : Program} {w : World} {K : PySem.W.Frag} {mg : Str → Option Value} {base : Heap}
def spTouch : Sp := fun vs H Q _ => ∃ (a : Addr) (z sg : Str), vs = [.ref a, .str z, .str sg] ∧ Src H a ∧ z.length ≤ 5000 ∧ allSig z.cps.toList = true ∧ 1 ≤ sg.length ∧ sg.length ≤ 100 ∧ allSig sg.cps.toList = true ∧ ∀ H' (r : Str), Drawn a H H' → r.length ≤ z.length + 2 → allSig r.cps.toList = true → Q (.str r) H'
theorem scLawTouched : FnScope ["_law_source_here", "_law_line_here", "_law_signs", "_law_at", "_law_one", "_law_some", "_law_pair"] ["_law_source_here", "_law_line_here", "_law_signs"] (defScope sLawTouched) := ⟨rfl, rfl, rfl, by decide +kernel, rfl, by decide +kernel, by decide +kernel⟩
theorem r_touched (A : FnAt K mg "_law_touched" sLawTouched) (RN : Ready P w K mg base 2 "_law_next" ["_law_source_here", "_law_many"] spNextM) (m_len : mg "len" = none) : Ready P w K mg base 3 "_law_touched" ["_law_source_here", "_law_line_here", "_law_signs"] spTouch := by
  obtain ⟨f1, fd1, g1, k1, b1, G1⟩ := RN
  refine ready_of A (fun _ _ _ _ _ _ us hl => match us, hl with | [_, _, _], _ => rfl) fun f fd F => ?_
  refine F.ok scLawTouched (fun vs H Q E h => ?_) (fun cdv A outer s H vs Q E hr h => ?_)
  · obtain ⟨a, z, sg, rfl, _⟩ := h
    rfl
  · obtain ⟨a, z, sg, rfl, hS, hz, hsz, hs1, hs2, hss, q⟩ := h
    have sc := scLawTouched
    refine ⟨_, pss_cons (ps_set (i := 3) sc.nd rfl (.inl rfl) (pe_call G1 (hr.mono (by decide)) (by rfl) g1 k1 b1 .nil pass0 (pa_cons (pv 0) (pa_cons (pe_op op_add (pe_callB call_len_str (by rfl) m_len PySem.boot_len (pa_cons (pv 1) pa_nil)) pe_int) pa_nil))))
      (pss_cons (ps_set (i := 4) sc.nd rfl (.inl rfl) (pe_item_str (pv 2) (pe_call G1 (hr.mono (by decide)) (by rfl) g1 k1 b1 .nil pass0 (pa_cons (pv 0) (pa_cons (pe_callB call_len_str (by rfl) m_len PySem.boot_len (pa_cons (pv 2) pa_nil)) pa_nil))) (fun _ _ => rfl)))
      (pss_cons (ps_set (i := 5) sc.nd rfl (.inl rfl) (pe_lst (pa_cons (pe_op op_add_str (pe_slice sl_str (pv 1) po_none (po_some (pv 3))) (pe_slice sl_str (pv 1) (po_some (pe_op op_add (pv 3) pe_int)) po_none)) (pa_cons (pe_op op_add_str (pe_op op_add_str (pe_slice sl_str (pv 1) po_none (po_some (pv 3))) (pv 4)) (pe_slice sl_str (pv 1) (po_some (pv 3)) po_none)) (pa_cons (pe_op op_add_str (pe_op op_add_str (pe_slice sl_str (pv 1) po_none (po_some (pv 3))) (pe_slice sl_str (pv 1) (po_some (pv 3)) (po_some (pe_op op_add (pv 3) pe_int)))) (pe_slice sl_str (pv 1) (po_some (pv 3)) po_none)) pa_nil)))))
      (pss_cons (ps_set (i := 6) sc.nd rfl (.inl rfl) (pe_revS (pe_slice sl_str (pv 1) (po_some (pv 3)) (po_some (pe_op op_add (pv 3) pe_int)))))
      (pss_cons (ps_expr (pe_bm PySem.F.plainAttrs_list PySem.F.slot_list_append PySem.F.type_list_append mt_append (pv 5) (pa_cons (pe_op op_add_str (pe_op op_add_str (pe_slice sl_str (pv 1) po_none (po_some (pv 3))) (pv 6)) (pe_slice sl_str (pv 1) (po_some (pe_op op_add (pv 3) pe_int)) po_none)) pa_nil)))
      (pss_cons (ps_expr (pe_bm PySem.F.plainAttrs_list PySem.F.slot_list_append PySem.F.type_list_append mt_append (pv 5) (pa_cons (pe_op op_add_str (pe_op op_add_str (pe_slice sl_str (pv 1) po_none (po_some (pv 3))) (pv 4)) (pe_slice sl_str (pv 1) (po_some (pe_op op_add (pv 3) pe_int)) po_none)) pa_nil)))
      (pss_one (ps_ret (pe_ix ix_list (pe_op op_cat (pv 5) (pe_lst (pa_cons (pe_slice sl_str (pv 1) po_none (po_some (pv 3))) pa_nil))) (pe_call G1 (hr.mono (by decide)) (by rfl) g1 k1 b1 .nil pass0 (pa_cons (pv 0) (pa_cons pe_int pa_nil))) (fun _ _ => rfl))))))))), ?_⟩
    refine ⟨_, rfl, _, rfl, _, rfl, Nat.le_trans hz (by decide), _, _, rfl, rfl, ?_⟩
    refine ⟨a, z.length + 1, rfl, by omega, by omega, hS, fun at_ H1 hat d1 => ?_⟩
    refine ⟨_, rfl, _, rfl, _, rfl, _, rfl, Nat.le_trans hs2 (by decide), a, sg.length, rfl, hs1, by omega, d1.src, fun r2 H2 hr2 d2 => ?_⟩
    have hc : ∃ c, sg.cps[r2]? = some c := ⟨sg.cps[r2]'hr2, Array.getElem?_eq_getElem hr2⟩
    obtain ⟨c, hc⟩ := hc
    refine ⟨sg, _, c, rfl, rfl, by omega, by omega, by omega, by rw [Int.toNat_natCast]; exact hc, ?_⟩
    have hone : TxN 1 ⟨#[c]⟩ := by
      have : c ∈ sg.cps.toList := Array.mem_toList_iff.mpr (Array.mem_of_getElem? hc)
      have := List.all_eq_true.mp hss c this
      refine ⟨Nat.le_refl _, ?_⟩
      unfold allSig
      show List.all [c] isSig = true
      rw [List.all_cons, this]
      rfl
    have hzb : z.length ≤ sizeLine := Nat.le_trans hz (by decide)
    have ha0 := cut_toH z at_
    have hb0 := cut_fromH z at_
    have hb1 : (cutS z (some (((at_ : Nat) : Int) + 1)) none).length = z.length - (at_ + 1) := cut_fromH z (at_ + 1)
    have hb2 : (cutS z (some (((at_ : Nat) : Int) + 2)) none).length = z.length - (at_ + 2) := cut_fromH z (at_ + 2)
    have hm1 : (cutS z (some ((at_ : Nat) : Int)) (some (((at_ : Nat) : Int) + 1))).length ≤ 1 := by
      have := cut_midH z at_ (at_ + 1)
      have e : (cutS z (some ((at_ : Nat) : Int)) (some (((at_ : Nat) : Int) + 1))).length ≤ at_ + 1 - at_ := this
      omega
    have hm2 : (cutS z (some ((at_ : Nat) : Int)) (some (((at_ : Nat) : Int) + 2))).length ≤ 2 := by
      have := cut_midH z at_ (at_ + 2)
      have e : (cutS z (some ((at_ : Nat) : Int)) (some (((at_ : Nat) : Int) + 2))).length ≤ at_ + 2 - at_ := this
      omega
    have sA := sig_cutH hsz none (some ((at_ : Nat) : Int))
    have sB0 := sig_cutH hsz (some ((at_ : Nat) : Int)) none
    have sB1 := sig_cutH hsz (some (((at_ : Nat) : Int) + 1)) none
    have sB2 := sig_cutH hsz (some (((at_ : Nat) : Int) + 2)) none
    have sM1 := sig_cutH hsz (some ((at_ : Nat) : Int)) (some (((at_ : Nat) : Int) + 1))
    have sM2 := sig_cutH hsz (some ((at_ : Nat) : Int)) (some (((at_ : Nat) : Int) + 2))
    have h1l := hone.1
    -- three texts
    refine ⟨_, rfl, _, rfl, _, rfl, _, rfl, hzb, ?_⟩
    refine ⟨_, rfl, _, rfl, _, _, rfl, rfl, _, rfl, _, rfl, hzb, _, _, rfl, rfl, by rw [sizeLine_eq]; omega, ?_⟩
    refine ⟨_, rfl, _, rfl, _, rfl, _, rfl, hzb, _, rfl, _, _, rfl, rfl, by rw [sizeLine_eq]; omega, ?_⟩
    refine ⟨_, rfl, _, rfl, _, rfl, _, rfl, hzb, _, _, rfl, rfl, by rw [len_append, sizeLine_eq]; omega, ?_⟩
    refine ⟨_, rfl, _, rfl, _, rfl, _, rfl, hzb, ?_⟩
    refine ⟨_, rfl, _, rfl, _, rfl, _, rfl, _, _, rfl, rfl, _, rfl, _, rfl, hzb, _, _, rfl, rfl, by rw [sizeLine_eq]; omega, ?_⟩
    refine ⟨_, rfl, _, rfl, _, rfl, _, rfl, hzb, _, _, rfl, rfl, by rw [len_append, sizeLine_eq]; omega, ?_⟩
    refine ⟨(by show 3 ≤ sizeLine; decide), fun pl npl => ?_⟩
    have dd := d1.trans d2
    have hpa := dd.src.neR npl
    have npl0 : H pl = none := by
      cases hh : H pl with
      | none => rfl
      | some o => rw [dd.old pl o hpa hh] at npl; cases npl
    generalize hA0 : cutS z none (some ((at_ : Nat) : Int)) = A0 at ha0 sA
    generalize hB0 : cutS z (some ((at_ : Nat) : Int)) none = B0 at hb0 sB0
    generalize hB1 : cutS z (some (((at_ : Nat) : Int) + 1)) none = B1 at hb1 sB1
    generalize hB2 : cutS z (some (((at_ : Nat) : Int) + 2)) none = B2 at hb2 sB2
    generalize hM1 : cutS z (some ((at_ : Nat) : Int)) (some (((at_ : Nat) : Int) + 1)) = M1 at hm1 sM1
    have t1 : IsTxN (z.length + 2) (.str (A0 ++ B1)) := ⟨_, rfl, by rw [len_append]; omega, sig_appH sA sB1⟩
    have t2 : IsTxN (z.length + 2) (.str (A0 ++ ⟨#[c]⟩ ++ B0)) := ⟨_, rfl, by rw [len_append, len_append]; omega, sig_appH (sig_appH sA hone.2) sB0⟩
    have t3 : IsTxN (z.length + 2) (.str (A0 ++ M1 ++ B0)) := ⟨_, rfl, by rw [len_append, len_append]; omega, sig_appH (sig_appH sA sM1) sB0⟩
    have t5 : IsTxN (z.length + 2) (.str (A0 ++ ⟨#[c]⟩ ++ B1)) := ⟨_, rfl, by rw [len_append, len_append]; omega, sig_appH (sig_appH sA hone.2) sB1⟩
    have t6 : IsTxN (z.length + 2) (.str A0) := ⟨_, rfl, by omega, sA⟩
    have hpl : (upd H2 pl (.lst [.str (A0 ++ B1), .str (A0 ++ ⟨#[c]⟩ ++ B0), .str (A0 ++ M1 ++ B0)])) pl = some (.lst [.str (A0 ++ B1), .str (A0 ++ ⟨#[c]⟩ ++ B0), .str (A0 ++ M1 ++ B0)]) := upd_same
    have d3 := dd.same (same_new (o := .lst [.str (A0 ++ B1), .str (A0 ++ ⟨#[c]⟩ ++ B0), .str (A0 ++ M1 ++ B0)]) npl)
    generalize upd H2 pl (.lst [.str (A0 ++ B1), .str (A0 ++ ⟨#[c]⟩ ++ B0), .str (A0 ++ M1 ++ B0)]) = H3 at hpl d3 ⊢
    -- two signs the other way
    refine ⟨_, rfl, _, rfl, _, rfl, _, rfl, _, _, rfl, rfl, _, rfl, _, rfl, hzb, _, rfl, hm2, fun r hr2l hrm => ?_⟩
    have sR : allSig r.cps.toList = true := List.all_eq_true.mpr fun c hc => List.all_eq_true.mp sM2 c (hrm c hc)
    refine ⟨_, rfl, .inl ⟨rfl, _, SqL.of hpl⟩, _, rfl, _, rfl, _, rfl, _, rfl, hzb, _, rfl, _, _, rfl, rfl, by rw [hA0, sizeLine_eq]; omega, ?_⟩
    refine ⟨_, rfl, _, rfl, _, _, rfl, rfl, _, rfl, _, rfl, hzb, _, _, rfl, rfl, by rw [hA0, hB2, len_append, sizeLine_eq]; omega, pl, _, _, rfl, rfl, hpl, by show 3 < sizeLine; decide, ?_⟩
    rw [hA0, hB2]
    have t4 : IsTxN (z.length + 2) (.str (A0 ++ r ++ B2)) := ⟨_, rfl, by rw [len_append, len_append]; omega, sig_appH (sig_appH sA sR) sB2⟩
    have hpl4 : (upd H3 pl (.lst ([.str (A0 ++ B1), .str (A0 ++ ⟨#[c]⟩ ++ B0), .str (A0 ++ M1 ++ B0)] ++ [.str (A0 ++ r ++ B2)]))) pl = some (.lst ([.str (A0 ++ B1), .str (A0 ++ ⟨#[c]⟩ ++ B0), .str (A0 ++ M1 ++ B0)] ++ [.str (A0 ++ r ++ B2)])) := upd_same
    have d4 : Drawn a H (upd H3 pl (.lst ([.str (A0 ++ B1), .str (A0 ++ ⟨#[c]⟩ ++ B0), .str (A0 ++ M1 ++ B0)] ++ [.str (A0 ++ r ++ B2)]))) := drawn_set d3 npl0 (Ne.symm hpa)
    generalize upd H3 pl (.lst ([.str (A0 ++ B1), .str (A0 ++ ⟨#[c]⟩ ++ B0), .str (A0 ++ M1 ++ B0)] ++ [.str (A0 ++ r ++ B2)])) = H4 at hpl4 d4 ⊢
    refine ⟨_, rfl, .inl ⟨rfl, _, SqL.of hpl4⟩, _, rfl, _, rfl, _, rfl, _, rfl, hzb, _, rfl, _, _, rfl, rfl, by rw [hA0, sizeLine_eq]; omega, ?_⟩
    refine ⟨_, rfl, _, rfl, _, _, rfl, rfl, _, rfl, _, rfl, hzb, _, _, rfl, rfl, by rw [hA0, hB1, len_append, sizeLine_eq]; omega, pl, _, _, rfl, rfl, hpl4, by show 4 < sizeLine; decide, ?_⟩
    rw [hA0, hB1]
    have hpl5 : (upd H4 pl (.lst ([.str (A0 ++ B1), .str (A0 ++ ⟨#[c]⟩ ++ B0), .str (A0 ++ M1 ++ B0)] ++ [.str (A0 ++ r ++ B2)] ++ [.str (A0 ++ ⟨#[c]⟩ ++ B1)]))) pl = some (.lst ([.str (A0 ++ B1), .str (A0 ++ ⟨#[c]⟩ ++ B0), .str (A0 ++ M1 ++ B0)] ++ [.str (A0 ++ r ++ B2)] ++ [.str (A0 ++ ⟨#[c]⟩ ++ B1)])) := upd_same
    have d5 : Drawn a H (upd H4 pl (.lst ([.str (A0 ++ B1), .str (A0 ++ ⟨#[c]⟩ ++ B0), .str (A0 ++ M1 ++ B0)] ++ [.str (A0 ++ r ++ B2)] ++ [.str (A0 ++ ⟨#[c]⟩ ++ B1)]))) := drawn_set d4 npl0 (Ne.symm hpa)
    generalize upd H4 pl (.lst ([.str (A0 ++ B1), .str (A0 ++ ⟨#[c]⟩ ++ B0), .str (A0 ++ M1 ++ B0)] ++ [.str (A0 ++ r ++ B2)] ++ [.str (A0 ++ ⟨#[c]⟩ ++ B1)])) = H5 at hpl5 d5 ⊢
    refine ⟨_, rfl, _, rfl, _, rfl, _, rfl, _, rfl, hzb, (by show 1 ≤ sizeLine; decide), fun ql nql => ?_⟩
    rw [hA0]
    have hpl6 := kn (x := .lst [.str A0]) hpl5 nql
    have hql : (upd H5 ql (.lst [.str A0])) ql = some (.lst [.str A0]) := upd_same
    have d6 := d5.same (same_new (o := .lst [.str A0]) nql)
    generalize upd H5 ql (.lst [.str A0]) = H6 at hpl6 hql d6 ⊢
    refine ⟨pl, ql, _, _, rfl, rfl, hpl6, hql, by show 6 ≤ sizeLine; decide, fun qm nqm => ?_⟩
    have hqm : (upd H6 qm (.lst ([.str (A0 ++ B1), .str (A0 ++ ⟨#[c]⟩ ++ B0), .str (A0 ++ M1 ++ B0)] ++ [.str (A0 ++ r ++ B2)] ++ [.str (A0 ++ ⟨#[c]⟩ ++ B1)] ++ [.str A0]))) qm = some (.lst [.str (A0 ++ B1), .str (A0 ++ ⟨#[c]⟩ ++ B0), .str (A0 ++ M1 ++ B0), .str (A0 ++ r ++ B2), .str (A0 ++ ⟨#[c]⟩ ++ B1), .str A0]) := upd_same
    have hqa := d6.src.neR nqm
    have d7 := d6.same (same_new (o := .lst ([.str (A0 ++ B1), .str (A0 ++ ⟨#[c]⟩ ++ B0), .str (A0 ++ M1 ++ B0)] ++ [.str (A0 ++ r ++ B2)] ++ [.str (A0 ++ ⟨#[c]⟩ ++ B1)] ++ [.str A0])) nqm)
    generalize upd H6 qm (.lst ([.str (A0 ++ B1), .str (A0 ++ ⟨#[c]⟩ ++ B0), .str (A0 ++ M1 ++ B0)] ++ [.str (A0 ++ r ++ B2)] ++ [.str (A0 ++ ⟨#[c]⟩ ++ B1)] ++ [.str A0])) = H7 at hqm d7 ⊢
    refine ⟨_, rfl, a, 6, rfl, by decide, by decide, d7.src, fun r6 H8 hr6 d8 => ?_⟩
    obtain ⟨v, hv, y, rfl, hy⟩ := pickPR (p := IsTxN (z.length + 2)) (xs := [.str (A0 ++ B1), .str (A0 ++ ⟨#[c]⟩ ++ B0), .str (A0 ++ M1 ++ B0), .str (A0 ++ r ++ B2), .str (A0 ++ ⟨#[c]⟩ ++ B1), .str A0]) (r := r6) hr6 (fun v hv => by
      simp only [List.mem_cons, List.not_mem_nil, or_false] at hv
      rcases hv with rfl | rfl | rfl | rfl | rfl | rfl
      · exact t1
      · exact t2
      · exact t3
      · exact t4
      · exact t5
      · exact t6)
    exact ⟨qm, _, _, _, rfl, rfl, SqL.of (d8.old _ _ hqa hqm), hv, q H8 y (d7.trans d8) hy.1 hy.2⟩
end
end FL


namespace FL
open PySem PySem.Spec PyProof.Rows L2
/-! ### what the law reads of one line -/
inductive LR where
  | done (f : List Nat) (more : Bool)
  | bad (k : Nat)
def scanN : Nat → List Nat → Nat → List Nat → LR
  | _, [], _, f => .done f false
  | 0, _ :: _, _, f => .done f false
  | n + 1, c :: r, q, f => if c = 61 then
      (if blk r = r.length then .done f true
      else match figV r with
        | none => .bad (q + 1 + blk r)
        | some x => match figV (r.drop 1) with
          | none => .bad (q + 2)
          | some y => scanN n (r.drop 2) (q + 3) (f ++ [16 * x + y]))
    else scanN n r (q + 1) (f ++ [c])
theorem scanN_more : ∀ (n : Nat) (s : List Nat) (q : Nat) (f : List Nat), s.length ≤ n → ∀ m, s.length ≤ m → scanN n s q f = scanN m s q f
  | n, [], _, _, _, m, _ => by cases n <;> cases m <;> rfl
  | 0, _ :: _, _, _, h, _, _ => by simp at h
  | _ + 1, _ :: _, _, _, _, 0, h => by simp at h
  | n + 1, c :: r, q, f, h1, m + 1, h2 => by
    have hr1 : r.length ≤ n := by simpa using h1
    have hr2 : r.length ≤ m := by simpa using h2
    have ih := fun (s : List Nat) (q : Nat) (f : List Nat) (hs : s.length ≤ r.length) => scanN_more n s q f (by omega) m (by omega)
    unfold scanN
    split
    · split
      · rfl
      · cases figV r with
        | none => rfl
        | some x =>
          cases figV (r.drop 1) with
          | none => rfl
          | some y => exact ih _ _ _ (by rw [List.length_drop]; omega)
    · exact ih _ _ _ (Nat.le_refl _)
def scan (s : List Nat) (q : Nat) (f : List Nat) : LR := scanN s.length s q f
theorem scan_nil (q : Nat) (f : List Nat) : scan [] q f = .done f false := rfl
theorem scan_sign {c : Nat} {r : List Nat} {q : Nat} {f : List Nat} (h : c ≠ 61) : scan (c :: r) q f = scan r (q + 1) (f ++ [c]) := by
  unfold scan
  rw [List.length_cons, scanN, if_neg h]
theorem scan_end {r : List Nat} {q : Nat} {f : List Nat} (h : blk r = r.length) : scan (61 :: r) q f = .done f true := by
  unfold scan
  rw [List.length_cons, scanN, if_pos rfl, if_pos h]
theorem scan_bad1 {r : List Nat} {q : Nat} {f : List Nat} (h : blk r ≠ r.length) (h1 : figV r = none) : scan (61 :: r) q f = .bad (q + 1 + blk r) := by
  unfold scan
  rw [List.length_cons, scanN, if_pos rfl, if_neg h, h1]
theorem scan_bad2 {r : List Nat} {q x : Nat} {f : List Nat} (h : blk r ≠ r.length) (h1 : figV r = some x) (h2 : figV (r.drop 1) = none) : scan (61 :: r) q f = .bad (q + 2) := by
  unfold scan
  rw [List.length_cons, scanN, if_pos rfl, if_neg h, h1]
  dsimp only
  rw [h2]
theorem scan_go {r : List Nat} {q x y : Nat} {f : List Nat} (h : blk r ≠ r.length) (h1 : figV r = some x) (h2 : figV (r.drop 1) = some y) : scan (61 :: r) q f = scan (r.drop 2) (q + 3) (f ++ [16 * x + y]) := by
  unfold scan
  rw [List.length_cons, scanN, if_pos rfl, if_neg h, h1]
  dsimp only
  rw [h2]
  dsimp only
  exact scanN_more _ _ _ _ (by rw [List.length_drop]; omega) _ (Nat.le_refl _)
theorem figV_32 (r : List Nat) : figV (32 :: r) = none := rfl
theorem figV_10 (r : List Nat) : figV (10 :: r) = none := rfl
theorem figV_head {r : List Nat} {x : Nat} (h : figV r = some x) : blk r = 0 := by
  cases r with
  | nil => rfl
  | cons c r =>
    refine blk_no fun e => ?_
    rw [e, figV_32] at h
    cases h
/-- a sign behind the blanks -/
theorem blk_cut : ∀ {r : List Nat}, blk r ≠ r.length → ∃ d, r[blk r]? = some d ∧ d ≠ 32 ∧ d ∈ r ∧ ∀ t : List Nat, blk (r ++ t) = blk r ∧ ((r ++ t).drop (blk r)).head? = some d
  | [], h => absurd rfl h
  | c :: r, h => by
    by_cases hc : c = 32
    · subst hc
      rw [blk_yes] at h ⊢
      obtain ⟨d, h1, h2, h3, h4⟩ := blk_cut (r := r) (by simpa using h)
      refine ⟨d, by simpa using h1, h2, List.mem_cons_of_mem _ h3, fun t => ?_⟩
      rw [List.cons_append, blk_yes, (h4 t).1, List.drop_succ_cons]
      exact ⟨rfl, (h4 t).2⟩
    · rw [blk_no hc]
      refine ⟨c, rfl, hc, List.mem_cons_self .., fun t => ?_⟩
      rw [List.cons_append, blk_no hc]
      exact ⟨rfl, rfl⟩
theorem blk_all {r : List Nat} (h : blk r = r.length) : r = List.replicate r.length 32 := by
  induction r with
  | nil => rfl
  | cons c r ih =>
    by_cases hc : c = 32
    · subst hc
      rw [blk_yes] at h
      rw [List.length_cons, List.replicate_succ, ← ih (by simpa using h)]
    · rw [blk_no hc] at h
      simp at h
theorem blk_rep (j : Nat) (t : List Nat) : blk (List.replicate j 32 ++ t) = j + blk t := by
  induction j with
  | zero => simp
  | succ j ih =>
    rw [List.replicate_succ, List.cons_append, blk_yes, ih]
    omega
theorem drop_rep (j : Nat) (t : List Nat) : (List.replicate j 32 ++ t).drop j = t := by
  have := List.drop_left (l₁ := List.replicate j 32) (l₂ := t)
  rwa [List.length_replicate] at this
/-- blanks ahead of a line feed, and it -/
theorem read_tail (j : Nat) (rest : List Nat) (n p : Nat) (acc : List Nat) (hn : j + 1 + rest.length ≤ n) : readM n (List.replicate j 32 ++ 10 :: rest) p acc = readM rest.length rest (p + j + 1) (acc ++ [10]) := by
  have lf : ∀ n p, 1 + rest.length ≤ n → readM n (10 :: rest) p acc = readM rest.length rest (p + 1) (acc ++ [10]) := fun n p h => by
    match n, h with
    | 0, h => omega
    | n + 1, h =>
      rw [readM, if_neg (by decide), if_neg (by decide)]
      exact readM_more _ _ _ _ (by omega) _ (Nat.le_refl _)
  cases j with
  | zero => exact lf n p (by omega)
  | succ j =>
    match n, hn with
    | 0, h => omega
    | n + 1, h =>
      rw [List.replicate_succ, List.cons_append, readM, if_neg (by decide), if_pos rfl, blk_yes, blk_rep, blk_no (by decide), Nat.add_zero, List.drop_succ_cons, drop_rep, if_pos (show (10 :: rest).head? = some 10 from rfl), lf _ _ (by omega)]
theorem last_drop {r : List Nat} {c k : Nat} (h : (c :: r).getLast? ≠ some 32) : (r.drop k).getLast? ≠ some 32 := by
  intro z
  refine h ?_
  have : (c :: r).drop (k + 1) = r.drop k := rfl
  rw [← this] at z
  rw [List.getLast?_drop] at z
  split at z
  · cases z
  · exact z
theorem last_tail {r : List Nat} {c : Nat} (h : (c :: r).getLast? ≠ some 32) (hr : r ≠ []) : r.getLast? ≠ some 32 := by
  have := last_drop (k := 0) h
  simpa using this
theorem last_blk {r : List Nat} {c : Nat} (h : (c :: r).getLast? ≠ some 32) (hb : blk r = r.length) : r = [] := by
  cases r with
  | nil => rfl
  | cons d r =>
    exfalso
    refine h ?_
    rw [List.getLast?_cons, blk_all hb, List.length_cons, List.replicate_succ']
    simp
/-- a line that has another behind it -/
theorem scan_line : ∀ (m : Nat) (b : List Nat) (j : Nat) (rest : List Nat) (n P q : Nat) (A f : List Nat), b.length ≤ m → 10 ∉ b → b.getLast? ≠ some 32 → b.length + j + 1 + rest.length ≤ n →
    readM n (b ++ (List.replicate j 32 ++ 10 :: rest)) (P + q) (A ++ f) = match scan b q f with
      | .done g more => readM rest.length rest (P + q + b.length + j + 1) (A ++ g ++ (if more then [] else [10]))
      | .bad k => .error (P + k)
  | m, [], j, rest, n, P, q, A, f, _, _, _, hn => by
    rw [scan_nil]
    dsimp only
    rw [List.nil_append, read_tail j rest n _ _ (by simpa using hn)]
    rfl
  | 0, _ :: _, _, _, _, _, _, _, _, h, _, _, _ => by simp at h
  | m + 1, c :: r, j, rest, n, P, q, A, f, hm, h10, hl, hn => by
    have hm' : r.length ≤ m := by simpa using hm
    rw [List.length_cons] at hn
    have h10r : 10 ∉ r := fun z => h10 (List.mem_cons_of_mem _ z)
    have hlr : r.getLast? ≠ some 32 := by simpa using last_drop (k := 0) hl
    match n, hn with
    | 0, hn => omega
    | n + 1, hn =>
      generalize hT : List.replicate j 32 ++ 10 :: rest = T
      have hTl : T.length = j + 1 + rest.length := by
        rw [← hT, List.length_append, List.length_replicate, List.length_cons]
        omega
      by_cases h61 : c = 61
      · subst h61
        by_cases hb : blk r = r.length
        · have hr := last_blk hl hb
          subst hr
          rw [scan_end hb]
          dsimp only
          rw [List.cons_append, List.nil_append, readM, if_pos rfl, ← hT, blk_rep, blk_no (by decide), Nat.add_zero, drop_rep, if_pos (show (10 :: rest).head? = some 10 from rfl)]
          have hdr : (List.replicate j 32 ++ 10 :: rest).drop (j + 1) = rest := by
            have := List.drop_drop (i := 1) (j := j) (l := List.replicate j 32 ++ 10 :: rest)
            rw [drop_rep] at this
            rw [← this]
            rfl
          rw [hdr]
          rw [readM_more n rest _ _ (by simp at hn; omega) _ (Nat.le_refl _)]
          rw [if_pos rfl, List.append_nil, show P + q + 1 + j + 1 = P + q + [61].length + j + 1 from rfl]
        · obtain ⟨d, hd1, hd2, hd3, hd4⟩ := blk_cut hb
          have hd10 : d ≠ 10 := fun e => h10r (e ▸ hd3)
          rw [List.cons_append, readM, if_pos rfl, (hd4 T).1, (hd4 T).2, if_neg (fun e => hd10 (Option.some.inj e))]
          cases hf1 : figV r with
          | none =>
            rw [scan_bad1 hb hf1]
            dsimp only
            by_cases h0 : 0 < blk r
            · rw [if_pos h0, show P + q + 1 + blk r = P + (q + 1 + blk r) by omega]
            · rw [if_neg h0]
              have h00 : blk r = 0 := by omega
              have hfT : figV (r ++ T) = none := by
                cases r with
                | nil => exact absurd rfl hb
                | cons e r => exact hf1
              rw [hfT]
              dsimp only
              rw [h00]
              rfl
          | some x =>
            have h00 := figV_head hf1
            rw [if_neg (by omega)]
            have hfT : figV (r ++ T) = some x := by
              cases r with
              | nil => cases hf1
              | cons e r => exact hf1
            rw [hfT]
            dsimp only
            cases r with
            | nil => cases hf1
            | cons e r =>
              rw [List.cons_append, List.drop_succ_cons, List.drop_zero]
              cases hf2 : figV r with
              | none =>
                rw [scan_bad2 hb hf1 (by simpa using hf2)]
                have hfT2 : figV (r ++ T) = none := by
                  cases r with
                  | nil =>
                    rw [List.nil_append, ← hT]
                    cases j <;> rfl
                  | cons e r => exact hf2
                rw [hfT2]
                rfl
              | some y =>
                rw [scan_go hb hf1 (by simpa using hf2)]
                cases r with
                | nil => cases hf2
                | cons g r =>
                  have hfT2 : figV ((g :: r) ++ T) = some y := hf2
                  rw [hfT2]
                  dsimp only
                  show readM n (r ++ T) (P + q + 3) (A ++ f ++ [16 * x + y]) = match scan r (q + 3) (f ++ [16 * x + y]) with
                    | .done g1 more => readM rest.length rest (P + q + (61 :: e :: g :: r).length + j + 1) (A ++ g1 ++ (if more then [] else [10]))
                    | .bad k => .error (P + k)
                  rw [← hT, List.append_assoc, Nat.add_assoc P q 3]
                  have hrl : r.length ≤ m := by simp at hm'; omega
                  rw [scan_line m r j rest n P (q + 3) A (f ++ [16 * x + y]) hrl (fun z => h10r (List.mem_cons_of_mem _ (List.mem_cons_of_mem _ z))) (by have := last_drop (k := 2) hl; simpa using this) (by simp at hn; omega)]
                  cases scan r (q + 3) (f ++ [16 * x + y]) with
                  | bad k => rfl
                  | done g2 more =>
                    dsimp only
                    rw [show P + (q + 3) + r.length + j + 1 = P + q + (61 :: e :: g :: r).length + j + 1 by simp; omega]
      · rw [scan_sign h61]
        have next : readM n (r ++ T) (P + q + 1) (A ++ f ++ [c]) = match scan r (q + 1) (f ++ [c]) with
            | .done g more => readM rest.length rest (P + q + (c :: r).length + j + 1) (A ++ g ++ (if more then [] else [10]))
            | .bad k => .error (P + k) := by
          rw [← hT, List.append_assoc, Nat.add_assoc P q 1, scan_line m r j rest n P (q + 1) A (f ++ [c]) hm' h10r hlr (by omega)]
          cases scan r (q + 1) (f ++ [c]) with
          | bad k => rfl
          | done g2 more =>
            dsimp only
            rw [List.length_cons, show P + (q + 1) + r.length + j + 1 = P + q + (r.length + 1) + j + 1 by omega]
        rw [← next, List.cons_append]
        by_cases h32 : c = 32
        · subst h32
          rw [readM_blank (by rw [List.length_append, hTl]; omega)]
          · exact readM_more _ _ _ _ (by rw [List.length_append, hTl]; omega) _ (by rw [List.length_append, hTl]; omega)
          · by_cases hb : blk r = r.length
            · exfalso
              have := last_blk hl hb
              subst this
              exact hl rfl
            · obtain ⟨d, hd1, hd2, hd3, hd4⟩ := blk_cut hb
              rw [(hd4 T).1, (hd4 T).2]
              exact fun e => h10r (Option.some.inj e ▸ hd3)
        · rw [readM, if_neg h61, if_neg h32]
/-- the last line -/
theorem scan_last : ∀ (m : Nat) (b : List Nat) (n P q : Nat) (A f : List Nat), b.length ≤ m → 10 ∉ b → b.length ≤ n →
    readM n b (P + q) (A ++ f) = match scan b q f with
      | .done g more => if more then .error (P + q + b.length) else .ok (A ++ g)
      | .bad k => .error (P + k)
  | m, [], n, P, q, A, f, _, _, hn => by
    rw [scan_nil, readM_nil]
    rfl
  | 0, _ :: _, _, _, _, _, _, h, _, _ => by simp at h
  | m + 1, c :: r, n, P, q, A, f, hm, h10, hn => by
    have hm' : r.length ≤ m := by simpa using hm
    rw [List.length_cons] at hn
    have h10r : 10 ∉ r := fun z => h10 (List.mem_cons_of_mem _ z)
    have hno : (r.drop (blk r)).head? ≠ some 10 := fun e => h10r (List.mem_of_mem_drop (List.mem_of_mem_head? e))
    match n, hn with
    | 0, hn => omega
    | n + 1, hn =>
      by_cases h61 : c = 61
      · subst h61
        rw [readM, if_pos rfl, if_neg hno]
        by_cases hb : blk r = r.length
        · rw [scan_end hb]
          dsimp only
          rw [if_pos rfl]
          by_cases h0 : 0 < blk r
          · rw [if_pos h0, hb, List.length_cons, show P + q + 1 + r.length = P + q + (r.length + 1) by omega]
          · have hr : r = [] := List.eq_nil_of_length_eq_zero (by omega)
            subst hr
            rfl
        · cases hf1 : figV r with
          | none =>
            rw [scan_bad1 hb hf1]
            dsimp only
            by_cases h0 : 0 < blk r
            · rw [if_pos h0, show P + q + 1 + blk r = P + (q + 1 + blk r) by omega]
            · rw [if_neg h0]
              have h00 : blk r = 0 := by omega
              rw [h00]
              rfl
          | some x =>
            have h00 := figV_head hf1
            rw [if_neg (by omega)]
            dsimp only
            cases hf2 : figV (r.drop 1) with
            | none =>
              rw [scan_bad2 hb hf1 hf2]
              rfl
            | some y =>
              rw [scan_go hb hf1 hf2]
              dsimp only
              rw [List.append_assoc, Nat.add_assoc P q 3]
              have hd : (r.drop 2).length ≤ r.length := by rw [List.length_drop]; omega
              rw [scan_last m (r.drop 2) n P (q + 3) A (f ++ [16 * x + y]) (by omega) (fun z => h10r (List.mem_of_mem_drop z)) (by omega)]
              cases scan (r.drop 2) (q + 3) (f ++ [16 * x + y]) with
              | bad k => rfl
              | done g2 more =>
                dsimp only
                have h2 : 2 ≤ r.length := by
                  match r, hf1, hf2 with
                  | _ :: _ :: _, _, _ => simp
                rw [List.length_drop, List.length_cons, show P + (q + 3) + (r.length - 2) = P + q + (r.length + 1) by omega]
      · rw [scan_sign h61]
        have next : readM n r (P + q + 1) (A ++ f ++ [c]) = match scan r (q + 1) (f ++ [c]) with
            | .done g more => if more then .error (P + q + (c :: r).length) else .ok (A ++ g)
            | .bad k => .error (P + k) := by
          rw [List.append_assoc, Nat.add_assoc P q 1, scan_last m r n P (q + 1) A (f ++ [c]) hm' h10r (by omega)]
          cases scan r (q + 1) (f ++ [c]) with
          | bad k => rfl
          | done g2 more =>
            dsimp only
            rw [List.length_cons, show P + (q + 1) + r.length = P + q + (r.length + 1) by omega]
        rw [← next]
        by_cases h32 : c = 32
        · subst h32
          rw [readM_blank (by omega) hno]
          exact readM_more _ _ _ _ (by omega) _ (by omega)
        · rw [readM, if_neg h61, if_neg h32]
/-! ### a line without its blanks at the end -/
def bareL (w : List Nat) : List Nat := (w.reverse.dropWhile fun c => decide (c = 32)).reverse
theorem bare_split (w : List Nat) : ∃ j, w = bareL w ++ List.replicate j 32 ∧ (bareL w).getLast? ≠ some 32 := by
  have h := List.takeWhile_append_dropWhile (p := fun c => decide (c = 32)) (l := w.reverse)
  have hb : w.reverse.takeWhile (fun c => decide (c = 32)) = List.replicate (blk w.reverse) 32 := by
    refine List.eq_replicate_iff.mpr ⟨rfl, fun b hb => ?_⟩
    have := List.all_eq_true.mp (List.all_takeWhile (p := fun c => decide (c = 32)) (l := w.reverse)) b hb
    exact of_decide_eq_true this
  refine ⟨blk w.reverse, ?_, ?_⟩
  · unfold bareL
    rw [← List.reverse_replicate, ← List.reverse_append, ← hb, h, List.reverse_reverse]
  · unfold bareL
    rw [List.getLast?_reverse]
    intro e
    have := List.head?_dropWhile_not (fun c => decide (c = 32)) w.reverse
    rw [e] at this
    exact absurd this (by decide)
/-! ### line by line -/
def dueL : List (List Nat) → Nat → List Nat → Except Nat (List Nat)
  | [], _, F => .ok F
  | [w], S, F => match scan w 0 [] with
    | .bad k => .error (S + k)
    | .done g _ => if w = [] then .ok (F ++ g) else .error (S + w.length)
  | w :: v :: ws, S, F => match scan (bareL w) 0 [] with
    | .bad k => .error (S + k)
    | .done g more => dueL (v :: ws) (S + w.length + 1) (F ++ g ++ (if more then [] else [10]))
theorem join_one (w : List Nat) : TL.joinL [10] [w] = w := by simp [TL.joinL]
theorem join_two (w v : List Nat) (ws : List (List Nat)) : TL.joinL [10] (w :: v :: ws) = w ++ 10 :: TL.joinL [10] (v :: ws) := by simp [TL.joinL]
theorem dueL_read : ∀ (ls : List (List Nat)) (P : Nat) (A : List Nat), ls ≠ [] → (∀ w ∈ ls, 10 ∉ w) →
    dueL ls P A = match readM (TL.joinL [10] ls).length (TL.joinL [10] ls) P A with
      | .error k => .error k
      | .ok o => if ls.getLast? = some [] then .ok o else .error (P + (TL.joinL [10] ls).length)
  | [], _, _, h, _ => absurd rfl h
  | [w], P, A, _, h10 => by
    rw [join_one]
    have := scan_last w.length w w.length P 0 A [] (Nat.le_refl _) (h10 w (List.mem_cons_self ..)) (Nat.le_refl _)
    rw [List.append_nil] at this
    rw [show readM w.length w P A = readM w.length w (P + 0) A from rfl, this]
    unfold dueL
    cases hs : scan w 0 [] with
    | bad k => rfl
    | done g more =>
      dsimp only
      by_cases hw : w = []
      · subst hw
        rw [scan_nil] at hs
        cases hs
        rfl
      · rw [if_neg hw]
        cases more with
        | true => rfl
        | false =>
          have : ¬ ([w] : List (List Nat)).getLast? = some [] := fun e => hw (Option.some.inj e)
          show _ = if ([w] : List (List Nat)).getLast? = some [] then Except.ok (A ++ g) else Except.error (P + w.length)
          rw [if_neg this]
  | w :: v :: ws, P, A, _, h10 => by
    rw [join_two]
    have h10w := h10 w (List.mem_cons_self ..)
    obtain ⟨j, hj, hl⟩ := bare_split w
    have hbl : (bareL w).length + j = w.length := by
      have := congrArg List.length hj
      rw [List.length_append, List.length_replicate] at this
      omega
    have h10b : 10 ∉ bareL w := fun z => h10w (by rw [hj]; exact List.mem_append_left _ z)
    generalize hR : TL.joinL [10] (v :: ws) = R
    have := scan_line (bareL w).length (bareL w) j R (w ++ 10 :: R).length P 0 A [] (Nat.le_refl _) h10b hl (by rw [List.length_append, List.length_cons]; omega)
    rw [← List.append_assoc, ← hj, List.append_nil] at this
    rw [show readM (w ++ 10 :: R).length (w ++ 10 :: R) P A = readM (w ++ 10 :: R).length (w ++ 10 :: R) (P + 0) A from rfl, this]
    unfold dueL
    cases hs : scan (bareL w) 0 [] with
    | bad k => rfl
    | done g more =>
      dsimp only
      rw [dueL_read (v :: ws) _ _ (by simp) (fun x hx => h10 x (List.mem_cons_of_mem _ hx)), hR, List.getLast?_cons_cons]
      rw [show P + 0 + (bareL w).length + j + 1 = P + w.length + 1 by omega]
      cases readM R.length R (P + w.length + 1) (A ++ g ++ if more then [] else [10]) with
      | error k => rfl
      | ok o =>
        dsimp only
        rw [List.length_append, List.length_cons, show P + w.length + 1 + R.length = P + (w.length + (R.length + 1)) by omega]
theorem join_last : ∀ (ls : List (List Nat)), ls ≠ [] → (∀ w ∈ ls, 10 ∉ w) → (ls.getLast? = some [] ↔ (TL.joinL [10] ls = [] ∨ (TL.joinL [10] ls).getLast? = some 10))
  | [], h, _ => absurd rfl h
  | [w], _, h10 => by
    rw [join_one]
    constructor
    · intro e
      exact .inl (Option.some.inj e)
    · rintro (e | e)
      · rw [e]
        rfl
      · exact absurd (List.mem_of_getLast? e) (h10 w (List.mem_cons_self ..))
  | w :: v :: ws, _, h10 => by
    rw [join_two, List.getLast?_cons_cons]
    have ih := join_last (v :: ws) (by simp) (fun x hx => h10 x (List.mem_cons_of_mem _ hx))
    rw [ih]
    generalize TL.joinL [10] (v :: ws) = R
    constructor
    · rintro (e | e)
      · right
        rw [e]
        simp
      · right
        rw [List.getLast?_append, List.getLast?_cons, e]
        rfl
    · rintro (e | e)
      · simp at e
      · rw [List.getLast?_append, List.getLast?_cons] at e
        cases hR : R.getLast? with
        | none => exact .inl (List.getLast?_eq_none_iff.mp hR)
        | some x =>
          rw [hR] at e
          exact .inr e
/-- the law's reading is the program's -/
theorem due_read {ls : List (List Nat)} (hne : ls ≠ []) (h10 : ∀ w ∈ ls, 10 ∉ w) : readBy readMk (TL.joinL [10] ls) = dueL ls 0 [] := by
  rw [dueL_read ls 0 [] hne h10]
  unfold readBy readMk
  have hj := join_last ls hne h10
  cases readM (TL.joinL [10] ls).length (TL.joinL [10] ls) 0 [] with
  | error k => rfl
  | ok o =>
    dsimp only
    by_cases h : ls.getLast? = some []
    · rw [if_pos h, if_neg]
      rcases hj.mp h with e | e
      · exact fun z => z.1 e
      · exact fun z => z.2 e
    · rw [if_neg h, if_pos, Nat.zero_add]
      constructor
      · exact fun e => h (hj.mpr (.inl e))
      · exact fun e => h (hj.mpr (.inr e))
end FL

namespace FL
open PySem PySem.Spec PyProof.Rows L2
theorem lsig_ix : ∀ d, d < 127 → 32 ≤ d → d ≠ 37 → d ∈ LSIG.cps.toList ∧ 32 + (LSIG.cps.toList.takeWhile fun y => !decide (y = d)).length + (if 37 < d then 1 else 0) = d := by decide +kernel
section
variable {P : Program} {w : World} {K : PySem.W.Frag} {mg : Str → Option Value} {base : Heap}
def spNumsM : Sp := fun vs H Q _ => ∃ z : Str, vs = [.str z] ∧ z.length ≤ 1000 ∧ (∀ c ∈ z.cps.toList, numb c = true) ∧ ∀ H' p, Same H H' → H p = none → H' p = some (.lst (iv z.cps.toList)) → Q (.ref p) H'
theorem scLawNumbers : FnScope ["_law_line_here", "_law_signs", "_law_one"] ["_law_line_here"] (defScope sLawNumbers) := ⟨rfl, rfl, rfl, by decide +kernel, rfl, by decide +kernel, by decide +kernel⟩
theorem r_nums (A : FnAt K mg "_law_numbers" sLawNumbers) (m_int : mg "int" = none) : Ready P w K mg base 1 "_law_numbers" ["_law_line_here"] spNumsM := by
  refine ready_of A (fun _ _ _ _ _ _ us hl => match us, hl with | [_], _ => rfl) fun f fd F => ?_
  refine F.ok scLawNumbers (fun vs H Q E h => ?_) (fun cdv A outer s H vs Q E hr h => ?_)
  · obtain ⟨z, rfl, _⟩ := h
    rfl
  · obtain ⟨z, rfl, hz, hn, q⟩ := h
    have sc := scLawNumbers
    refine ⟨_, pss_cons (ps_set (i := 1) sc.nd rfl (.inr rfl) pe_str)
      (pss_one (ps_ret (pe_lc (own := [("_law_one", 2)]) (g := gName 2) (tt := tYes) (te := (tOp _ (tOp _ (tC (.int 32)) (tBM K "str" (fun x xs H Q => ∃ a b i rest, x = .str a ∧ xs = [.str b] ∧ Builtin.Str.occurrences a b 0 a.length 1 = i :: rest ∧ Q (.int (i : Nat)) H) (tVar 1) (tCons (tVar 2) tNil))) (tCB _ (tCons (tOp _ (tVar 2) (tC (.str ("$" : Str)))) tNil)))) (by rfl) sc.nd (pi_str (pv 0)) (blkOk_by (own := [("_law_one", 2)]) (N := ["_law_line_here", "_law_signs", "_law_one"]) (sc := defScope sLawNumbers) (by decide +kernel)) (fun _ _ _ _ _ => (pg_name (i := 2) sc.nd rfl (.inl rfl))) (fun _ _ _ _ _ => pts_nil) (fun _ _ _ _ _ => (pe_op op_add (pe_op op_add pe_int (pe_bm PySem.F.plainAttrs_str PySem.F.slot_str_index PySem.F.type_str_index mt_sindex (pv 1) (pa_cons (pv 2) pa_nil))) (pe_callTy call_int1 (by rfl) m_int (by decide +kernel) (pa_cons (pe_cmpR op_gt_str (pv 2) pe_str (nomark _)) pa_nil))))))), ?_⟩
    refine ⟨_, rfl, z, rfl, fun D hD => ?_⟩
    refine lc_it walk_str (fun i H' => Same H H' ∧ H' D = some (.lst (iv (z.cps.toList.take i)))) ⟨same_new hD, upd_same⟩ (fun _ _ _ _ => trivial) (fun i x H1 H2 hi hp hy => ?_) (fun H1 hp => ?_)
    · obtain ⟨rfl, c, hc, rfl⟩ := hy
      obtain ⟨sm, hd⟩ := hp
      have hc' := cps_at hc
      have hnc := numb_iff.mp (hn c (List.mem_of_getElem? hc'))
      obtain ⟨hin, hv⟩ := lsig_ix c (by omega) (by omega) hnc.2.2
      obtain ⟨rest, hocc⟩ := occ_one hin
      refine ⟨rfl, ?_⟩
      unfold tYes
      refine iteT ?_
      refine ⟨_, rfl, rfl, _, rfl, LSIG, _, _, rest, rfl, rfl, hocc, ?_⟩
      refine ⟨_, _, rfl, rfl, _, rfl, _, _, rfl, rfl, .inr ⟨_, rfl, ?_⟩⟩
      have hgt : decide ((("$" : Str)).cps.toList < (⟨#[c]⟩ : Str).cps.toList) = decide (37 < c) := by
        have e : ("$" : Str).cps.toList = [36] := by decide +kernel
        rw [e]
        show decide ([36] < [c]) = decide (37 < c)
        refine decide_eq_decide.mpr ?_
        rw [List.cons_lt_cons_iff]
        constructor
        · intro h
          rcases h with h | ⟨_, h⟩
          · omega
          · exact absurd h (by simp)
        · intro h
          exact .inl (by omega)
      rw [hgt]
      refine ⟨_, _, rfl, rfl, _, hd, ?_, same_set sm hD, ?_⟩
      · rw [iv_len]
        exact Nat.lt_of_le_of_lt (List.length_take_le _ _) (szl (by have h2 : z.cps.size = z.length := rfl; omega))
      · rw [upd_same, take_more hc', iv_app]
        have e : (32 : Int) + ((((List.takeWhile (fun y => !decide (y = c)) LSIG.cps.toList).length : Nat) : Nat) : Int) + (if decide (37 < c) = true then 1 else 0) = ((c : Nat) : Int) := by
          by_cases h37 : 37 < c
          · rw [if_pos h37] at hv
            rw [decide_eq_true h37, if_pos rfl]
            omega
          · rw [if_neg h37] at hv
            rw [decide_eq_false h37, if_neg Bool.false_ne_true]
            omega
        show some (HO.lst (_ ++ [V.int _])) = some (HO.lst (_ ++ iv [c]))
        rw [show iv [c] = [V.int ((c : Nat) : Int)] from rfl]
        rw [← e]
    · obtain ⟨sm, hd⟩ := hp
      have e : z.cps.toList.take z.cps.size = z.cps.toList := List.take_of_length_le (by simp)
      rw [e] at hd
      exact q H1 D sm hD hd
end
end FL

namespace FL
open PySem PySem.Spec PyProof.Rows L2
theorem is32_eq : is32 = fun c => decide (c = 32) := rfl
theorem cutS_frM (z : Str) {p : Nat} (h : p ≤ z.length) : (cutS z (some (p : Nat)) none).cps.toList = z.cps.toList.drop p := by
  unfold cutS
  rw [HT.sIx_none, HT.sIx_nat, Nat.min_eq_left h]
  show (List.take _ (List.drop p _)) = _
  exact List.take_of_length_le (by rw [List.length_drop, len_cps]; omega)
theorem rstrip_codes (x : Str) : (Txt.rstripChars x (" " : Str)).cps.toList = bareL x.cps.toList := by
  unfold Txt.rstripChars
  rw [blank_has, PyProof.Rows.stripBy_eq, PySem.StrLaws.strSub_toList]
  unfold PySem.stripHi PySem.stripLo bareL
  rw [if_neg Bool.false_ne_true, if_pos rfl, List.drop_zero, is32_eq, Nat.sub_zero]
  have hx := len_cps x
  generalize x.cps.toList = l at hx ⊢
  rw [← hx, ← drop_tw, List.drop_reverse, List.reverse_reverse]
theorem lstrip_codes (x : Str) : (Txt.lstripChars x (" " : Str)).cps.toList = x.cps.toList.drop (blk x.cps.toList) := by
  unfold Txt.lstripChars
  rw [blank_has, PyProof.Rows.stripBy_eq, PySem.StrLaws.strSub_toList]
  unfold PySem.stripHi PySem.stripLo blk
  rw [if_neg Bool.false_ne_true, if_pos rfl, is32_eq]
  have hx := len_cps x
  generalize x.cps.toList = l at hx ⊢
  rw [← hx, List.take_of_length_le (by rw [List.length_drop]; exact Nat.le_refl _)]
theorem lstrip_len (x : Str) : (Txt.lstripChars x (" " : Str)).length = x.length - blk x.cps.toList := by
  rw [← len_cps, ← len_cps, lstrip_codes, List.length_drop]
theorem dw_all {p : Nat → Bool} : ∀ {l : List Nat}, l.dropWhile p = [] ↔ (l.takeWhile p).length = l.length
  | [] => by simp
  | c :: r => by
    by_cases h : p c = true
    · rw [List.dropWhile_cons_of_pos h, List.takeWhile_cons_of_pos h, dw_all, List.length_cons, List.length_cons]
      omega
    · rw [List.dropWhile_cons_of_neg h, List.takeWhile_cons_of_neg h]
      simp
theorem dw_nil {p : Nat → Bool} : ∀ {l : List Nat}, l.dropWhile p = [] → ∀ x ∈ l, p x = true
  | c :: r, h, x, hx => by
    by_cases hc : p c = true
    · rw [List.dropWhile_cons_of_pos hc] at h
      rcases List.mem_cons.mp hx with rfl | hx
      · exact hc
      · exact dw_nil h x hx
    · rw [List.dropWhile_cons_of_neg hc] at h
      cases h
theorem strip_nil (x : Str) : Txt.stripChars x (" " : Str) = ("" : Str) ↔ blk x.cps.toList = x.cps.toList.length := by
  have e0 : ("" : Str) = mk [] := by decide +kernel
  have h : Txt.stripChars x (" " : Str) = ("" : Str) ↔ stripL x.cps.toList = [] := by
    rw [← strip_codes, e0]
    constructor
    · intro e
      rw [e, mk_codes]
    · intro e
      exact mk_eq e
  rw [h]
  unfold blk
  rw [← dw_all, ← is32_eq]
  unfold stripL lst32
  constructor
  · intro e
    cases hd : x.cps.toList.dropWhile is32 with
    | nil => rfl
    | cons c r =>
      exfalso
      rw [hd] at e
      have e1 : (c :: r).reverse.dropWhile is32 = [] := List.reverse_eq_nil_iff.mp e
      have hc := List.head?_dropWhile_not is32 x.cps.toList
      rw [hd] at hc
      have hc : is32 c = false := by simpa using hc
      have hall := dw_nil e1 c (by simp)
      rw [hc] at hall
      cases hall
  · intro e
    rw [e]
    rfl
def HEXS : Str := "0123456789abcdef"
def hexI (c : Nat) : Int := match hexV c with
  | some k => (k : Int)
  | none => -1
theorem find_hex : ∀ c, c < 127 → Txt.find HEXS (mk [lo1 c]) = hexI c := by decide +kernel
theorem hexI_some {c k : Nat} (h : hexV c = some k) : hexI c = (k : Int) := by unfold hexI; rw [h]
theorem hexI_none {c : Nat} (h : hexV c = none) : hexI c = -1 := by unfold hexI; rw [h]
theorem hexV_lt43 {c k : Nat} (h : hexV c = some k) : k < 16 := by
  unfold hexV at h
  split at h
  · injection h with h; omega
  · split at h
    · injection h with h; omega
    · split at h
      · injection h with h; omega
      · cases h
section
variable {P : Program} {w : World} {K : PySem.W.Frag} {mg : Str → Option Value} {base : Heap}
def barOf (last : Bool) (l : List Nat) : List Nat := if last then l else bareL l
def spLineM : Sp := fun vs H Q _ => ∃ (z : Str) (last : Bool), vs = [.str z, .bl last] ∧ z.length ≤ 5000 ∧ (∀ c ∈ z.cps.toList, numb c = true) ∧
  (∀ g more, scan (barOf last z.cps.toList) 0 [] = .done g more → ∀ H' T p, Same H H' → H' T = some (.tup [.ref p, .bl more]) → H' p = some (.lst (iv g)) → Q (.ref T) H') ∧
  (∀ k : Nat, scan (barOf last z.cps.toList) 0 [] = .bad k → ∀ H' T, Same H H' → H' T = some (.tup [.non, .int (k : Nat)]) → Q (.ref T) H')
theorem scLawLine : FnScope ["_law_line_here", "_law_is_last", "_law_bare", "_law_found", "_law_at", "_law_figures", "_law_spot", "_law_one"] ["_law_line_here", "_law_is_last"] (defScope sLawLine) := ⟨rfl, rfl, rfl, by decide +kernel, rfl, by decide +kernel, by decide +kernel⟩
theorem r_line (A : FnAt K mg "_law_line" sLawLine) (R1 : Ready P w K mg base 1 "_law_numbers" ["_law_line_here"] spNumsM) (m_len : mg "len" = none) : Ready P w K mg base 2 "_law_line" ["_law_line_here", "_law_is_last"] spLineM := by
  obtain ⟨f1, fd1, g1, k1, b1, G1⟩ := R1
  refine ready_of A (fun _ _ _ _ _ _ us hl => match us, hl with | [_, _], _ => rfl) fun f fd F => ?_
  refine F.ok scLawLine (fun vs H Q E h => ?_) (fun cdv A outer s H vs Q E hr h => ?_)
  · obtain ⟨z, last, rfl, _⟩ := h
    rfl
  · obtain ⟨z, last, rfl, hz, hn, qd, qb⟩ := h
    have sc := scLawLine
    refine ⟨_, pss_cons (ps_set (i := 2) sc.nd rfl (.inl rfl) (pe_ifExp (pt_val (pv 1)) (pv 0) (pe_bm PySem.F.plainAttrs_str PySem.F.slot_str_rstrip PySem.F.type_str_rstrip mt_rstripChars (pv 0) (pa_cons pe_str pa_nil))))
      (pss_cons (ps_set (i := 3) sc.nd rfl (.inl rfl) (pe_lst pa_nil))
      (pss_cons (ps_set (i := 4) sc.nd rfl (.inl rfl) pe_int)
      (pss_cons (ps_while PassesOwn.never (pt_cmpR op_lt (pv 4) (pe_callB call_len_str (by rfl) m_len PySem.boot_len (pa_cons (pv 2) pa_nil)) (nomark _))
        (pss_one (ps_if (pt_cmpR op_ne (pe_item_str (pv 2) (pv 4) (fun _ _ => rfl)) pe_str (nomark _))
            (pss_cons (ps_set (i := 3) sc.nd rfl (.inl rfl) (pe_op op_cat (pv 3) (pe_call G1 (hr.mono (by decide)) (by rfl) g1 k1 b1 .nil pass0 (pa_cons (pe_item_str (pv 2) (pv 4) (fun _ _ => rfl)) pa_nil))))
              (pss_one (ps_set (i := 4) sc.nd rfl (.inl rfl) (pe_op op_add (pv 4) pe_int))))
            (pss_one (ps_if (pt_cmpR op_eq (pe_bm PySem.F.plainAttrs_str PySem.F.slot_str_strip PySem.F.type_str_strip mt_stripChars (pe_slice sl_str (pv 2) (po_some (pe_op op_add (pv 4) pe_int)) po_none) (pa_cons pe_str pa_nil)) pe_str (nomark _))
                (pss_one (ps_ret (pe_tup (pa_cons (pv 3) (pa_cons pe_bl pa_nil)))))
                (pss_cons (ps_setLc (i := 5) (own := [("_law_one", 7)]) (g := gName 7) (tt := tYes) (te := (tM1 _ (tC (.str ("0123456789abcdef" : Str))) (tVar 7))) (by rfl) sc.nd rfl rfl (sw_true rfl rfl rfl (by decide +kernel)) (pi_str (pe_lower (pe_slice sl_str (pv 2) (po_some (pe_op op_add (pv 4) pe_int)) (po_some (pe_op op_add (pv 4) pe_int))))) (blkOk_by (own := [("_law_one", 7)]) (N := ["_law_line_here", "_law_is_last", "_law_bare", "_law_found", "_law_at", "_law_figures", "_law_spot", "_law_one"]) (sc := defScope sLawLine) (by decide +kernel)) (fun _ _ _ _ _ => (pg_name (i := 7) sc.nd rfl (.inl rfl))) (fun _ _ _ _ _ => pts_nil) (fun _ _ _ _ _ => (pe_m1 PySem.F.slot_str_find PySem.F.type_str_find mt_find pe_str (pv 7))))
                  (pss_cons (ps_if (pt_cmpR op_lt (pe_ix ix_list (pv 5) pe_int (fun _ _ => rfl)) pe_int (nomark _))
                    (pss_cons (ps_set (i := 6) sc.nd rfl (.inl rfl) (pe_op op_sub (pe_op op_add (pe_op op_add (pv 4) pe_int) (pe_callB call_len_str (by rfl) m_len PySem.boot_len (pa_cons (pe_slice sl_str (pv 2) (po_some (pe_op op_add (pv 4) pe_int)) po_none) pa_nil))) (pe_callB call_len_str (by rfl) m_len PySem.boot_len (pa_cons (pe_bm PySem.F.plainAttrs_str PySem.F.slot_str_lstrip PySem.F.type_str_lstrip mt_lstripChars (pe_slice sl_str (pv 2) (po_some (pe_op op_add (pv 4) pe_int)) po_none) (pa_cons pe_str pa_nil)) pa_nil))))
                      (pss_one (ps_ret (pe_tup (pa_cons pe_non (pa_cons (pv 6) pa_nil))))))
                    pss_nil)
                  (pss_cons (ps_if (PW.pt (pw_or (pt_cmpR op_lt (pe_callB call_len_seq (by rfl) m_len PySem.boot_len (pa_cons (pv 5) pa_nil)) pe_int (nomark _)) (pw_or1 (pt_cmpR op_lt (pe_ix ix_list (pv 5) pe_int (fun _ _ => rfl)) pe_int (nomark _)))))
                    (pss_one (ps_ret (pe_tup (pa_cons pe_non (pa_cons (pe_op op_add (pv 4) pe_int) pa_nil)))))
                    pss_nil)
                  (pss_cons (ps_expr (pe_bm PySem.F.plainAttrs_list PySem.F.slot_list_append PySem.F.type_list_append mt_append (pv 3) (pa_cons (pe_op op_add (pe_op op_mul pe_int (pe_ix ix_list (pv 5) pe_int (fun _ _ => rfl))) (pe_ix ix_list (pv 5) pe_int (fun _ _ => rfl))) pa_nil)))
                  (pss_one (ps_set (i := 4) sc.nd rfl (.inl rfl) (pe_op op_add (pv 4) pe_int))))))))))))
      (pss_one (ps_ret (pe_tup (pa_cons (pv 3) (pa_cons pe_bl pa_nil)))))))), ?_⟩
    have hzl : z.length ≤ sizeLine := Nat.le_trans hz (by decide)
    obtain ⟨b, hbc, hbl, hE⟩ : ∃ b : Str, b.cps.toList = barOf last z.cps.toList ∧ b.length ≤ 5000 ∧ ∀ (σ : L2.St) (Q : VK), σ[0]? = some (some (.str z)) → Q (.str b) H → (if last = true then tVar 0 σ H Q else tBM K "str" (fun x xs H Q => ∃ a b, x = .str a ∧ xs = [.str b] ∧ a.length ≤ sizeLine ∧ Q (.str (Txt.rstripChars a b)) H) (tVar 0) (tCons (tC (.str (" " : Str))) tNil) σ H Q) := by
      cases last with
      | true => exact ⟨z, rfl, hz, fun σ Q e h => iteT ⟨_, e, h⟩⟩
      | false => exact ⟨Txt.rstripChars z (" " : Str), rstrip_codes z, Nat.le_trans (PyProof.Rows.len_rstripChars _ _) hz, fun σ Q e h => iteF ⟨_, e, rfl, z, _, rfl, rfl, hzl, h⟩⟩
    have hN : ∀ c ∈ b.cps.toList, numb c = true := fun c hc => by
      rw [hbc] at hc
      cases last with
      | true => exact hn c hc
      | false =>
        refine hn c ?_
        obtain ⟨j, hj, _⟩ := bare_split z.cps.toList
        rw [hj]
        exact List.mem_append_left _ hc
    have hbL : b.cps.toList.length = b.length := len_cps b
    rw [← hbc] at qd qb
    generalize hB : b.cps.toList = B at hN hbL qd qb
    have hbs : b.length ≤ sizeLine := Nat.le_trans hbl (by decide)
    refine ⟨_, rfl, last, rfl, hE _ _ rfl ?_⟩
    refine ⟨(by show 0 ≤ sizeLine; decide), fun fp nfp => ?_⟩
    refine ⟨fun m σ H' => ∃ (qn : Nat) (f : List Nat) (fp : Addr) (y5 y6 y7 : Option V), σ = [some (.str z), some (.bl last), some (.str b), some (.ref fp), some (.int (qn : Nat)), y5, y6, y7] ∧ Same H H' ∧ H fp = none ∧ H' fp = some (.lst (iv f)) ∧ qn ≤ B.length ∧ f.length ≤ qn ∧ m = B.length - qn ∧ scan B 0 [] = scan (B.drop qn) qn f, ⟨B.length - 0, 0, [], fp, none, none, none, rfl, same_new nfp, nfp, upd_same, Nat.zero_le _, Nat.le_refl _, rfl, rfl⟩, fun m σ H' hW => ?_⟩
    obtain ⟨qn, f, fp, y5, y6, y7, rfl, sm, nf, hfp, hq, hfl, rfl, hscan⟩ := hW
    refine ⟨_, rfl, _, rfl, b, rfl, hbs, _, _, rfl, rfl, _, rfl, ?_⟩
    by_cases h1 : qn < b.length
    case' neg =>
      rw [decide_eq_false (by omega : ¬ (qn : Int) < (b.length : Int))]
      refine iteF ⟨_, rfl, (by show 2 ≤ sizeLine; decide), fun T nT => ?_⟩
      rw [List.drop_eq_nil_of_le (by omega : B.length ≤ qn), scan_nil] at hscan
      exact qd f false hscan _ T fp (sm.trans (same_new nT)) upd_same (kn hfp nT)
    rw [decide_eq_true (by omega : (qn : Int) < (b.length : Int))]
    obtain ⟨c, hc⟩ : ∃ c, b.cps[qn]? = some c := ⟨_, Array.getElem?_eq_getElem (show qn < b.cps.size from h1)⟩
    have hcB := cps_at hc
    rw [hB] at hcB
    have hd := drop_at hcB
    have hcn := hN c (List.mem_of_getElem? hcB)
    rw [hd] at hscan
    have e61 : ("=" : Str) = ⟨#[61]⟩ := by decide +kernel
    refine iteT ⟨fun σ' H'' => ∃ (q' : Nat) (f' : List Nat) (fp' : Addr) (u5 u6 u7 : Option V), σ' = [some (.str z), some (.bl last), some (.str b), some (.ref fp'), some (.int (q' : Nat)), u5, u6, u7] ∧ Same H H'' ∧ H fp' = none ∧ H'' fp' = some (.lst (iv f')) ∧ q' ≤ B.length ∧ f'.length ≤ q' ∧ qn < q' ∧ scan B 0 [] = scan (B.drop q') q' f', fun σ' H'' hN => ?_, ?_⟩
    · obtain ⟨q', f', fp', u5, u6, u7, rfl, a1, a2, a3, a4, a5, a6, a7⟩ := hN
      exact ⟨_, (by omega : B.length - q' < B.length - qn), q', f', fp', u5, u6, u7, rfl, a1, a2, a3, a4, a5, rfl, a7⟩
    refine ⟨_, rfl, _, rfl, b, _, c, rfl, rfl, by omega, by omega, by omega, by rw [Int.toNat_natCast]; exact hc, rfl, _, rfl, ?_⟩
    rw [show (!decide (V.str ⟨#[c]⟩ = V.str ("=" : Str))) = !decide (c = 61) from congrArg _ (sgn_is e61)]
    by_cases h61 : c = 61
    case' neg =>
      rw [decide_eq_false h61]
      rw [scan_sign h61] at hscan
      refine iteT ⟨_, rfl, _, rfl, _, rfl, b, _, c, rfl, rfl, by omega, by omega, by omega, by rw [Int.toNat_natCast]; exact hc, ?_⟩
      refine ⟨⟨#[c]⟩, rfl, by show 1 ≤ 1000; decide, fun d hd2 => ?_, fun H2 p2 s2 n2 hp2 => ?_⟩
      · rw [show d = c from by simpa using hd2]
        exact hcn
      refine ⟨fp, p2, _, _, rfl, rfl, s2 _ _ hfp, hp2, by rw [iv_len, iv_len, sizeLine_eq]; show f.length + 1 ≤ _; omega, fun p3 n3 => ?_⟩
      have s3 := (sm.trans s2).trans (same_new (o := .lst (iv f ++ iv [c])) n3)
      exact ⟨_, rfl, _, _, rfl, rfl, qn + 1, f ++ [c], p3, y5, y6, y7, rfl, s3, Same.free (sm.trans s2) n3, by rw [upd_same, iv_app], by omega, by rw [List.length_append, List.length_singleton]; omega, Nat.lt_succ_self _, hscan⟩
    subst h61
    rw [decide_eq_true rfl]
    have hcd : ∀ x : Int, x = ((qn : Nat) : Int) + 1 → (cutS b (some x) none).cps.toList = B.drop (qn + 1) := fun x hx => by
      rw [hx, ← hB]
      exact cutS_frM b (p := qn + 1) (by omega)
    have hcl : (cutS b (some (((qn : Nat) : Int) + 1)) none).length = b.length - (qn + 1) := by
      rw [← len_cps, hcd _ rfl, List.length_drop, hbL]
    have hcz : (cutS b (some (((qn : Nat) : Int) + 1)) none).length ≤ sizeLine := by omega
    refine iteF ⟨_, rfl, _, rfl, _, _, rfl, rfl, _, rfl, b, rfl, hbs, rfl, _, _, rfl, rfl, hcz, rfl, _, rfl, ?_⟩
    generalize hR : B.drop (qn + 1) = r at hscan hcd
    have hrl : r.length = B.length - (qn + 1) := by rw [← hR, List.length_drop]
    have hsn : decide (V.str (Txt.stripChars (cutS b (some (((qn : Nat) : Int) + 1)) none) (" " : Str)) = V.str ("" : Str)) = decide (blk r = r.length) := by
      refine decide_eq_decide.mpr ?_
      rw [V.str.injEq, strip_nil, hcd _ rfl]
    rw [hsn]
    by_cases hb : blk r = r.length
    case' pos =>
      rw [decide_eq_true hb]
      rw [scan_end hb] at hscan
      refine iteT ⟨_, rfl, (by show 2 ≤ sizeLine; decide), fun T nT => ?_⟩
      exact qd f true hscan _ T fp (sm.trans (same_new nT)) upd_same (kn hfp nT)
    rw [decide_eq_false hb]
    have hc2 : (cutS b (some (((qn : Nat) : Int) + 1)) (some (((qn : Nat) : Int) + 3))).cps.toList = r.take 2 := by
      have := cutS_codes b (i := qn + 1) (j := qn + 3) (by omega)
      rw [hB, hR, show qn + 3 - (qn + 1) = 2 by omega] at this
      exact this
    generalize hZ : cutS b (some (((qn : Nat) : Int) + 1)) (some (((qn : Nat) : Int) + 3)) = Z at hc2
    have hZN : ∀ d ∈ Z.cps.toList, numb d = true := fun d hd2 => by
      rw [hc2, ← hR] at hd2
      exact hN d (List.mem_of_mem_drop (List.mem_of_mem_take hd2))
    have hZl : Z.length ≤ 2 := by
      rw [← len_cps, hc2, List.length_take]
      omega
    have hlow : Txt.lower Z = ⟨Z.cps.map lo1⟩ := PyProof.Rows.lower_ascii fun d hd2 => by
      have := numb_iff.mp (hZN d hd2)
      omega
    refine iteF ⟨_, rfl, _, rfl, _, _, rfl, rfl, _, rfl, _, rfl, _, _, rfl, rfl, _, rfl, b, rfl, hbs, ⟨_, rfl⟩, _, rfl, rfl, ?_⟩
    rw [hZ]
    refine ⟨by omega, _, rfl, fun D hD => ?_⟩
    rw [hlow]
    refine lc_it (walk_str (z := ⟨Z.cps.map lo1⟩)) (fun i H2 => Same H' H2 ∧ H2 D = some (.lst (((r.take 2).take i).map fun d => V.int (hexI d)))) ⟨same_new hD, upd_same⟩ (fun _ _ _ _ => trivial) (fun i x H3 H4 hi hp hy => ?_) (fun H3 hp => ?_)
    · obtain ⟨rfl, c2, hc2a, rfl⟩ := hy
      obtain ⟨sm3, hd3⟩ := hp
      rw [Array.getElem?_map] at hc2a
      obtain ⟨d, hda, rfl⟩ := Option.map_eq_some_iff.mp hc2a
      have hdl := cps_at hda
      rw [hc2] at hdl
      have hdn := numb_iff.mp (hZN d (by rw [hc2]; exact List.mem_of_getElem? hdl))
      refine ⟨rfl, ?_⟩
      unfold tYes
      refine iteT ⟨⟨_, rfl⟩, _, rfl, _, _, rfl, rfl, ?_⟩
      refine ⟨_, hd3, ?_, same_set sm3 hD, ?_⟩
      · rw [List.length_map, List.length_take, List.length_take]
        exact szl (by omega)
      · rw [upd_same, take_more hdl, List.map_append]
        show some (HO.lst (_ ++ [V.int (Txt.find HEXS (mk [lo1 d]))])) = _
        rw [find_hex d (by omega)]
        rfl
    obtain ⟨sm3, hd3⟩ := hp
    have hfull : (r.take 2).take (⟨Z.cps.map lo1⟩ : Str).cps.size = r.take 2 := by
      refine List.take_of_length_le ?_
      show _ ≤ (Z.cps.map lo1).size
      rw [Array.size_map, ← Array.length_toList, hc2]
      exact Nat.le_refl _
    rw [hfull] at hd3
    have sm4 := sm.trans sm3
    have hfp3 := sm3 _ _ hfp
    cases r with
    | nil => exact absurd rfl hb
    | cons d r' =>
      cases hv : hexV d with
      | none =>
        have hf1 : figV (d :: r') = none := hv
        rw [scan_bad1 hb hf1] at hscan
        refine ⟨_, rfl, D, _, _, .int (hexI d), rfl, rfl, SqL.of hd3, atI_nat (j := 0) rfl, _, _, rfl, rfl, _, rfl, ?_⟩
        rw [hexI_none hv, decide_eq_true (by omega : (-1 : Int) < 0)]
        refine iteT ?_
        have hlz : (Txt.lstripChars (cutS b (some (((qn : Nat) : Int) + 1)) none) (" " : Str)).length = b.length - (qn + 1) - blk (d :: r') := by
          rw [lstrip_len, hcl, hcd _ rfl]
        refine ⟨_, rfl, _, _, rfl, rfl, _, rfl, _, rfl, _, _, rfl, rfl, _, rfl, b, rfl, hbs, _, rfl, hcz, _, _, rfl, rfl, ?_⟩
        refine ⟨_, rfl, _, rfl, _, _, rfl, rfl, _, rfl, b, rfl, hbs, rfl, _, _, rfl, rfl, hcz, _, rfl, by omega, _, _, rfl, rfl, ?_⟩
        refine ⟨_, rfl, (by show 2 ≤ sizeLine; decide), fun T nT => ?_⟩
        have hbk := blk_le (d :: r')
        have e : ((qn : Nat) : Int) + 1 + (((cutS b (some (((qn : Nat) : Int) + 1)) none).length : Nat) : Int) - (((Txt.lstripChars (cutS b (some (((qn : Nat) : Int) + 1)) none) (" " : Str)).length : Nat) : Int) = ((qn + 1 + blk (d :: r') : Nat) : Int) := by
          rw [hlz, hcl]
          omega
        refine qb _ hscan _ T (sm4.trans (same_new nT)) ?_
        rw [upd_same]
        show some (HO.tup [V.non, V.int _]) = _
        rw [e]
      | some x =>
        have hf1 : figV (d :: r') = some x := hv
        have hx16 := hexV_lt43 hv
        refine ⟨_, rfl, D, _, _, .int (hexI d), rfl, rfl, SqL.of hd3, atI_nat (j := 0) rfl, _, _, rfl, rfl, _, rfl, ?_⟩
        rw [hexI_some hv, decide_eq_false (by omega : ¬ ((x : Nat) : Int) < 0)]
        refine iteF ?_
        refine ⟨_, rfl, D, _, rfl, .inl (SqL.of hd3), _, _, rfl, rfl, _, rfl, ?_⟩
        cases r' with
        | nil =>
          rw [scan_bad2 hb hf1 rfl] at hscan
          refine iteT (iteT ⟨_, rfl, _, _, rfl, rfl, (by show 2 ≤ sizeLine; decide), fun T nT => ?_⟩)
          exact qb _ hscan _ T (sm4.trans (same_new nT)) upd_same
        | cons e r2 =>
          refine iteF ?_
          refine ⟨_, rfl, D, _, _, .int (hexI e), rfl, rfl, SqL.of hd3, rfl, _, _, rfl, rfl, _, rfl, ?_⟩
          cases hv2 : hexV e with
          | none =>
            rw [scan_bad2 hb hf1 (show figV ((d :: e :: r2).drop 1) = none from hv2)] at hscan
            rw [hexI_none hv2, decide_eq_true (by omega : (-1 : Int) < 0)]
            refine iteT ⟨_, rfl, _, _, rfl, rfl, (by show 2 ≤ sizeLine; decide), fun T nT => ?_⟩
            exact qb _ hscan _ T (sm4.trans (same_new nT)) upd_same
          | some y =>
            have hy16 := hexV_lt43 hv2
            rw [scan_go hb hf1 (show figV ((d :: e :: r2).drop 1) = some y from hv2)] at hscan
            rw [hexI_some hv2, decide_eq_false (by omega : ¬ ((y : Nat) : Int) < 0)]
            refine iteF ?_
            refine ⟨_, rfl, .inl ⟨rfl, _, SqL.of hfp3⟩, _, rfl, D, _, _, .int (hexI d), rfl, rfl, SqL.of hd3, rfl, ?_⟩
            rw [hexI_some hv]
            refine ⟨_, _, rfl, rfl, .inl ⟨by decide, by decide⟩, _, rfl, D, _, _, .int (hexI e), rfl, rfl, SqL.of hd3, rfl, ?_⟩
            rw [hexI_some hv2]
            refine ⟨_, _, rfl, rfl, fp, _, _, rfl, rfl, hfp3, by rw [iv_len]; exact szl (by omega), ?_⟩
            refine ⟨_, rfl, _, _, rfl, rfl, qn + 3, f ++ [16 * x + y], fp, _, _, _, rfl, same_set sm4 nf, nf, ?_, ?_, by rw [List.length_append, List.length_singleton]; omega, by omega, ?_⟩
            · rw [upd_same, iv_app]
              rfl
            · have : (d :: e :: r2).length = r2.length + 2 := rfl
              omega
            · rw [hscan, ← List.drop_drop (i := 2) (j := qn + 1), hR]
end
end FL

namespace FL
open PySem PySem.Spec PyProof.Rows L2
theorem scan_len : ∀ (n : Nat) (s : List Nat) (q : Nat) (f : List Nat), s.length ≤ n → ∀ g more, scan s q f = .done g more → g.length ≤ f.length + s.length
  | _, [], q, f, _, g, more, h => by
    rw [scan_nil] at h
    cases h
    simp
  | 0, _ :: _, _, _, h, _, _, _ => by simp at h
  | n + 1, c :: r, q, f, hn, g, more, h => by
    have hr : r.length ≤ n := by simpa using hn
    by_cases h61 : c = 61
    · subst h61
      by_cases hb : blk r = r.length
      · rw [scan_end hb] at h
        cases h
        simp
      · cases hf1 : figV r with
        | none =>
          rw [scan_bad1 hb hf1] at h
          cases h
        | some x =>
          cases hf2 : figV (r.drop 1) with
          | none =>
            rw [scan_bad2 hb hf1 hf2] at h
            cases h
          | some y =>
            rw [scan_go hb hf1 hf2] at h
            have := scan_len n (r.drop 2) _ _ (by rw [List.length_drop]; omega) g more h
            rw [List.length_drop, List.length_append, List.length_singleton] at this
            rw [List.length_cons]
            have h2 : 2 ≤ r.length := by
              match r, hf1, hf2 with
              | _ :: _ :: _, _, _ => simp
            omega
    · rw [scan_sign h61] at h
      have := scan_len n r _ _ hr g more h
      rw [List.length_append, List.length_singleton] at this
      rw [List.length_cons]
      omega
theorem bare_len (w : List Nat) : (bareL w).length ≤ w.length := by
  obtain ⟨j, hj, _⟩ := bare_split w
  have := congrArg List.length hj
  rw [List.length_append] at this
  omega
theorem bar_len (b : Bool) (w : List Nat) : (barOf b w).length ≤ w.length := by
  cases b with
  | true => exact Nat.le_refl _
  | false => exact bare_len w
theorem sig_numb {c : Nat} (h : isSig c = true) (h10 : c ≠ 10) : numb c = true := by
  unfold isSig at h
  refine numb_iff.mpr ?_
  simp at h
  omega
theorem dueL_cons2 {w v : List Nat} {ws : List (List Nat)} {S : Nat} {F : List Nat} : dueL (w :: v :: ws) S F = match scan (bareL w) 0 [] with
    | .bad k => .error (S + k)
    | .done g more => dueL (v :: ws) (S + w.length + 1) (F ++ g ++ (if more then [] else [10])) := rfl
section
variable {P : Program} {w : World} {K : PySem.W.Frag} {mg : Str → Option Value} {base : Heap}
def spDueM : Sp := fun vs H Q _ => ∃ z : Str, vs = [.str z] ∧ z.length ≤ 3000 ∧ allSig z.cps.toList = true ∧
  (∀ o, readBy readMk z.cps.toList = .ok o → ∀ H' T p, Same H H' → H' T = some (.tup [.str "told", .ref p]) → H' p = some (.lst (iv o)) → Q (.ref T) H') ∧
  (∀ p : Nat, readBy readMk z.cps.toList = .error p → ∀ H' T, Same H H' → H' T = some (.tup [.str "code", .int (p : Nat)]) → Q (.ref T) H')
theorem scDue : FnScope ["_law_line_here", "_law_lines", "_law_found", "_law_start", "_law_k", "_law_one", "_law_some", "_law_more"] ["_law_line_here"] (defScope sDue) := ⟨rfl, rfl, rfl, by decide +kernel, rfl, by decide +kernel, by decide +kernel⟩
theorem r_dueM (A : FnAt K mg "_law_due" sDue) (R1 : Ready P w K mg base 2 "_law_line" ["_law_line_here", "_law_is_last"] spLineM) (m_len : mg "len" = none) (m_enumerate : mg "enumerate" = none) : Ready P w K mg base 3 "_law_due" ["_law_line_here"] spDueM := by
  obtain ⟨f1, fd1, g1, k1, b1, G1⟩ := R1
  refine ready_of A (fun _ _ _ _ _ _ us hl => match us, hl with | [_], _ => rfl) fun f fd F => ?_
  refine F.ok scDue (fun vs H Q E h => ?_) (fun cdv A outer s H vs Q E hr h => ?_)
  · obtain ⟨z, rfl, _⟩ := h
    rfl
  · obtain ⟨z, rfl, hz, hsg, qt, qc⟩ := h
    have sc := scDue
    refine ⟨_, pss_cons (ps_set (i := 1) sc.nd rfl (.inl rfl) (pe_split (pv 0) pe_str))
      (pss_cons (ps_set (i := 2) sc.nd rfl (.inl rfl) (pe_lst pa_nil))
      (pss_cons (ps_set (i := 3) sc.nd rfl (.inl rfl) pe_int)
      (pss_cons (ps_for PassesOwn.never rfl (pi_enum (by rfl) m_enumerate (pa_cons (pv 1) pa_nil)) (pg_tup rfl (pgs_cons (pg_name (i := 4) sc.nd rfl (.inl rfl)) (pgs_cons (pg_name (i := 5) sc.nd rfl (.inl rfl)) pgs_nil)))
        (pss_cons (ps_asg (pe_call G1 (hr.mono (by decide)) (by rfl) g1 k1 b1 .nil pass0 (pa_cons (pv 5) (pa_cons (pe_cmpR op_eq (pv 4) (pe_op op_sub (pe_callB call_len_seq (by rfl) m_len PySem.boot_len (pa_cons (pv 1) pa_nil)) pe_int) (nomark _)) pa_nil))) (pg_tup rfl (pgs_cons (pg_name (i := 6) sc.nd rfl (.inl rfl)) (pgs_cons (pg_name (i := 7) sc.nd rfl (.inl rfl)) pgs_nil))))
          (pss_cons (ps_if (pt_cmpR op_isN (pv 6) pe_non (nomark _))
            (pss_one (ps_ret (pe_tup (pa_cons pe_str (pa_cons (pe_op op_add (pv 3) (pv 7)) pa_nil)))))
            pss_nil)
          (pss_cons (ps_set (i := 2) sc.nd rfl (.inl rfl) (pe_op op_cat (pv 2) (pv 6)))
          (pss_cons (ps_if (PW.pt (pw_and (pt_not (pt_truth (pv 7) (by intro _; rfl))) (pw_and1 (pt_cmpR op_lt (pv 4) (pe_op op_sub (pe_callB call_len_seq (by rfl) m_len PySem.boot_len (pa_cons (pv 1) pa_nil)) pe_int) (nomark _)))))
            (pss_one (ps_expr (pe_bm PySem.F.plainAttrs_list PySem.F.slot_list_append PySem.F.type_list_append mt_append (pv 2) (pa_cons pe_int pa_nil))))
            pss_nil)
          (pss_one (ps_set (i := 3) sc.nd rfl (.inl rfl) (pe_op op_add (pe_op op_add (pv 3) (pe_callB call_len_str (by rfl) m_len PySem.boot_len (pa_cons (pv 5) pa_nil))) pe_int))))))))
      (pss_cons (ps_if (pt_cmpR op_ne (pe_ix ix_list (pv 1) (pe_un un_neg pe_int) (fun _ _ => rfl)) pe_str (nomark _))
        (pss_one (ps_ret (pe_tup (pa_cons pe_str (pa_cons (pe_callB call_len_str (by rfl) m_len PySem.boot_len (pa_cons (pv 0) pa_nil)) pa_nil)))))
        pss_nil)
      (pss_one (ps_ret (pe_tup (pa_cons pe_str (pa_cons (pv 2) pa_nil))))))))), ?_⟩
    have hzl : z.length ≤ sizeLine := Nat.le_trans hz (by decide)
    have hlz := len_cps z
    have hJ := spl_join z.cps.toList
    have hNo := spl_no z.cps.toList
    have hLe := spl_le z.cps.toList
    have hne : (spl z.cps.toList).1 :: (spl z.cps.toList).2 ≠ [] := by simp
    generalize hls : (spl z.cps.toList).1 :: (spl z.cps.toList).2 = ls at hJ hNo hLe hne
    have hdr := due_read hne hNo
    rw [← hJ] at hdr
    rw [hdr] at qt qc
    have hzm : z = mk (TL.joinL [10] ls) := by
      rw [← hJ]
      exact (mk_eq rfl).symm
    have hsp : Txt.split z ("\n" : Str) = ls.map mk := by
      rw [hzm]
      exact split_lf hne hNo
    have hsum : ls.length + (ls.map List.length).sum = (TL.joinL [10] ls).length + 1 := by
      clear hls hJ hNo hLe hdr qt qc hzm hsp
      induction ls with
      | nil => exact absurd rfl hne
      | cons a r ih =>
        cases r with
        | nil =>
          rw [join_one]
          simp
          omega
        | cons b r =>
          have := ih (by simp)
          rw [join_two]
          simp at this ⊢
          omega
    have hln : ls.length ≤ 3001 := by
      rw [← hJ, hlz] at hsum
      omega
    have hnum : ∀ q ∈ ls, ∀ c ∈ q, numb c = true := fun q hq c hc => by
      have h1 : c ∈ z.cps.toList := by
        rw [hJ]
        clear hls hJ hNo hLe hdr qt qc hzm hsp hsum hln
        induction ls with
        | nil => cases hq
        | cons a r ih =>
          cases r with
          | nil =>
            rw [join_one, ← List.mem_singleton.mp hq]
            exact hc
          | cons b r =>
            rw [join_two]
            rcases List.mem_cons.mp hq with rfl | hq
            · exact List.mem_append_left _ hc
            · exact List.mem_append_right _ (List.mem_cons_of_mem _ (ih (by simp) hq))
      have h2 := List.all_eq_true.mp hsg c h1
      exact sig_numb h2 fun e => hNo q hq (e ▸ hc)
    refine ⟨_, rfl, ⟨_, rfl⟩, _, _, rfl, rfl, by decide +kernel, by rw [sizeLine_eq]; omega, fun pq npq => ?_⟩
    rw [hsp]
    have s1 : Same H (upd H pq (.lst ((ls.map mk).map V.str))) := same_new npq
    have hpq : (upd H pq (.lst ((ls.map mk).map V.str))) pq = some (.lst ((ls.map mk).map V.str)) := upd_same
    generalize upd H pq (.lst ((ls.map mk).map V.str)) = H1 at s1 hpq ⊢
    refine ⟨(by show 0 ≤ sizeLine; decide), fun fp nfp => ?_⟩
    have nfp0 := Same.free s1 nfp
    have hll : ((ls.map mk).map V.str).length = ls.length := by rw [List.length_map, List.length_map]
    refine ⟨_, rfl, pq, _, rfl, SqL.of (kn hpq nfp), ?_⟩
    refine for_it (walk_enum (K := K) (a := pq) (xs := (ls.map mk).map V.str)) (fun i σ H' => ∃ (F : List Nat) (S : Nat) (fp : Addr) (y4 y5 y6 y7 : Option V), σ = [some (.str z), some (.ref pq), some (.ref fp), some (.int (S : Nat)), y4, y5, y6, y7] ∧ Same H1 H' ∧ H1 fp = none ∧ H' fp = some (.lst (iv F)) ∧ F.length ≤ S ∧
        (i < ls.length → dueL ls 0 [] = dueL (ls.drop i) S F ∧ S + (TL.joinL [10] (ls.drop i)).length = z.length) ∧ (i = ls.length → dueL ls 0 [] = if ls.getLast? = some [] then .ok F else .error z.length))
      ⟨[], 0, fp, none, none, none, none, rfl, same_new nfp, nfp, upd_same, Nat.le_refl _, fun _ => ⟨rfl, by rw [List.drop_zero, ← hJ, hlz, Nat.zero_add]⟩, fun e => absurd (List.eq_nil_of_length_eq_zero e.symm) hne⟩
      (fun i σ H' _ hp => ?_) (fun i x σ H2 H3 hi hp hy => ?_) (fun σ H2 hp => ?_)
    · obtain ⟨F, S, fp2, y4, y5, y6, y7, rfl, sm, _⟩ := hp
      exact SqL.of (sm _ _ hpq)
    · obtain ⟨F, S, fp2, y4, y5, y6, y7, rfl, sm, nf, hfp, hFS, hE, _⟩ := hp
      obtain ⟨T, xx, yy, rfl, nT, rfl, hxx, hyy⟩ := hy
      injection hxx with hxx
      subst hxx
      rw [hll] at hi
      obtain ⟨hE, hSum⟩ := hE hi
      obtain ⟨lw, hlw⟩ : ∃ lw, ls[i]? = some lw := ⟨_, List.getElem?_eq_getElem hi⟩
      have hyy : ((ls.map mk).map V.str)[i]? = some yy := hyy
      rw [List.getElem?_map, List.getElem?_map, hlw] at hyy
      injection hyy with hyy
      subst hyy
      have hmem := List.mem_of_getElem? hlw
      have hdr : ls.drop i = lw :: ls.drop (i + 1) := by
        rw [List.drop_eq_getElem_cons hi]
        congr 1
        exact (List.getElem?_eq_some_iff.mp hlw).2
      rw [hdr] at hE hSum
      have hlwl : lw.length ≤ 3000 := by
        have := hLe lw hmem
        omega
      refine ⟨T, _, rfl, SqT.of upd_same, rfl, _, _, rfl, _, _, rfl, rfl, ?_⟩
      have sm2 := sm.trans (same_new (o := .tup [.int (i : Nat), .str (mk lw)]) nT)
      have hfp2 := kn (x := .tup [.int (i : Nat), .str (mk lw)]) hfp nT
      generalize upd H2 T (.tup [.int (i : Nat), .str (mk lw)]) = H3 at sm2 hfp2 ⊢
      have hpq3 := sm2 _ _ hpq
      refine ⟨_, rfl, _, rfl, _, rfl, pq, _, rfl, .inl (SqL.of hpq3), _, _, rfl, rfl, rfl, ?_⟩
      rw [hll]
      generalize hlast : decide (V.int ((i : Nat) : Int) = V.int (((ls.length : Nat) : Int) - 1)) = last
      have hlast2 : last = decide (i + 1 = ls.length) := by
        rw [← hlast]
        refine decide_eq_decide.mpr ?_
        rw [V.int.injEq]
        omega
      have hScode : S + lw.length ≤ 3000 := by
        cases hdd : ls.drop (i + 1) with
        | nil =>
          rw [hdd, join_one] at hSum
          omega
        | cons b r =>
          rw [hdd, join_two, List.length_append] at hSum
          omega
      have hdue : dueL ls 0 [] = match scan (barOf last lw) 0 [] with
          | .bad k => .error (S + k)
          | .done g more => if last = true then (if lw = [] then .ok (F ++ g) else .error (S + lw.length)) else dueL (ls.drop (i + 1)) (S + lw.length + 1) (F ++ g ++ (if more then [] else [10])) := by
        rw [hE]
        by_cases hl : i + 1 = ls.length
        · rw [hlast2, decide_eq_true hl, List.drop_eq_nil_of_le (by omega : ls.length ≤ i + 1)]
          unfold dueL barOf
          rfl
        · rw [hlast2, decide_eq_false hl]
          cases hdd : ls.drop (i + 1) with
          | nil =>
            have := List.drop_eq_nil_iff.mp hdd
            omega
          | cons b r =>
            rw [dueL_cons2]
            rfl
      refine ⟨mk lw, last, rfl, by rw [mk_len]; omega, by rw [mk_codes]; exact hnum lw hmem, fun g more hs H4 T2 p2 s4 hT2 hp2 => ?_, fun k hs H4 T2 s4 hT2 => ?_⟩
      · rw [mk_codes] at hs
        rw [hs] at hdue
        dsimp only at hdue
        have hgl := scan_len _ _ _ _ (Nat.le_refl _) g more hs
        have hbl := bar_len last lw
        refine ⟨T2, _, rfl, SqT.of hT2, rfl, _, _, rfl, _, _, rfl, rfl, ?_⟩
        refine ⟨_, rfl, rfl, _, rfl, ?_⟩
        refine iteF ?_
        have hfp4 := s4 _ _ hfp2
        refine ⟨_, rfl, _, rfl, fp2, p2, _, _, rfl, rfl, hfp4, hp2, by rw [iv_len, iv_len, sizeLine_eq]; simp at hgl; omega, fun p3 n3 => ?_⟩
        have sm5 := (sm2.trans s4).trans (same_new (o := .lst (iv F ++ iv g)) n3)
        have nf3 := Same.free (sm2.trans s4) n3
        have hp3 : (upd H4 p3 (.lst (iv F ++ iv g))) p3 = some (.lst (iv (F ++ g))) := by rw [upd_same, iv_app]
        generalize upd H4 p3 (.lst (iv F ++ iv g)) = H5 at sm5 hp3 ⊢
        have hpq5 := sm5 _ _ hpq
        have hnext : ∀ F', F' = F ++ g ++ (if more || last then [] else [10]) → (F'.length ≤ S + lw.length + 1) ∧ (i + 1 < ls.length → dueL ls 0 [] = dueL (ls.drop (i + 1)) (S + lw.length + 1) F' ∧ S + lw.length + 1 + (TL.joinL [10] (ls.drop (i + 1))).length = z.length) ∧ (i + 1 = ls.length → dueL ls 0 [] = if ls.getLast? = some [] then .ok F' else .error z.length) := fun F' hF' => by
          refine ⟨?_, fun hl => ?_, fun hl => ?_⟩
          · rw [hF', List.length_append, List.length_append]
            simp only [List.length_nil, Nat.zero_add] at hgl
            cases more || last <;> simp <;> omega
          · have h1 : last = false := by rw [hlast2, decide_eq_false (by omega)]
            rw [h1] at hdue hF'
            rw [Bool.or_false] at hF'
            rw [hF']
            refine ⟨hdue, ?_⟩
            cases hdd : ls.drop (i + 1) with
            | nil =>
              have := List.drop_eq_nil_iff.mp hdd
              omega
            | cons b r =>
              rw [hdd, join_two, List.length_append, List.length_cons] at hSum
              omega
          · have h1 : last = true := by rw [hlast2, decide_eq_true hl]
            rw [h1] at hdue hF'
            rw [Bool.or_true] at hF'
            have hd0 : ls.drop (i + 1) = [] := List.drop_eq_nil_of_le (by omega)
            rw [hd0, join_one] at hSum
            have hgl2 : ls.getLast? = some lw := by
              rw [List.getLast?_eq_getElem?, show ls.length - 1 = i by omega, hlw]
            rw [hdue, hgl2, hF', hSum]
            by_cases hw : lw = []
            · rw [if_pos rfl, if_pos hw, if_pos (by rw [hw]), if_pos rfl, List.append_nil]
            · rw [if_pos rfl, if_neg hw, if_neg (fun e => hw (Option.some.inj e))]
        have hmz : (mk lw).length ≤ sizeLine := by rw [mk_len]; exact Nat.le_of_lt (szl (by omega))
        have hcast : ((S : Nat) : Int) + (((mk lw).length : Nat) : Int) + 1 = ((S + lw.length + 1 : Nat) : Int) := by
          rw [mk_len]
          omega
        cases hm : more with
        | true =>
          rw [hm] at hnext
          obtain ⟨n1, n2, n3⟩ := hnext (F ++ g) (by rw [Bool.true_or, if_pos rfl, List.append_nil])
          refine ⟨_, rfl, _, rfl, iteF (iteF ?_)⟩
          exact ⟨_, rfl, _, rfl, _, rfl, hmz, _, _, rfl, rfl, _, _, rfl, rfl, F ++ g, S + lw.length + 1, p3, _, _, _, _, by rw [← hcast]; rfl, sm5, nf3, hp3, n1, n2, n3⟩
        | false =>
          rw [hm] at hnext
          refine ⟨_, rfl, _, rfl, iteT ⟨_, rfl, _, rfl, pq, _, rfl, .inl (SqL.of hpq5), _, _, rfl, rfl, _, _, rfl, rfl, _, rfl, ?_⟩⟩
          rw [hll]
          by_cases hl : i + 1 = ls.length
          · rw [decide_eq_false (by omega : ¬ ((i : Nat) : Int) < ((ls.length : Nat) : Int) - 1)]
            obtain ⟨n1, n2, n3⟩ := hnext (F ++ g) (by rw [hlast2, decide_eq_true hl, Bool.or_true, if_pos rfl, List.append_nil])
            refine iteF ?_
            exact ⟨_, rfl, _, rfl, _, rfl, hmz, _, _, rfl, rfl, _, _, rfl, rfl, F ++ g, S + lw.length + 1, p3, _, _, _, _, by rw [← hcast]; rfl, sm5, nf3, hp3, n1, n2, n3⟩
          · rw [decide_eq_true (by omega : ((i : Nat) : Int) < ((ls.length : Nat) : Int) - 1)]
            obtain ⟨n1, n2, n3⟩ := hnext (F ++ g ++ [10]) (by rw [hlast2, decide_eq_false hl]; rfl)
            refine iteT ⟨_, rfl, .inl ⟨rfl, _, SqL.of hp3⟩, p3, _, _, rfl, rfl, hp3, by rw [iv_len]; exact szl (by rw [List.length_append]; simp at hgl; omega), ?_⟩
            exact ⟨_, rfl, _, rfl, _, rfl, hmz, _, _, rfl, rfl, _, _, rfl, rfl, F ++ g ++ [10], S + lw.length + 1, p3, _, _, _, _, by rw [← hcast]; rfl, same_set sm5 nf3, nf3, by rw [upd_same, iv_app (F ++ g)]; rfl, n1, n2, n3⟩
      · rw [mk_codes] at hs
        rw [hs] at hdue
        refine ⟨T2, _, rfl, SqT.of hT2, rfl, _, _, rfl, _, _, rfl, rfl, ?_⟩
        refine ⟨_, rfl, rfl, _, rfl, ?_⟩
        refine iteT ⟨_, rfl, _, rfl, _, _, rfl, rfl, (by show 2 ≤ sizeLine; decide), fun T3 nT3 => ?_⟩
        refine qc _ hdue _ T3 ((s1.trans (sm2.trans s4)).trans (same_new nT3)) ?_
        rw [upd_same]
        show some (HO.tup [V.str "code", V.int (((S : Nat) : Int) + ((k : Nat) : Int))]) = _
        rw [show ((S : Nat) : Int) + ((k : Nat) : Int) = ((S + k : Nat) : Int) by omega]
    · obtain ⟨F, S, fp2, y4, y5, y6, y7, rfl, sm, nf, hfp, hFS, _, hE⟩ := hp
      have hE := hE hll
      obtain ⟨lw, hlw⟩ : ∃ lw, ls.getLast? = some lw := by
        cases hg : ls.getLast? with
        | none => exact absurd (List.getLast?_eq_none_iff.mp hg) hne
        | some lw => exact ⟨lw, rfl⟩
      have hpq2 := sm _ _ hpq
      refine ⟨_, rfl, _, rfl, pq, _, _, .str (mk lw), rfl, rfl, SqL.of hpq2, ?_, rfl, _, rfl, ?_⟩
      · rw [show (-(1 : Int)) = -1 from rfl, atI_last, List.getLast?_map, List.getLast?_map, hlw]
        rfl
      have e0 : ("" : Str) = mk [] := by decide +kernel
      have hd : (!decide (V.str (mk lw) = V.str ("" : Str))) = !decide (lw = []) := by
        congr 1
        refine decide_eq_decide.mpr ?_
        rw [V.str.injEq, e0]
        constructor
        · intro e
          have := congrArg (fun t : Str => t.cps.toList) e
          rw [mk_codes, mk_codes] at this
          exact this
        · intro e
          rw [e]
      rw [hd]
      rw [hlw] at hE
      by_cases hw : lw = []
      · rw [decide_eq_true hw]
        rw [if_pos (by rw [hw])] at hE
        refine iteF ⟨_, rfl, (by show 2 ≤ sizeLine; decide), fun T3 nT3 => ?_⟩
        exact qt _ hE _ T3 fp2 ((s1.trans sm).trans (same_new nT3)) upd_same (kn hfp nT3)
      · rw [decide_eq_false hw]
        rw [if_neg (fun e => hw (Option.some.inj e))] at hE
        refine iteT ⟨_, rfl, _, rfl, hzl, (by show 2 ≤ sizeLine; decide), fun T3 nT3 => ?_⟩
        exact qc _ hE _ T3 ((s1.trans sm).trans (same_new nT3)) upd_same
end
end FL

namespace FL
open PySem PySem.Spec PyProof.Rows L2
/-! ### e.replace(text, a + b) -/
theorem add_fresh {prog : Program} {w : World} {A : Around} {E : Value → Shared → Prop} {s : Shared} {x y : Str} {t u : Tok} {Q : Value → Shared → Prop} (hx : 0 < x.length) (hy : 0 < y.length) (hsz : x.length + y.length ≤ sizeLine)
    (h : Q (.str (x ++ y) s.toks) { s with toks := s.toks + 1 }) : wpAny (model prog w) A (binaryOp .Add (.str x t) (.str y u)) Q E s := by
  refine binaryOp_concat (typeIs_str s x t) (typeIs_str s y u) PySem.noFill_str_add PySem.seq_str_add ?_
  refine wpAny_call_entry slot_str_add (typeIs_str s x t) entry_str_add ?_ (args_str_add _ _)
  show wpAny _ _ (do
    if (true && x.length == 0) = true then (do rule "str.__add__.left-empty"; ret (.str y u)) else
    if (true && y.length == 0) = true then (do rule "str.__add__.right-empty"; ret (.str x t)) else
    retStr (x ++ y)) _ _ s
  have e1 : (true && x.length == 0) = false := by simp; intro z; rw [z] at hx; exact absurd hx (Nat.lt_irrefl 0)
  have e2 : (true && y.length == 0) = false := by simp; intro z; rw [z] at hy; exact absurd hy (Nat.lt_irrefl 0)
  rw [if_neg (by rw [e1]; exact Bool.false_ne_true), if_neg (by rw [e2]; exact Bool.false_ne_true)]
  exact wpAny_bind (wpAny_mkStr (wpAny_pure ⟨_, rfl, h⟩) (by rw [strLen_append]; exact hsz))
def tReplA (to ta tb : TE) (y : Str) : TE := fun σ H Q => to σ H fun v H1 => ∃ x, v = .str x ∧ ta σ H1 fun va H2 => tb σ H2 fun vb H3 => ∃ i j, va = .str i ∧ vb = .str j ∧ 0 < i.length ∧ 0 < j.length ∧ i.length + j.length ≤ sizeLine ∧ (y == i ++ j) = false ∧
  x.length + (x.length + 1) * (i ++ j).length ≤ 16777216 ∧ Q (.str (Txt.replace x y (i ++ j))) H3
section
variable {X : Cx} {o a b : Expr} {to ta tb : TE} {y : Str} {j : Nat} {c0 apos pos pb : Pos}
theorem pet_replA (ho : PE X o to) (ha : PE X a ta) (hb : PE X b tb)
    (hst : starEach [.Constant (.str y) j c0, .BinOp a .Add b pb] X.env = [(false, eval (.Constant (.str y) j c0) X.env), (false, eval (.BinOp a .Add b pb) X.env)] := by rfl)
    (hbase : attributeBase o "replace" X.env (eval o X.env) = eval o X.env := by rfl) (hline : (apos.endLine == pos.line) = true := by rfl) :
    PET X (.Call (.Attribute o "replace" apos) [.Constant (.str y) j c0, .BinOp a .Add b pb] [] pos) (tReplA to ta tb y) := by
  intro pins s σ H Q h0 I h
  refine PySem.Call_method2 hbase hst hline (wpAny_mono (PySem.wpAny_toks (ho.run pins s σ H _ I h)) (fun v s1 q => ?_) fun _ _ z => z.2)
  obtain ⟨hk, v', H1, I1, r1, x, e1, q⟩ := q
  subst e1
  obtain ⟨tx, e2⟩ := r1
  subst e2
  refine ⟨"str", _, PySem.F.plainAttrs_str, PySem.F.slot_str_replace, PySem.F.type_str_replace, typeIs_str _ _ _, (fun _ e => nomatch e), Calls.callWith_builtin rfl (Calls.evalArgs_plain (Calls.spliced_cons ?_))⟩
  refine Calls.Constant_str (Calls.spliced_cons ?_)
  refine wpAny_BinOp (wpAny_mono (PySem.wpAny_toks (ha.run pins { s1 with toks := s1.toks + 1 } σ H1 _ (I1.tok _) q)) (fun v s2 q => ?_) fun _ _ z => z.2)
  obtain ⟨hk2, va, H2, I2, r2, q⟩ := q
  refine wpAny_mono (PySem.wpAny_toks (hb.run pins s2 σ H2 _ I2 q)) (fun u s3 q => ?_) fun _ _ z => z.2
  obtain ⟨hk3, vb, H3, I3, r3, i, j, e1, e2, hi, hj, hs, hyz, hb16, qq⟩ := q
  subst e1
  subst e2
  obtain ⟨ti, e3⟩ := r2
  obtain ⟨tj, e4⟩ := r3
  subst e3
  subst e4
  have hk2 : s1.toks + 1 ≤ s2.toks := hk2
  refine add_fresh hi hj hs (Calls.spliced_nil ?_)
  exact PySem.SC.replace (by show s1.toks ≠ 0; omega) (by show s3.toks ≠ 0; omega) (by show s1.toks ≠ s3.toks; omega) hyz hb16 fun t' k => ⟨.str (Txt.replace x y (i ++ j)), H3, I3.tok k, ⟨t', rfl⟩, qq⟩
end
end FL

namespace FL
open PySem PySem.Spec PyProof.Rows L2
theorem replL_oneR {y : Nat} {z : List Nat} : ∀ l : List Nat, PySem.StrLaws.replL [y] z l = l.flatMap fun c => if c = y then z else [c]
  | [] => PySem.StrLaws.replL_nil
  | c :: r => by
    have ih := replL_oneR (y := y) (z := z) r
    rw [List.flatMap_cons]
    by_cases h : c = y
    · subst h
      rw [PySem.StrLaws.replL_hit (by simp) (by simp), if_pos rfl]
      show z ++ PySem.StrLaws.replL [c] z r = _
      rw [ih]
    · rw [PySem.StrLaws.replL_miss (by simp [h]), if_neg h, ih]
      rfl
/-- line feeds with blanks ahead -/
theorem repl_sig {z u : Str} (hz : allSig z.cps.toList = true) (hu : allSig u.cps.toList = true) : allSig (Txt.replace z ("\n" : Str) u).cps.toList = true := by
  have e : ("\n" : Str).cps.toList = [10] := by decide +kernel
  rw [PySem.StrLaws.replace_list (by decide +kernel), e, replL_oneR]
  refine List.all_eq_true.mpr fun c hc => ?_
  obtain ⟨d, hd, hc⟩ := List.mem_flatMap.mp hc
  by_cases h : d = 10
  · rw [if_pos h] at hc
    exact List.all_eq_true.mp hu c hc
  · rw [if_neg h] at hc
    rw [List.mem_singleton.mp hc]
    exact List.all_eq_true.mp hz d hd
theorem lo1_sig : ∀ c, c < 127 → isSig c = true → isSig (lo1 c) = true := by decide
theorem sig_ltR {c : Nat} (h : isSig c = true) : c < 127 := by
  unfold isSig at h
  simp at h
  omega
theorem lower_sig {z : Str} (hz : allSig z.cps.toList = true) : allSig (Txt.lower z).cps.toList = true ∧ (Txt.lower z).length = z.length := by
  have hl : Txt.lower z = ⟨z.cps.map lo1⟩ := PyProof.Rows.lower_ascii fun c hc => by
    have := sig_ltR (List.all_eq_true.mp hz c hc)
    omega
  rw [hl]
  refine ⟨List.all_eq_true.mpr fun c hc => ?_, by show (z.cps.map lo1).size = z.cps.size; simp⟩
  have hc : c ∈ (z.cps.map lo1).toList := hc
  rw [Array.toList_map] at hc
  obtain ⟨d, hd, rfl⟩ := List.mem_map.mp hc
  have := List.all_eq_true.mp hz d hd
  exact lo1_sig d (sig_ltR this) this
def LOOS : List Str := [" \n", "=\n", "= \n", "\n", "=4a", "=0a", "=e9"]
theorem loos_ok : ∀ z ∈ LOOS, z.length ≤ 3 ∧ allSig z.cps.toList = true := by decide +kernel
section
variable {P : Program} {w : World} {K : PySem.W.Frag} {mg : Str → Option Value} {base : Heap}
theorem okTR {x qual : Str} {st : Stmt} {f : Addr} {fd : FuncData} {N ps : List Str} {k : Nat} {sp : Sp} (F : Fun K x qual st f fd) (S : FnScope N ps (defScope st)) (hnc : ∀ y ∈ (defScope st).names, y.2 ≠ .cell) (hps : 1 ≤ ps.length) (len : ∀ vs H Q E, sp vs H Q E → vs.length = ps.length)
    (hbody : ∀ (cdv : Value) (A : Around) (outer : List Env) (s : Shared) (H : Hp) (vs : List V) (Q : VK) (E : XK), Room k (A.deeper (envOfC qual (defScope st) s.heap.objs.size f cdv)) → sp vs H Q E →
      ∃ t, PSsT (cxOf CX0 P w K mg base N qual (defScope st) f cdv A outer s H E) (defBody st) t ∧ t { nx := fun _ H' => Q .non H', rt := Q } (start N vs) H) : FnOk P w K mg base CX0 (k + 1) f fd ps sp := by
  obtain ⟨oc, od, kV, doc, pm, an, cdv, ct, osl, rfl, lk, hcd⟩ := F.ex
  exact fn_ofT lk hcd S hnc hps len fun A outer s H vs Q E hr hsp => hbody cdv A outer s H vs Q E hr hsp
theorem pst_setR {X : Cx} {i : Nat} {x : Str} {e : Expr} {te : TE} {pos pos' : Pos} (hN : X.N.Nodup) (hi : X.N[i]? = some x) (hx : Loc X.env.scope x) (he : PET X e te) (hs : swapsWith e (some (.Name x pos')) pos.line X.env = pure false := by rfl) (hf : X.fn x = true ∨ X.env.scope.names.lookup x = some .local := by first | exact .inl rfl | exact .inr rfl | assumption) :
    PST X (.Assign [.Name x pos'] e pos) (tAsg te (gName i)) := by
  intro pins s σ H D h0 I h
  refine wpAny_Assign_Name (thn (he pins s σ H _ h0 I h) fun v s1 ⟨y, H1, I1, r1, q1⟩ => ?_) hs
  exact store_ok I1 hN hi hx r1 (fun s2 I2 => ⟨_, H1, I2, q1⟩) hf
def spLooseM : Sp := fun vs H Q _ => ∃ (a : Addr) (z : Str), vs = [.ref a, .str z] ∧ Src H a ∧ z.length ≤ 500 ∧ allSig z.cps.toList = true ∧ ∀ H' (r : Str), Drawn a H H' → r.length ≤ 2100 → allSig r.cps.toList = true → Q (.str r) H'
theorem scLawLoose : FnScope ["_law_source_here", "_law_line_here", "_law_k", "_law_at"] ["_law_source_here", "_law_line_here"] (defScope sLawLoose) := ⟨rfl, rfl, rfl, by decide +kernel, rfl, by decide +kernel, by decide +kernel⟩
theorem r_looseM (A : FnAt K mg "_law_loose" sLawLoose) (RN : Ready P w K mg base 2 "_law_next" ["_law_source_here", "_law_many"] spNextM) (m_len : mg "len" = none) (m_range : mg "range" = none) (m_int : mg "int" = none) : Ready P w K mg base 3 "_law_loose" ["_law_source_here", "_law_line_here"] spLooseM := by
  obtain ⟨f1, fd1, g1, k1, b1, G1⟩ := RN
  refine ready_of A (fun _ _ _ _ _ _ us hl => match us, hl with | [_, _], _ => rfl) fun f fd F => ?_
  refine okTR F scLawLoose (by decide +kernel) (by decide) (fun vs H Q E h => ?_) (fun cdv A outer s H vs Q E hr h => ?_)
  · obtain ⟨a, z, rfl, _⟩ := h
    rfl
  · obtain ⟨a, z, rfl, hS, hz, hsz, q⟩ := h
    have sc := scLawLoose
    refine ⟨_, psst_cons (PST.of (ps_for (passes_of rfl) rfl (pi_range1 (by rfl) m_range (pa_cons (pe_call G1 (hr.mono (by decide)) (by rfl) g1 k1 b1 .nil pass0 (pa_cons (pv 0) (pa_cons pe_int pa_nil))) pa_nil)) (pg_name (i := 2) sc.nd rfl (.inl rfl))
        (pss_cons (ps_set (i := 3) sc.nd rfl (.inl rfl) (pe_call G1 (hr.mono (by decide)) (by rfl) g1 k1 b1 .nil pass0 (pa_cons (pv 0) (pa_cons (pe_op op_add (pe_callB call_len_str (by rfl) m_len PySem.boot_len (pa_cons (pv 1) pa_nil)) pe_int) pa_nil))))
          (pss_one (ps_set (i := 1) sc.nd rfl (.inl rfl) (pe_op op_add_str (pe_op op_add_str (pe_slice sl_str (pv 1) po_none (po_some (pv 3))) (pe_ix ix_list (pe_lst (pa_cons pe_str (pa_cons pe_str (pa_cons pe_str (pa_cons pe_str (pa_cons pe_str (pa_cons pe_str (pa_cons pe_str pa_nil)))))))) (pe_call G1 (hr.mono (by decide)) (by rfl) g1 k1 b1 .nil pass0 (pa_cons (pv 0) (pa_cons pe_int pa_nil))) (fun _ _ => rfl))) (pe_slice sl_str (pv 1) (po_some (pv 3)) po_none)))))))
      (psst_cons (CwR.pst_if (pt_cmpR op_eq (pe_call G1 (hr.mono (by decide)) (by rfl) g1 k1 b1 .nil pass0 (pa_cons (pv 0) (pa_cons pe_int pa_nil))) pe_int (nomark _))
        (CwR.psst_one (pst_setR (i := 1) sc.nd rfl (.inl rfl) (pet_replA (pv 1) (pe_op op_mulS pe_str (pe_op op_add pe_int (pe_call G1 (hr.mono (by decide)) (by rfl) g1 k1 b1 .nil pass0 (pa_cons (pv 0) (pa_cons pe_int pa_nil))))) pe_str)))
        CwR.psst_nil)
      (PSsT.of (pss_one (ps_ret (pe_ix ix_list (pe_lst (pa_cons (pv 1) (pa_cons (pe_lower (pv 1)) pa_nil))) (pe_callTy call_int1 (by rfl) m_int (by decide +kernel) (pa_cons (pe_cmpR op_eq (pe_call G1 (hr.mono (by decide)) (by rfl) g1 k1 b1 .nil pass0 (pa_cons (pv 0) (pa_cons pe_int pa_nil))) pe_int (nomark _)) pa_nil)) (fun _ _ => rfl)))))), ?_⟩
    refine ⟨_, rfl, a, 4, rfl, by decide, by decide, hS, fun N H2 hN d2 => ⟨(N : Int), rfl, by omega, by omega, ?_⟩⟩
    refine for_it walk_range (fun i σ H' => ∃ (y : Str) (y2 y3 : Option V), σ = [some (.ref a), some (.str y), y2, y3] ∧ Drawn a H H' ∧ y.length ≤ z.length + 3 * i ∧ allSig y.cps.toList = true)
      ⟨z, none, none, rfl, d2, Nat.le_refl _, hsz⟩ (fun _ _ _ _ _ => trivial) (fun i x σ H6 H7 hi hp hy => ?_) (fun σ H6 hp => ?_)
    · obtain ⟨y, y2, y3, rfl, d3, hyl, hys⟩ := hp
      obtain ⟨rfl, hxv⟩ := hy
      have hi : i < ((N : Int)).toNat := hi
      have hyb : y.length ≤ sizeLine := by rw [sizeLine_eq]; omega
      refine ⟨_, rfl, _, rfl, _, rfl, hyb, _, _, rfl, rfl, ?_⟩
      refine ⟨a, y.length + 1, rfl, by omega, by omega, d3.src, fun at_ H8 hat d4 => ?_⟩
      have d5 := d3.trans d4
      refine ⟨_, rfl, _, rfl, _, rfl, _, rfl, hyb, (by show 7 ≤ sizeLine; decide), fun ql nql => ?_⟩
      have hql : (upd H8 ql (.lst (LOOS.map V.str))) ql = some (.lst (LOOS.map V.str)) := upd_same
      have d6 : Drawn a H (upd H8 ql (.lst (LOOS.map V.str))) := d5.same (same_new nql)
      have wq := d5.src.neR nql
      refine ⟨_, rfl, a, 7, rfl, by decide, by decide, d6.src, fun r5 H9 hr5 d9 => ?_⟩
      obtain ⟨v1, hv1, z1, rfl, hz1⟩ := pickPR (p := IsTxN 3) (xs := LOOS.map V.str) (r := r5) hr5 (fun v hv => by
        obtain ⟨y, hy, rfl⟩ := List.mem_map.mp hv
        exact ⟨y, rfl, loos_ok y hy⟩)
      refine ⟨ql, _, _, _, rfl, rfl, SqL.of (d9.old ql _ wq hql), hv1, ?_⟩
      have h1 := cut_toH y at_
      have h2 := cut_fromH y at_
      have h3 := hz1.1
      refine ⟨_, _, rfl, rfl, by rw [sizeLine_eq]; omega, ?_⟩
      refine ⟨_, rfl, _, rfl, _, rfl, _, rfl, hyb, _, _, rfl, rfl, by rw [len_append, sizeLine_eq]; omega, ?_⟩
      refine ⟨_, _, _, rfl, d6.trans d9, by rw [len_append, len_append]; omega, sig_appH (sig_appH (sig_cutH hys none (some ((at_ : Nat) : Int))) hz1.2) (sig_cutH hys (some ((at_ : Nat) : Int)) none)⟩
    · obtain ⟨y, y2, y3, rfl, d3, hyl, hys⟩ := hp
      have hyl : y.length ≤ 509 := by omega
      refine ⟨_, rfl, a, 3, rfl, by decide, by decide, d3.src, fun r H7 hr d7 => ?_⟩
      have d8 := d3.trans d7
      refine ⟨rfl, _, rfl, ?_⟩
      refine ite_key (fun σ' H' => ∃ y : Str, σ' = [some (.ref a), some (.str y), y2, y3] ∧ Drawn a H H' ∧ y.length ≤ 2100 ∧ allSig y.cps.toList = true) (fun σ' H' hJ => ?_) (fun key h => ?_) (fun h => ⟨y, rfl, d8, by omega, hys⟩)
      · obtain ⟨y, rfl, dd, hyl, hys⟩ := hJ
        refine ⟨_, rfl, _, rfl, ⟨_, rfl⟩, _, rfl, rfl, by omega, (by show 2 ≤ sizeLine; decide), fun pl npl => ?_⟩
        have hpl : (upd H' pl (.lst [.str y, .str (Txt.lower y)])) pl = some (.lst [.str y, .str (Txt.lower y)]) := upd_same
        have wpl := dd.src.neR npl
        have d9 := dd.same (same_new (o := .lst [.str y, .str (Txt.lower y)]) npl)
        refine ⟨_, rfl, a, 4, rfl, by decide, by decide, d9.src, fun r2 H8 hr2 d10 => ?_⟩
        refine ⟨rfl, .inr ⟨_, rfl, ?_⟩⟩
        have hpl2 := d10.old _ _ wpl hpl
        obtain ⟨ls, ll⟩ := lower_sig hys
        cases decide (V.int ((r2 : Nat) : Int) = V.int 0) with
        | false => exact ⟨pl, _, _, .str y, rfl, rfl, SqL.of hpl2, rfl, q _ _ (d9.trans d10) hyl hys⟩
        | true => exact ⟨pl, _, _, .str (Txt.lower y), rfl, rfl, SqL.of hpl2, rfl, q _ _ (d9.trans d10) (by omega) ls⟩
      · refine ⟨_, rfl, y, rfl, _, rfl, a, 2, rfl, by decide, by decide, d8.src, fun r2 H8 hr2 d9 => ?_⟩
        refine ⟨_, _, rfl, rfl, 32, 1 + r2, rfl, rfl, by omega, ?_⟩
        have e1l : ("\n" : Str).length = 1 := rfl
        have em : (mk (List.replicate (1 + r2) 32)).length = 1 + r2 := by rw [mk_len, List.length_replicate]
        have hlen : (mk (List.replicate (1 + r2) 32) ++ ("\n" : Str)).length = 2 + r2 := by
          rw [len_append, em, e1l]
          omega
        have hrl : (Txt.replace y ("\n" : Str) (mk (List.replicate (1 + r2) 32) ++ ("\n" : Str))).length ≤ y.length + (y.length + 1) * 3 := by
          refine Nat.le_trans (TK.replace_len _ _ _) ?_
          rw [hlen]
          exact Nat.add_le_add_left (Nat.mul_le_mul_left _ (by omega)) _
        refine ⟨_, _, rfl, rfl, by rw [em]; omega, by rw [e1l]; omega, by rw [em, e1l, sizeLine_eq]; omega, ?_, ?_, ?_⟩
        · refine beq_eq_false_iff_ne.mpr fun e => ?_
          have := congrArg Str.length e
          rw [hlen, e1l] at this
          omega
        · rw [hlen]
          have : (y.length + 1) * (2 + r2) ≤ (y.length + 1) * 3 := Nat.mul_le_mul_left _ (by omega)
          omega
        · refine key _ _ ⟨_, rfl, d8.trans d9, by omega, repl_sig hys (sig_appH ?_ (by decide +kernel))⟩
          rw [mk_codes]
          refine List.all_eq_true.mpr fun c hc => ?_
          rw [(List.mem_replicate.mp hc).2]
          decide
end
end FL

namespace FL
open PySem PySem.Spec PyProof.Rows L2
section
variable {P : Program} {w : World} {K : PySem.W.Frag} {mg : Str → Option Value} {base : Heap}
def SGx : Str := "=\n A0fFgG9_a=~ \n-"
def spLaw (K : PySem.W.Frag) : Sp := fun vs H Q _ => ∃ (a : Addr) (ns : List Int), vs = [.ref a] ∧ SqL K H a (ns.map V.int) ∧ ns.length ≤ 63 ∧ ∀ H', Q (.bl true) H'
theorem scLaw : FnScope ["_law_script", "_law_signs", "_law_k", "_law_source_here", "_law_line_here", "_law_turn", "_law_due_here", "_law_found"] ["_law_script"] (defScope sLaw) := ⟨rfl, rfl, rfl, by decide +kernel, rfl, by decide +kernel, by decide +kernel⟩
theorem ok_law {f : Addr} {fd : FuncData} (F : Fun K "law" "law" sLaw f fd) (R_law_source : Ready P w K mg base 2 "_law_source" ["_law_script", "_law_k"] (spSource K)) (R_law_loose : Ready P w K mg base 3 "_law_loose" ["_law_source_here", "_law_line_here"] spLooseM) (R_law_marks : Ready P w K mg base 3 "_law_marks" ["_law_eights"] (spWrC marksL))
    (R_law_row : Ready P w K mg base 3 "_law_row" ["_law_source_here", "_law_most"] spLawRow) (R_law_due : Ready P w K mg base 3 "_law_due" ["_law_line_here"] spDueM) (R_law_said : Ready P w K mg base 8 "_law_said" ["_law_line_here", "_law_word"] spSaidR) (R_law_touched : Ready P w K mg base 3 "_law_touched" ["_law_source_here", "_law_line_here", "_law_signs"] spTouch)
    (m_len : mg "len" = none) (m_range : mg "range" = none) (m_max : mg "max" = none) (m_min : mg "min" = none) (m_list : mg "list" = none) (m_isinstance : mg "isinstance" = none) :
    FnOk P w K mg base CX0 9 f fd ["_law_script"] (spLaw K) := by
  obtain ⟨f1, fd1, g1, k1, b1, G1⟩ := R_law_source
  obtain ⟨f2, fd2, g2, k2, b2, G2⟩ := R_law_loose
  obtain ⟨f3, fd3, g3, k3, b3, G3⟩ := R_law_marks
  obtain ⟨f4, fd4, g4, k4, b4, G4⟩ := R_law_row
  obtain ⟨f5, fd5, g5, k5, b5, G5⟩ := R_law_due
  obtain ⟨f6, fd6, g6, k6, b6, G6⟩ := R_law_said
  obtain ⟨f7, fd7, g7, k7, b7, G7⟩ := R_law_touched
  refine F.ok scLaw (fun vs H Q E h => ?_) (fun cdv A outer s H vs Q E hr h => ?_)
  · obtain ⟨a, ns, rfl, _⟩ := h
    rfl
  · obtain ⟨a, ns, rfl, hS, hns, q⟩ := h
    have sc := scLaw
    refine ⟨_, pss_cons (ps_set (i := 1) sc.nd rfl (.inl rfl) pe_str)
      (pss_cons (ps_for PassesOwn.never rfl (pi_range1 (by rfl) m_range (pa_cons (pe_callB (call_max2 rfl) (by rfl) m_max (by decide +kernel) (pa_cons pe_int (pa_cons (pe_callB (call_min2 rfl) (by rfl) m_min (by decide +kernel) (pa_cons pe_int (pa_cons (pe_callB call_len_seq (by rfl) m_len PySem.boot_len (pa_cons (pv 0) pa_nil)) pa_nil))) pa_nil))) pa_nil)) (pg_name (i := 2) sc.nd rfl (.inl rfl))
        (pss_cons (ps_set (i := 3) sc.nd rfl (.inl rfl) (pe_call G1 (hr.mono (by decide)) (by rfl) g1 k1 b1 .nil pass0 (pa_cons (pv 0) (pa_cons (pv 2) pa_nil))))
          (pss_cons (ps_set (i := 4) sc.nd rfl (.inl rfl) (pe_call G2 (hr.mono (by decide)) (by rfl) g2 k2 b2 .nil pass0 (pa_cons (pv 3) (pa_cons (pe_call G3 (hr.mono (by decide)) (by rfl) g3 k3 b3 .nil pass0 (pa_cons (pe_slice sl_list (pe_call G4 (hr.mono (by decide)) (by rfl) g4 k4 b4 .nil pass0 (pa_cons (pv 3) (pa_cons pe_int pa_nil))) po_none (po_some pe_int)) pa_nil)) pa_nil))))
          (pss_cons (ps_if (pt_cmpR op_notIn_seq (pe_slice sl_str (pv 4) (po_some (pe_un un_neg pe_int)) po_none) (pe_lst (pa_cons pe_str (pa_cons pe_str pa_nil))) (by rfl))
            (pss_one (ps_set (i := 4) sc.nd rfl (.inl rfl) (pe_op op_add_str (pv 4) pe_str)))
            pss_nil)
          (pss_one (ps_for PassesOwn.never rfl (pi_range1 (by rfl) m_range (pa_cons pe_int pa_nil)) (pg_name (i := 5) sc.nd rfl (.inl rfl))
            (pss_cons (ps_set (i := 6) sc.nd rfl (.inl rfl) (pe_call G5 (hr.mono (by decide)) (by rfl) g5 k5 b5 .nil pass0 (pa_cons (pv 4) pa_nil)))
              (pss_cons (ps_set (i := 7) sc.nd rfl (.inl rfl) (pe_call G6 (hr.mono (by decide)) (by rfl) g6 k6 b6 .nil pass0 (pa_cons (pv 4) (pa_cons pe_str pa_nil))))
              (pss_cons (ps_if (PW.pt (pw_or (pt_cmpR (op_neD hr.units) (pv 7) (pv 6) (nomark _)) (pw_or1 (pt_cmpR (op_neD hr.units) (pe_call G6 (hr.mono (by decide)) (by rfl) g6 k6 b6 .nil pass0 (pa_cons (pv 4) (pa_cons pe_str pa_nil))) (pv 6) (nomark _)))))
                (pss_one (ps_ret pe_bl))
                pss_nil)
              (pss_cons (ps_if (PW.pt (pw_and (pt_cmpR op_eq (pe_ix ix_tup (pv 7) pe_int (fun _ _ => rfl)) pe_str (nomark _)) (pw_and1 (pt_not (pt_val (pe_callB call_isi (by rfl) m_isinstance (by decide +kernel) (pa_cons (pe_ix ix_tup (pv 7) pe_int (fun _ _ => rfl)) (pa_cons (pe_bltn (v := .ty "list") (by rfl) m_list (by decide +kernel) rfl) pa_nil))))))))
                (pss_one (ps_ret pe_bl))
                pss_nil)
              (pss_one (ps_set (i := 4) sc.nd rfl (.inl rfl) (pe_call G7 (hr.mono (by decide)) (by rfl) g7 k7 b7 .nil pass0 (pa_cons (pv 3) (pa_cons (pv 4) (pa_cons (pv 1) pa_nil))))))))))))))))
      (pss_one (ps_ret pe_bl))), ?_⟩
    have hlen : (ns.map V.int).length = ns.length := List.length_map ..
    have hsg : (1 ≤ SGx.length ∧ SGx.length ≤ 100) ∧ allSig SGx.cps.toList = true := by decide +kernel
    refine ⟨_, rfl, a, _, rfl, .inl hS, ?_⟩
    rw [hlen]
    refine ⟨_, _, rfl, _, _, rfl, ?_⟩
    generalize hM : (if (if (ns.length : Int) < 5 then (ns.length : Int) else 5) > 1 then (if (ns.length : Int) < 5 then (ns.length : Int) else 5) else 1) = M
    have hM0 : 0 ≤ M ∧ M ≤ 100 := by
      rw [← hM]
      constructor <;> (split <;> split <;> omega)
    refine ⟨M, rfl, by omega, by omega, ?_⟩
    refine for_it walk_range (fun i σ H' => ∃ y2 y3 y4 y5 y6 y7, σ = [some (.ref a), some (.str SGx), y2, y3, y4, y5, y6, y7] ∧ Same H H') ⟨none, none, none, none, none, none, rfl, Same.refl H⟩ (fun _ _ _ _ _ => trivial) (fun i x σ H1 H2 hi hp hy => ?_) (fun σ H1 hp => q H1)
    obtain ⟨y2, y3, y4, y5, y6, y7, rfl, sm⟩ := hp
    obtain ⟨rfl, hxv⟩ := hy
    have hx' : x = .int (i : Nat) := by
      rw [hxv]
      exact congrArg V.int (Int.zero_add _)
    subst hx'
    refine ⟨_, rfl, _, rfl, a, ns, i, rfl, sm.seq hS, fun H3 sr s3 nsr hsr => ?_⟩
    have nsr0 : H sr = none := Same.free sm nsr
    refine ⟨_, rfl, _, rfl, sr, 60, rfl, by decide, by decide, hsr, fun H4 p l d4 np hp ok => ?_⟩
    refine ⟨_, rfl, p, _, rfl, SqL.of hp, fun q1 n1 => ?_⟩
    rw [show (60 : Int) = ((60 : Nat) : Int) from rfl, cut_takeR]
    have hq1 : (upd H4 q1 (.lst (iv (l.take 60)))) q1 = some (.lst (iv (l.take 60))) := upd_same
    have d5 := d4.same (same_new (o := .lst (iv (l.take 60))) n1)
    generalize upd H4 q1 (.lst (iv (l.take 60))) = H5 at hq1 d5 ⊢
    have hl60 : (l.take 60).length ≤ 60 := List.length_take_le _ _
    have hlt : ∀ n ∈ l.take 60, n < 256 := fun n hn => ok.lt n (List.mem_of_mem_take hn)
    generalize l.take 60 = m at hq1 hl60 hlt
    refine ⟨q1, m, rfl, hq1, ⟨hlt, by omega⟩, fun H6 s6 => ?_⟩
    have d6 := d5.same s6
    have hsl := tailM_len m 0
    refine ⟨sr, mk (marksL m), rfl, d6.src, by rw [mk_len]; unfold marksL; omega, ?_, fun H7 z d7 hz hzs => ?_⟩
    · rw [mk_codes]
      exact List.all_eq_true.mpr (tailM_sig m 0 hlt)
    have d7' := d6.trans d7
    have e1l : ("\n" : Str).length = 1 := rfl
    refine ⟨_, rfl, _, rfl, _, rfl, z, rfl, by rw [sizeLine_eq]; omega, (by show 2 ≤ sizeLine; decide), fun pl npl => ?_⟩
    refine ⟨pl, _, rfl, .inl (SqL.of upd_same), rfl, rfl, _, rfl, ?_⟩
    have d8 := d7'.same (same_new (o := .lst [.str "", .str "\n"]) npl)
    generalize upd H7 pl (.lst [.str "", .str "\n"]) = H8 at d8 ⊢
    refine ite_key (fun σ' H' => ∃ z0 : Str, σ' = [some (.ref a), some (.str SGx), some (.int (i : Nat)), some (.ref sr), some (.str z0), y5, y6, y7] ∧ Drawn sr H3 H' ∧ z0.length ≤ 2101 ∧ allSig z0.cps.toList = true) (fun σ' H' hJ => ?_) (fun key h => ?_) (fun h => ⟨z, rfl, d8, by omega, hzs⟩)
    case' refine_2 =>
      refine ⟨_, rfl, _, _, rfl, rfl, by rw [e1l, sizeLine_eq]; omega, ?_⟩
      exact key _ _ ⟨_, rfl, d8, by rw [len_append, e1l]; omega, sig_appH hzs (by decide +kernel)⟩
    obtain ⟨z0, rfl, d7', hz2, hzs2⟩ := hJ
    refine ⟨5, rfl, by decide, by decide, ?_⟩
    refine for_it walk_range (fun j σ H' => ∃ (y : Str) (u5 u6 u7 : Option V), σ = [some (.ref a), some (.str SGx), some (.int (i : Nat)), some (.ref sr), some (.str y), u5, u6, u7] ∧ Drawn sr H3 H' ∧ y.length ≤ 2101 + 2 * j ∧ allSig y.cps.toList = true) ⟨z0, _, _, _, rfl, d7', hz2, hzs2⟩ (fun _ _ _ _ _ => trivial) (fun j x2 σ B1 B2 hj hq hy2 => ?_) (fun σ B1 hq => ?_)
    · obtain ⟨y, u5, u6, u7, rfl, db, hyl, hys⟩ := hq
      obtain ⟨rfl, _⟩ := hy2
      have hj : j < 5 := hj
      cases hr6 : readBy readMk y.cps.toList with
      | ok o =>
        refine ⟨_, rfl, y, rfl, by omega, hys, fun o2 ho2 B3 T1 p1 b3 hT1 hp1 => ?_, fun pp hpp => by rw [hr6] at hpp; cases hpp⟩
        rw [hr6] at ho2
        injection ho2 with ho2
        subst ho2
        refine ⟨_, rfl, .mr, y, rfl, by omega, hys, fun o2 ho2 B4 T2 p2 b4 hT2 hp2 _ _ => ?_, fun pp hpp => by rw [show readBy Cd.mr.rd y.cps.toList = .ok o from hr6] at hpp; cases hpp⟩
        rw [show readBy Cd.mr.rd y.cps.toList = .ok o from hr6] at ho2
        injection ho2 with ho2
        subst ho2
        refine ⟨_, rfl, _, rfl, _, _, toldL_dp hT2 hp2, toldL_dp (b4 _ _ hT1) (b4 _ _ hp1), toldL_sh _, toldL_sh _, _, rfl, ?_⟩
        rw [sh_eqJ (toldL_sh _)]
        refine iteF ⟨_, rfl, .mr, y, rfl, by omega, hys, fun o2 ho2 B5 T3 p3 b5 hT3 hp3 _ _ => ?_, fun pp hpp => by rw [show readBy Cd.mr.rd y.cps.toList = .ok o from hr6] at hpp; cases hpp⟩
        rw [show readBy Cd.mr.rd y.cps.toList = .ok o from hr6] at ho2
        injection ho2 with ho2
        subst ho2
        refine ⟨_, rfl, _, _, toldL_dp hT3 hp3, toldL_dp (b5 _ _ (b4 _ _ hT1)) (b5 _ _ (b4 _ _ hp1)), toldL_sh _, toldL_sh _, _, rfl, ?_⟩
        rw [sh_eqJ (toldL_sh _)]
        refine iteF ?_
        have hT25 := b5 _ _ hT2
        have hp25 := b5 _ _ hp2
        refine ⟨_, rfl, T2, _, _, .str ("told" : Str), rfl, rfl, SqT.of hT25, rfl, rfl, _, rfl, ?_⟩
        refine iteT ?_
        refine ⟨_, rfl, T2, _, _, .ref p2, rfl, rfl, SqT.of hT25, rfl, _, _, .type "list", .type "list", true, rfl, ClsV.ty "list", .base (.lst hp25), kit_ty (by decide +kernel), _, rfl, iteF ?_⟩
        have d5b := db.same ((b3.trans b4).trans b5)
        refine ⟨_, rfl, _, rfl, _, rfl, sr, y, SGx, rfl, d5b.src, by omega, hys, hsg.1.1, hsg.1.2, hsg.2, fun B6 r d6b hr hrs => ?_⟩
        exact ⟨r, _, _, _, rfl, d5b.trans d6b, by omega, hrs⟩
      | error pe =>
        refine ⟨_, rfl, y, rfl, by omega, hys, fun o2 ho2 => (by rw [hr6] at ho2; cases ho2), fun pp hpp B3 T1 b3 hT1 => ?_⟩
        rw [hr6] at hpp
        injection hpp with hpp
        subst hpp
        refine ⟨_, rfl, .mr, y, rfl, by omega, hys, fun o2 ho2 => (by rw [show readBy Cd.mr.rd y.cps.toList = .error pe from hr6] at ho2; cases ho2), fun pp hpp B4 T2 b4 hT2 => ?_⟩
        rw [show readBy Cd.mr.rd y.cps.toList = .error pe from hr6] at hpp
        injection hpp with hpp
        subst hpp
        refine ⟨_, rfl, _, rfl, _, _, codeJ_dp hT2, codeJ_dp (b4 _ _ hT1), codeJ_sh _, codeJ_sh _, _, rfl, ?_⟩
        rw [sh_eqJ (codeJ_sh _)]
        refine iteF ⟨_, rfl, .mr, y, rfl, by omega, hys, fun o2 ho2 => (by rw [show readBy Cd.mr.rd y.cps.toList = .error pe from hr6] at ho2; cases ho2), fun pp hpp B5 T3 b5 hT3 => ?_⟩
        rw [show readBy Cd.mr.rd y.cps.toList = .error pe from hr6] at hpp
        injection hpp with hpp
        subst hpp
        refine ⟨_, rfl, _, _, codeJ_dp hT3, codeJ_dp (b5 _ _ (b4 _ _ hT1)), codeJ_sh _, codeJ_sh _, _, rfl, ?_⟩
        rw [sh_eqJ (codeJ_sh _)]
        refine iteF ?_
        have hT25 := b5 _ _ hT2
        refine ⟨_, rfl, T2, _, _, .str ("code" : Str), rfl, rfl, SqT.of hT25, rfl, rfl, _, rfl, ?_⟩
        rw [decide_eq_false (fun z => absurd (V.str.inj z) (by decide +kernel))]
        refine iteF (iteF ?_)
        have d5b := db.same ((b3.trans b4).trans b5)
        refine ⟨_, rfl, _, rfl, _, rfl, sr, y, SGx, rfl, d5b.src, by omega, hys, hsg.1.1, hsg.1.2, hsg.2, fun B6 r d6b hr hrs => ?_⟩
        exact ⟨r, _, _, _, rfl, d5b.trans d6b, by omega, hrs⟩
    · obtain ⟨y, u5, u6, u7, rfl, db, hyl, hys⟩ := hq
      exact ⟨_, _, _, _, _, _, rfl, same_drawn (sm.trans s3) nsr0 db⟩
end
end FL

namespace FL
open PySem PySem.Spec PyProof.Rows L2
theorem all_mk {l : PySem.W.OpenLaw} {w : World} {K : PySem.W.Frag} {h : Heap} {mg : Str → Option Value} {fa f1 f2 f3 f4 f5 f6 f7 f8 f9 f10 f11 f12 f13 f14 f15 f16 f17 f18 f19 f20 f21 f22 f23 f24 f25 f26 f27 f28 f29 f30 f31 f32 f33 f34 f35 f36 f37 f38 f39 f40 : Addr} (X : K.In h) (G : h.Ns mainGlobals mg) (hfa : mg "law" = some (.ref fa))
    {od1 an1 od2 an2 od3 an3 od4 an4 od5 an5 od6 an6 od7 an7 od8 an8 od9 an9 od10 an10 od11 an11 od12 an12 od13 an13 od14 an14 od15 an15 od16 an16 od17 an17 od18 an18 od19 an19 od20 an20 od21 an21 od22 an22 od23 an23 od24 an24 od25 an25 od26 an26 od27 an27 od28 an28 od29 an29 od30 an30 od31 an31 od32 an32 od33 an33 od34 an34 od35 an35 od36 an36 od37 an37 od38 an38 od39 an39 od40 an40 : Option Addr} {sl1 sl2 sl3 sl4 sl5 sl6 sl7 sl8 sl9 sl10 sl11 sl12 sl13 sl14 sl15 sl16 sl17 sl18 sl19 sl20 sl21 sl22 sl23 sl24 sl25 sl26 sl27 sl28 sl29 sl30 sl31 sl32 sl33 sl34 sl35 sl36 sl37 sl38 sl39 sl40 : Array (Option Value)} {oc1 kV1 dc1 pm1 cd1 ct1 oc2 kV2 dc2 pm2 cd2 ct2 oc3 kV3 dc3 pm3 cd3 ct3 oc4 kV4 dc4 pm4 cd4 ct4 oc5 kV5 dc5 pm5 cd5 ct5 oc6 kV6 dc6 pm6 cd6 ct6 oc7 kV7 dc7 pm7 cd7 ct7 oc8 kV8 dc8 pm8 cd8 ct8 oc9 kV9 dc9 pm9 cd9 ct9 oc10 kV10 dc10 pm10 cd10 ct10 oc11 kV11 dc11 pm11 cd11 ct11 oc12 kV12 dc12 pm12 cd12 ct12 oc13 kV13 dc13 pm13 cd13 ct13 oc14 kV14 dc14 pm14 cd14 ct14 oc15 kV15 dc15 pm15 cd15 ct15 oc16 kV16 dc16 pm16 cd16 ct16 oc17 kV17 dc17 pm17 cd17 ct17 oc18 kV18 dc18 pm18 cd18 ct18 oc19 kV19 dc19 pm19 cd19 ct19 oc20 kV20 dc20 pm20 cd20 ct20 oc21 kV21 dc21 pm21 cd21 ct21 oc22 kV22 dc22 pm22 cd22 ct22 oc23 kV23 dc23 pm23 cd23 ct23 oc24 kV24 dc24 pm24 cd24 ct24 oc25 kV25 dc25 pm25 cd25 ct25 oc26 kV26 dc26 pm26 cd26 ct26 oc27 kV27 dc27 pm27 cd27 ct27 oc28 kV28 dc28 pm28 cd28 ct28 oc29 kV29 dc29 pm29 cd29 ct29 oc30 kV30 dc30 pm30 cd30 ct30 oc31 kV31 dc31 pm31 cd31 ct31 oc32 kV32 dc32 pm32 cd32 ct32 oc33 kV33 dc33 pm33 cd33 ct33 oc34 kV34 dc34 pm34 cd34 ct34 oc35 kV35 dc35 pm35 cd35 ct35 oc36 kV36 dc36 pm36 cd36 ct36 oc37 kV37 dc37 pm37 cd37 ct37 oc38 kV38 dc38 pm38 cd38 ct38 oc39 kV39 dc39 pm39 cd39 ct39 oc40 kV40 dc40 pm40 cd40 ct40 : Value} {tk1 tk2 tk3 tk4 tk5 tk6 tk7 tk8 : Tok}
    {CL fL TL : Addr} {odL anL odTL : Option Addr} {slL slTL : Array (Option Value)} {ocL kVL dcL pmL cdL ctL ocTL : Value} {tkL : Tok} {nTL : Nat}
    {C fC TC NC : Addr} {nmC qC : Str} {bsC bmC : List Value} {snC : List Str} {subC : List Value} {abC : Bool} {colC : Option Bool} {ddC odC anC odTC : Option Addr} {m0C m1C m2C m3C m5C : Option Value} {slC slTC : Array (Option Value)} {ocC kVC dcC pmC cdC ctC ocTC : Value} {tkC : Tok} {nTC : Nat}
    {CN NCN : Addr} {nmCN qCN : Str} {bsCN bmCN : List Value} {snCN : List Str} {subCN : List Value} {abCN : Bool} {colCN : Option Bool} {ddCN : Option Addr} {m0CN m1CN m2CN m3CN m5CN : Option Value}
    {a_WRITERS : Addr} {es_WRITERS : Array DictEntry} {n_WRITERS : Nat}
    {a_READERS : Addr} {es_READERS : Array DictEntry} {n_READERS : Nat}
    (gL : PySem.W.nsIn K mainGlobals "LetterError" = some (some (.ref CL)))
    (iL : PySem.W.findIn K (.ref CL) "__init__" = some (some (.ref fL)))
    (lL : K.lookup fL = some ⟨ocL, odL, .func (PySem.W.fnOf "__init__" "LetterError.__init__" (defArgs sLE) (defBody sLE) (defScope sLE) (.ref TL) kVL dcL pmL anL cdL ctL), slL⟩)
    (cL : PySem.W.codeIn K cdL "LetterError.__init__" = true)
    (kL : PySem.W.keepIn K (.ref fL) = true)
    (dL : K.lookup TL = some ⟨ocTL, odTL, .seq #[.str ("" : Str) tkL] nTL, slTL⟩)
    (gaL : PySem.W.specialIn K (.ref CL) "__getattribute__" = some (some (.builtin "type.__getattribute__")))
    (rdL : PySem.W.readsIn K CL (.type "type") = true)
    (atL : PySem.W.findCls K (.ref CL) (.type "type") "__init__" = some (.val (.ref fL)))
    (vV : PySem.W.findCls K (.type "ValueError") (.type "type") "__init__" = some (.val (.builtin "ValueError.__init__")))
    (zVE : PySem.W.nsIn K mainGlobals "ValueError" = some none)
    (exL : PySem.W.subIn K (.ref CL) (.type "BaseException") = some true)
    (hdL : PySem.W.hasDictIn K CL = true)
    (tyL : PySem.W.typeIn K (.ref CL) = some (.type "type"))
    (tifL : PySem.W.typeIn K (.ref fL) = some (.type "function"))
    (gC : PySem.W.nsIn K mainGlobals "NoCode" = some (some (.ref C)))
    (xC : K.lookup C = some (excClassObj nmC qC C NC bsC bmC true snC subC abC colC ddC m0C m1C m2C m3C m5C "ValueError.__new__"))
    (rvC : PySem.HandSPX.refsVE bmC = true)
    (saC : PySem.W.findIn K (.ref C) "__setattr__" = some (some (.builtin "object.__setattr__")))
    (exC : PySem.W.subIn K (.ref C) (.type "BaseException") = some true)
    (tyC : PySem.W.typeIn K (.ref C) = some (.type "type"))
    (kcC : PySem.W.keepIn K (.ref C) = true)
    (noC : PySem.W.findIn K (.ref C) "at" = some none)
    (iC : PySem.W.findIn K (.ref C) "__init__" = some (some (.ref fC)))
    (tiC : PySem.W.typeIn K (.ref fC) = some (.type "function"))
    (lC : K.lookup fC = some ⟨ocC, odC, .func (PySem.W.fnOf "__init__" "NoCode.__init__" (defArgs sNC) (defBody sNC) (defScope sNC) (.ref TC) kVC dcC pmC anC cdC ctC), slC⟩)
    (cC : PySem.W.codeIn K cdC "NoCode.__init__" = true)
    (kC : PySem.W.keepIn K (.ref fC) = true)
    (dC : K.lookup TC = some ⟨ocTC, odTC, .seq #[.int 0 tkC] nTC, slTC⟩)
    (hgC : PySem.W.findIn K (.ref C) "__getattribute__" = some (some (.builtin "BaseException.__getattribute__")))
    (hkC : PySem.W.findIn K (.ref C) "__getattr__" = some none)
    (hdC : PySem.W.hasDictIn K C = true)
    (haC : PySem.W.findIn K (.ref C) "__class__" = some (some (.builtin "object.__class__")))
    (hmC : PySem.W.mroIn K C (.type "object") = some true)
    (suC : PySem.W.subIn K (.ref C) (.ref CL) = some true)
    (gCN : PySem.W.nsIn K mainGlobals "NoOctets" = some (some (.ref CN)))
    (xCN : K.lookup CN = some (excClassObj nmCN qCN CN NCN bsCN bmCN true snCN subCN abCN colCN ddCN m0CN m1CN m2CN m3CN m5CN "ValueError.__new__"))
    (rvCN : PySem.HandSPX.refsVE bmCN = true)
    (saCN : PySem.W.findIn K (.ref CN) "__setattr__" = some (some (.builtin "object.__setattr__")))
    (exCN : PySem.W.subIn K (.ref CN) (.type "BaseException") = some true)
    (tyCN : PySem.W.typeIn K (.ref CN) = some (.type "type"))
    (kcCN : PySem.W.keepIn K (.ref CN) = true)
    (iCN : PySem.W.findIn K (.ref CN) "__init__" = some (some (.ref fL)))
    (hgCN : PySem.W.findIn K (.ref CN) "__getattribute__" = some (some (.builtin "BaseException.__getattribute__")))
    (hkCN : PySem.W.findIn K (.ref CN) "__getattr__" = some none)
    (hdCN : PySem.W.hasDictIn K CN = true)
    (haCN : PySem.W.findIn K (.ref CN) "__class__" = some (some (.builtin "object.__class__")))
    (hmCN : PySem.W.mroIn K CN (.type "object") = some true)
    (suCN : PySem.W.subIn K (.ref CN) (.ref CL) = some true)
    (hn0 : PySem.W.specialIn K (.builtin "object.__class__") "__get__" = some (some (.builtin "getset_descriptor.__get__")))
    (ht0 : PySem.W.takesIn K (.builtin "object.__class__") = some true)
    (suSelf : PySem.W.subIn K (.ref C) (.ref C) = some true)
    (suVE : PySem.W.subIn K (.ref C) (.type "ValueError") = some true)
    (g_WRITERS : PySem.W.nsIn K mainGlobals "WRITERS" = some (some (.ref a_WRITERS)))
    (l_WRITERS : K.lookup a_WRITERS = some ⟨.type "dict", none, .dict es_WRITERS n_WRITERS, #[]⟩)
    (kly_WRITERS : PySem.W.KeysLit w.params es_WRITERS.toList)
    (lox_WRITERS : (a_WRITERS == sysModules) = false)
    (s_WRITERS_plain : PySem.W.nsIn K a_WRITERS "plain" = some (some (.ref f12)))
    (s_WRITERS_sixes : PySem.W.nsIn K a_WRITERS "sixes" = some (some (.ref f14)))
    (s_WRITERS_marks : PySem.W.nsIn K a_WRITERS "marks" = some (some (.ref f19)))
    (g_READERS : PySem.W.nsIn K mainGlobals "READERS" = some (some (.ref a_READERS)))
    (l_READERS : K.lookup a_READERS = some ⟨.type "dict", none, .dict es_READERS n_READERS, #[]⟩)
    (kly_READERS : PySem.W.KeysLit w.params es_READERS.toList)
    (lox_READERS : (a_READERS == sysModules) = false)
    (s_READERS_plain : PySem.W.nsIn K a_READERS "plain" = some (some (.ref f13)))
    (s_READERS_sixes : PySem.W.nsIn K a_READERS "sixes" = some (some (.ref f16)))
    (s_READERS_marks : PySem.W.nsIn K a_READERS "marks" = some (some (.ref f21)))
    (kitNt : PySem.W.typeIn K (.ref CN) = some (.type "type"))
    (kitNd : PySem.W.hasDictIn K CN = true)
    (kitNs : PySem.W.subIn K (.ref C) (.ref CN) = some false)
    (kitNn : ((Value.ref C) == (Value.ref CN)) = false)
    (a1 : PySem.W.nsIn K mainGlobals "is_text" = some (some (.ref f1))) (l1 : K.lookup f1 = some ⟨oc1, od1, .func (PySem.W.fnOf "is_text" "is_text" (defArgs sIsText) (defBody sIsText) (defScope sIsText) .none kV1 dc1 pm1 an1 cd1 ct1), sl1⟩) (c1 : PySem.W.codeIn K cd1 "is_text" = true) (k1 : PySem.W.keepIn K (.ref f1) = true)
    (a2 : PySem.W.nsIn K mainGlobals "is_numbered" = some (some (.ref f2))) (l2 : K.lookup f2 = some ⟨oc2, od2, .func (PySem.W.fnOf "is_numbered" "is_numbered" (defArgs sIsNumbered) (defBody sIsNumbered) (defScope sIsNumbered) .none kV2 dc2 pm2 an2 cd2 ct2), sl2⟩) (c2 : PySem.W.codeIn K cd2 "is_numbered" = true) (k2 : PySem.W.keepIn K (.ref f2) = true)
    (a3 : PySem.W.nsIn K mainGlobals "text_of" = some (some (.ref f3))) (l3 : K.lookup f3 = some ⟨oc3, od3, .func (PySem.W.fnOf "text_of" "text_of" (defArgs sTextOf) (defBody sTextOf) (defScope sTextOf) .none kV3 dc3 pm3 an3 cd3 ct3), sl3⟩) (c3 : PySem.W.codeIn K cd3 "text_of" = true) (k3 : PySem.W.keepIn K (.ref f3) = true)
    (a4 : PySem.W.nsIn K mainGlobals "numbers_of" = some (some (.ref f4))) (l4 : K.lookup f4 = some ⟨oc4, od4, .func (PySem.W.fnOf "numbers_of" "numbers_of" (defArgs sNumbersOf) (defBody sNumbersOf) (defScope sNumbersOf) .none kV4 dc4 pm4 an4 cd4 ct4), sl4⟩) (c4 : PySem.W.codeIn K cd4 "numbers_of" = true) (k4 : PySem.W.keepIn K (.ref f4) = true)
    (a5 : PySem.W.nsIn K mainGlobals "_is_sign" = some (some (.ref f5))) (l5 : K.lookup f5 = some ⟨oc5, od5, .func (PySem.W.fnOf "_is_sign" "_is_sign" (defArgs sIsSign) (defBody sIsSign) (defScope sIsSign) .none kV5 dc5 pm5 an5 cd5 ct5), sl5⟩) (c5 : PySem.W.codeIn K cd5 "_is_sign" = true) (k5 : PySem.W.keepIn K (.ref f5) = true)
    (a6 : PySem.W.nsIn K mainGlobals "_sign_of" = some (some (.ref f6))) (l6 : K.lookup f6 = some ⟨oc6, od6, .func (PySem.W.fnOf "_sign_of" "_sign_of" (defArgs sSignOf) (defBody sSignOf) (defScope sSignOf) .none kV6 dc6 pm6 an6 cd6 ct6), sl6⟩) (c6 : PySem.W.codeIn K cd6 "_sign_of" = true) (k6 : PySem.W.keepIn K (.ref f6) = true)
    (a7 : PySem.W.nsIn K mainGlobals "read_by" = some (some (.ref f7))) (l7 : K.lookup f7 = some ⟨oc7, od7, .func (PySem.W.fnOf "read_by" "read_by" (defArgs sReadBy) (defBody sReadBy) (defScope sReadBy) .none kV7 dc7 pm7 an7 cd7 ct7), sl7⟩) (c7 : PySem.W.codeIn K cd7 "read_by" = true) (k7 : PySem.W.keepIn K (.ref f7) = true)
    (a8 : PySem.W.nsIn K mainGlobals "sixes_of" = some (some (.ref f8))) (l8 : K.lookup f8 = some ⟨oc8, od8, .func (PySem.W.fnOf "sixes_of" "sixes_of" (defArgs sSixesOf) (defBody sSixesOf) (defScope sSixesOf) .none kV8 dc8 pm8 an8 cd8 ct8), sl8⟩) (c8 : PySem.W.codeIn K cd8 "sixes_of" = true) (k8 : PySem.W.keepIn K (.ref f8) = true)
    (a9 : PySem.W.nsIn K mainGlobals "by_sixteen" = some (some (.ref f9))) (l9 : K.lookup f9 = some ⟨oc9, od9, .func (PySem.W.fnOf "by_sixteen" "by_sixteen" (defArgs sBySixteen) (defBody sBySixteen) (defScope sBySixteen) .none kV9 dc9 pm9 an9 cd9 ct9), sl9⟩) (c9 : PySem.W.codeIn K cd9 "by_sixteen" = true) (k9 : PySem.W.keepIn K (.ref f9) = true)
    (a10 : PySem.W.nsIn K mainGlobals "_check_code" = some (some (.ref f10))) (l10 : K.lookup f10 = some ⟨oc10, od10, .func (PySem.W.fnOf "_check_code" "_check_code" (defArgs sCheckCode) (defBody sCheckCode) (defScope sCheckCode) .none kV10 dc10 pm10 an10 cd10 ct10), sl10⟩) (c10 : PySem.W.codeIn K cd10 "_check_code" = true) (k10 : PySem.W.keepIn K (.ref f10) = true)
    (a11 : PySem.W.nsIn K mainGlobals "_is_plain" = some (some (.ref f11))) (l11 : K.lookup f11 = some ⟨oc11, od11, .func (PySem.W.fnOf "_is_plain" "_is_plain" (defArgs sIsPlain) (defBody sIsPlain) (defScope sIsPlain) .none kV11 dc11 pm11 an11 cd11 ct11), sl11⟩) (c11 : PySem.W.codeIn K cd11 "_is_plain" = true) (k11 : PySem.W.keepIn K (.ref f11) = true)
    (a12 : PySem.W.nsIn K mainGlobals "_write_plain" = some (some (.ref f12))) (l12 : K.lookup f12 = some ⟨oc12, od12, .func (PySem.W.fnOf "_write_plain" "_write_plain" (defArgs sWritePlain) (defBody sWritePlain) (defScope sWritePlain) .none kV12 dc12 pm12 an12 cd12 ct12), sl12⟩) (c12 : PySem.W.codeIn K cd12 "_write_plain" = true) (k12 : PySem.W.keepIn K (.ref f12) = true)
    (a13 : PySem.W.nsIn K mainGlobals "_read_plain" = some (some (.ref f13))) (l13 : K.lookup f13 = some ⟨oc13, od13, .func (PySem.W.fnOf "_read_plain" "_read_plain" (defArgs sReadPlain) (defBody sReadPlain) (defScope sReadPlain) .none kV13 dc13 pm13 an13 cd13 ct13), sl13⟩) (c13 : PySem.W.codeIn K cd13 "_read_plain" = true) (k13 : PySem.W.keepIn K (.ref f13) = true)
    (a14 : PySem.W.nsIn K mainGlobals "_write_sixes" = some (some (.ref f14))) (l14 : K.lookup f14 = some ⟨oc14, od14, .func (PySem.W.fnOf "_write_sixes" "_write_sixes" (defArgs sWriteSixes) (defBody sWriteSixes) (defScope sWriteSixes) .none kV14 dc14 pm14 an14 cd14 ct14), sl14⟩) (c14 : PySem.W.codeIn K cd14 "_write_sixes" = true) (k14 : PySem.W.keepIn K (.ref f14) = true)
    (a15 : PySem.W.nsIn K mainGlobals "_four_of" = some (some (.ref f15))) (l15 : K.lookup f15 = some ⟨oc15, od15, .func (PySem.W.fnOf "_four_of" "_four_of" (defArgs sFourOf) (defBody sFourOf) (defScope sFourOf) .none kV15 dc15 pm15 an15 cd15 ct15), sl15⟩) (c15 : PySem.W.codeIn K cd15 "_four_of" = true) (k15 : PySem.W.keepIn K (.ref f15) = true)
    (a16 : PySem.W.nsIn K mainGlobals "_read_sixes" = some (some (.ref f16))) (l16 : K.lookup f16 = some ⟨oc16, od16, .func (PySem.W.fnOf "_read_sixes" "_read_sixes" (defArgs sReadSixes) (defBody sReadSixes) (defScope sReadSixes) .none kV16 dc16 pm16 an16 cd16 ct16), sl16⟩) (c16 : PySem.W.codeIn K cd16 "_read_sixes" = true) (k16 : PySem.W.keepIn K (.ref f16) = true)
    (a17 : PySem.W.nsIn K mainGlobals "_may_fill" = some (some (.ref f17))) (l17 : K.lookup f17 = some ⟨oc17, od17, .func (PySem.W.fnOf "_may_fill" "_may_fill" (defArgs sMayFill) (defBody sMayFill) (defScope sMayFill) .none kV17 dc17 pm17 an17 cd17 ct17), sl17⟩) (c17 : PySem.W.codeIn K cd17 "_may_fill" = true) (k17 : PySem.W.keepIn K (.ref f17) = true)
    (a18 : PySem.W.nsIn K mainGlobals "_octets_of_four" = some (some (.ref f18))) (l18 : K.lookup f18 = some ⟨oc18, od18, .func (PySem.W.fnOf "_octets_of_four" "_octets_of_four" (defArgs sOctetsOfFour) (defBody sOctetsOfFour) (defScope sOctetsOfFour) .none kV18 dc18 pm18 an18 cd18 ct18), sl18⟩) (c18 : PySem.W.codeIn K cd18 "_octets_of_four" = true) (k18 : PySem.W.keepIn K (.ref f18) = true)
    (a19 : PySem.W.nsIn K mainGlobals "_write_marks" = some (some (.ref f19))) (l19 : K.lookup f19 = some ⟨oc19, od19, .func (PySem.W.fnOf "_write_marks" "_write_marks" (defArgs sWriteMarks) (defBody sWriteMarks) (defScope sWriteMarks) .none kV19 dc19 pm19 an19 cd19 ct19), sl19⟩) (c19 : PySem.W.codeIn K cd19 "_write_marks" = true) (k19 : PySem.W.keepIn K (.ref f19) = true)
    (a20 : PySem.W.nsIn K mainGlobals "_unit_at" = some (some (.ref f20))) (l20 : K.lookup f20 = some ⟨oc20, od20, .func (PySem.W.fnOf "_unit_at" "_unit_at" (defArgs sUnitAt) (defBody sUnitAt) (defScope sUnitAt) .none kV20 dc20 pm20 an20 cd20 ct20), sl20⟩) (c20 : PySem.W.codeIn K cd20 "_unit_at" = true) (k20 : PySem.W.keepIn K (.ref f20) = true)
    (a21 : PySem.W.nsIn K mainGlobals "_read_marks" = some (some (.ref f21))) (l21 : K.lookup f21 = some ⟨oc21, od21, .func (PySem.W.fnOf "_read_marks" "_read_marks" (defArgs sReadMarks) (defBody sReadMarks) (defScope sReadMarks) .none kV21 dc21 pm21 an21 cd21 ct21), sl21⟩) (c21 : PySem.W.codeIn K cd21 "_read_marks" = true) (k21 : PySem.W.keepIn K (.ref f21) = true)
    (a22 : PySem.W.nsIn K mainGlobals "_read_stretch" = some (some (.ref f22))) (l22 : K.lookup f22 = some ⟨oc22, od22, .func (PySem.W.fnOf "_read_stretch" "_read_stretch" (defArgs sReadStretch) (defBody sReadStretch) (defScope sReadStretch) .none kV22 dc22 pm22 an22 cd22 ct22), sl22⟩) (c22 : PySem.W.codeIn K cd22 "_read_stretch" = true) (k22 : PySem.W.keepIn K (.ref f22) = true)
    (a23 : PySem.W.nsIn K mainGlobals "_read_equals" = some (some (.ref f23))) (l23 : K.lookup f23 = some ⟨oc23, od23, .func (PySem.W.fnOf "_read_equals" "_read_equals" (defArgs sReadEquals) (defBody sReadEquals) (defScope sReadEquals) .none kV23 dc23 pm23 an23 cd23 ct23), sl23⟩) (c23 : PySem.W.codeIn K cd23 "_read_equals" = true) (k23 : PySem.W.keepIn K (.ref f23) = true)
    (a24 : PySem.W.nsIn K mainGlobals "_blanks_end" = some (some (.ref f24))) (l24 : K.lookup f24 = some ⟨oc24, od24, .func (PySem.W.fnOf "_blanks_end" "_blanks_end" (defArgs sBlanksEnd) (defBody sBlanksEnd) (defScope sBlanksEnd) .none kV24 dc24 pm24 an24 cd24 ct24), sl24⟩) (c24 : PySem.W.codeIn K cd24 "_blanks_end" = true) (k24 : PySem.W.keepIn K (.ref f24) = true)
    (a25 : PySem.W.nsIn K mainGlobals "_figure_at" = some (some (.ref f25))) (l25 : K.lookup f25 = some ⟨oc25, od25, .func (PySem.W.fnOf "_figure_at" "_figure_at" (defArgs sFigureAt) (defBody sFigureAt) (defScope sFigureAt) .none kV25 dc25 pm25 an25 cd25 ct25), sl25⟩) (c25 : PySem.W.codeIn K cd25 "_figure_at" = true) (k25 : PySem.W.keepIn K (.ref f25) = true)
    (a26 : PySem.W.nsIn K mainGlobals "_law_cell_at" = some (some (.ref f26))) (l26 : K.lookup f26 = some ⟨oc26, od26, .func (PySem.W.fnOf "_law_cell_at" "_law_cell_at" (defArgs sCellAt) (defBody sCellAt) (defScope sCellAt) .none kV26 dc26 pm26 an26 cd26 ct26), sl26⟩) (c26 : PySem.W.codeIn K cd26 "_law_cell_at" = true) (k26 : PySem.W.keepIn K (.ref f26) = true)
    (a27 : PySem.W.nsIn K mainGlobals "_law_mixed" = some (some (.ref f27))) (l27 : K.lookup f27 = some ⟨oc27, od27, .func (PySem.W.fnOf "_law_mixed" "_law_mixed" (defArgs sMixed) (defBody sMixed) (defScope sMixed) .none kV27 dc27 pm27 an27 cd27 ct27), sl27⟩) (c27 : PySem.W.codeIn K cd27 "_law_mixed" = true) (k27 : PySem.W.keepIn K (.ref f27) = true)
    (a28 : PySem.W.nsIn K mainGlobals "_law_source" = some (some (.ref f28))) (l28 : K.lookup f28 = some ⟨oc28, od28, .func (PySem.W.fnOf "_law_source" "_law_source" (defArgs sSource) (defBody sSource) (defScope sSource) .none kV28 dc28 pm28 an28 cd28 ct28), sl28⟩) (c28 : PySem.W.codeIn K cd28 "_law_source" = true) (k28 : PySem.W.keepIn K (.ref f28) = true)
    (a29 : PySem.W.nsIn K mainGlobals "_law_next" = some (some (.ref f29))) (l29 : K.lookup f29 = some ⟨oc29, od29, .func (PySem.W.fnOf "_law_next" "_law_next" (defArgs sNext) (defBody sNext) (defScope sNext) .none kV29 dc29 pm29 an29 cd29 ct29), sl29⟩) (c29 : PySem.W.codeIn K cd29 "_law_next" = true) (k29 : PySem.W.keepIn K (.ref f29) = true)
    (a30 : PySem.W.nsIn K mainGlobals "_law_row" = some (some (.ref f30))) (l30 : K.lookup f30 = some ⟨oc30, od30, .func (PySem.W.fnOf "_law_row" "_law_row" (defArgs sLawRow) (defBody sLawRow) (defScope sLawRow) .none kV30 dc30 pm30 an30 cd30 ct30), sl30⟩) (c30 : PySem.W.codeIn K cd30 "_law_row" = true) (k30 : PySem.W.keepIn K (.ref f30) = true)
    (a31 : PySem.W.nsIn K mainGlobals "_law_text" = some (some (.ref f31))) (l31 : K.lookup f31 = some ⟨oc31, od31, .func (PySem.W.fnOf "_law_text" "_law_text" (defArgs sLawText) (defBody sLawText) (defScope sLawText) .none kV31 dc31 pm31 an31 cd31 ct31), sl31⟩) (c31 : PySem.W.codeIn K cd31 "_law_text" = true) (k31 : PySem.W.keepIn K (.ref f31) = true)
    (a32 : PySem.W.nsIn K mainGlobals "_law_units" = some (some (.ref f32))) (l32 : K.lookup f32 = some ⟨oc32, od32, .func (PySem.W.fnOf "_law_units" "_law_units" (defArgs sLawUnits) (defBody sLawUnits) (defScope sLawUnits) .none kV32 dc32 pm32 an32 cd32 ct32), sl32⟩) (c32 : PySem.W.codeIn K cd32 "_law_units" = true) (k32 : PySem.W.keepIn K (.ref f32) = true)
    (a33 : PySem.W.nsIn K mainGlobals "_law_marks" = some (some (.ref f33))) (l33 : K.lookup f33 = some ⟨oc33, od33, .func (PySem.W.fnOf "_law_marks" "_law_marks" (defArgs sLawMarks) (defBody sLawMarks) (defScope sLawMarks) .none kV33 dc33 pm33 an33 cd33 ct33), sl33⟩) (c33 : PySem.W.codeIn K cd33 "_law_marks" = true) (k33 : PySem.W.keepIn K (.ref f33) = true)
    (a34 : PySem.W.nsIn K mainGlobals "_law_touched" = some (some (.ref f34))) (l34 : K.lookup f34 = some ⟨oc34, od34, .func (PySem.W.fnOf "_law_touched" "_law_touched" (defArgs sLawTouched) (defBody sLawTouched) (defScope sLawTouched) .none kV34 dc34 pm34 an34 cd34 ct34), sl34⟩) (c34 : PySem.W.codeIn K cd34 "_law_touched" = true) (k34 : PySem.W.keepIn K (.ref f34) = true)
    (a35 : PySem.W.nsIn K mainGlobals "_law_loose" = some (some (.ref f35))) (l35 : K.lookup f35 = some ⟨oc35, od35, .func (PySem.W.fnOf "_law_loose" "_law_loose" (defArgs sLawLoose) (defBody sLawLoose) (defScope sLawLoose) .none kV35 dc35 pm35 an35 cd35 ct35), sl35⟩) (c35 : PySem.W.codeIn K cd35 "_law_loose" = true) (k35 : PySem.W.keepIn K (.ref f35) = true)
    (a36 : PySem.W.nsIn K mainGlobals "_law_numbers" = some (some (.ref f36))) (l36 : K.lookup f36 = some ⟨oc36, od36, .func (PySem.W.fnOf "_law_numbers" "_law_numbers" (defArgs sLawNumbers) (defBody sLawNumbers) (defScope sLawNumbers) .none kV36 dc36 pm36 an36 cd36 ct36), sl36⟩) (c36 : PySem.W.codeIn K cd36 "_law_numbers" = true) (k36 : PySem.W.keepIn K (.ref f36) = true)
    (a37 : PySem.W.nsIn K mainGlobals "_law_line" = some (some (.ref f37))) (l37 : K.lookup f37 = some ⟨oc37, od37, .func (PySem.W.fnOf "_law_line" "_law_line" (defArgs sLawLine) (defBody sLawLine) (defScope sLawLine) .none kV37 dc37 pm37 an37 cd37 ct37), sl37⟩) (c37 : PySem.W.codeIn K cd37 "_law_line" = true) (k37 : PySem.W.keepIn K (.ref f37) = true)
    (a38 : PySem.W.nsIn K mainGlobals "_law_due" = some (some (.ref f38))) (l38 : K.lookup f38 = some ⟨oc38, od38, .func (PySem.W.fnOf "_law_due" "_law_due" (defArgs sDue) (defBody sDue) (defScope sDue) .none kV38 dc38 pm38 an38 cd38 ct38), sl38⟩) (c38 : PySem.W.codeIn K cd38 "_law_due" = true) (k38 : PySem.W.keepIn K (.ref f38) = true)
    (a39 : PySem.W.nsIn K mainGlobals "_law_said" = some (some (.ref f39))) (l39 : K.lookup f39 = some ⟨oc39, od39, .func (PySem.W.fnOf "_law_said" "_law_said" (defArgs sLawSaid) (defBody sLawSaid) (defScope sLawSaid) .none kV39 dc39 pm39 an39 cd39 ct39), sl39⟩) (c39 : PySem.W.codeIn K cd39 "_law_said" = true) (k39 : PySem.W.keepIn K (.ref f39) = true)
    (a40 : PySem.W.nsIn K mainGlobals "law" = some (some (.ref f40))) (l40 : K.lookup f40 = some ⟨oc40, od40, .func (PySem.W.fnOf "law" "law" (defArgs sLaw) (defBody sLaw) (defScope sLaw) .none kV40 dc40 pm40 an40 cd40 ct40), sl40⟩) (c40 : PySem.W.codeIn K cd40 "law" = true) (k40 : PySem.W.keepIn K (.ref f40) = true)
    (z1 : PySem.W.nsIn K mainGlobals "isinstance" = some none) (z2 : PySem.W.nsIn K mainGlobals "int" = some none) (z3 : PySem.W.nsIn K mainGlobals "bool" = some none) (z4 : PySem.W.nsIn K mainGlobals "str" = some none) (z5 : PySem.W.nsIn K mainGlobals "list" = some none) (z6 : PySem.W.nsIn K mainGlobals "all" = some none) (z7 : PySem.W.nsIn K mainGlobals "ord" = some none) (z8 : PySem.W.nsIn K mainGlobals "len" = some none) (z9 : PySem.W.nsIn K mainGlobals "range" = some none) (z10 : PySem.W.nsIn K mainGlobals "max" = some none) (z11 : PySem.W.nsIn K mainGlobals "min" = some none) (z12 : PySem.W.nsIn K mainGlobals "enumerate" = some none) (z13 : PySem.W.nsIn K mainGlobals "zip" = some none) (v1 : PySem.W.nsIn K mainGlobals "PERCENT" = some (some (.int 37 tk1))) (v2 : PySem.W.nsIn K mainGlobals "BLANK" = some (some (.int 32 tk2))) (v3 : PySem.W.nsIn K mainGlobals "LINE_FEED" = some (some (.int 10 tk3))) (v4 : PySem.W.nsIn K mainGlobals "EQUALS" = some (some (.int 61 tk4))) (v5 : PySem.W.nsIn K mainGlobals "WIDTH" = some (some (.int 72 tk5))) (v6 : PySem.W.nsIn K mainGlobals "SIGNS" = some (some (.str SIGS tk6))) (v7 : PySem.W.nsIn K mainGlobals "SIXES" = some (some (.str SIXS tk7))) (v8 : PySem.W.nsIn K mainGlobals "SIXTEEN" = some (some (.str SXTN tk8))) :
    ∃ fd : FuncData, (∀ (s : Shared) (v : Value), BindsTo s fd ⟨[v], []⟩ [("_law_script", v)]) ∧ ∀ base : Heap, K.In base → base.Ns mainGlobals mg → FnOk l.prog w K mg base CX0 9 fa fd ["_law_script"] (spLaw K) := by
  have e := hfa.symm.trans (PySem.W.mg_of X G a40)
  cases e
  have m_ValueError : mg "ValueError" = none := PySem.W.mg_none_of X G zVE
  have m_LetterError := PySem.W.mg_of X G gL
  have FL : FunA K "LetterError.__init__" sLE [.str ""] fL _ := ⟨⟨_, _, _, _, _, _, _, _, _, _, rfl, lL, cL, .inr ⟨by simp, TL, _, [.str ("" : Str) tkL], nTL, rfl, dL, rfl, .cons ⟨tkL, rfl⟩ .nil⟩, .inl rfl⟩, kL⟩
  have TLc : ClsFn K CL fL := ⟨gaL, rdL, atL, kL⟩
  have m_NoCode := PySem.W.mg_of X G gC
  have FC : FunA K "NoCode.__init__" sNC [.int 0] fC _ := ⟨⟨_, _, _, _, _, _, _, _, _, _, rfl, lC, cC, .inr ⟨by simp, TC, _, [.int 0 tkC], nTC, rfl, dC, rfl, .cons ⟨tkC, rfl⟩ .nil⟩, .inl rfl⟩, kC⟩
  have OC : OexC K C := ⟨⟨nmC, qC, NC, bsC, bmC, snC, subC, abC, colC, ddC, m0C, m1C, m2C, m3C, m5C, xC, rvC⟩, saC, exC, tyC, kcC⟩
  have ECC : ExcC K C := ⟨hgC, hkC, exC, hdC, haC, hn0, ht0, hmC⟩
  have teC : PySem.W.exmOne K (.ref C) (.ref CL) = some true := PySem.W.exm_ref exL hdL tyL suC
  have XFC : XfC K C := ⟨hgC, hkC, exC, hdC⟩
  have m_NoOctets := PySem.W.mg_of X G gCN
  have OCN : OexC K CN := ⟨⟨nmCN, qCN, NCN, bsCN, bmCN, snCN, subCN, abCN, colCN, ddCN, m0CN, m1CN, m2CN, m3CN, m5CN, xCN, rvCN⟩, saCN, exCN, tyCN, kcCN⟩
  have ECCN : ExcC K CN := ⟨hgCN, hkCN, exCN, hdCN, haCN, hn0, ht0, hmCN⟩
  have teCN : PySem.W.exmOne K (.ref CN) (.ref CL) = some true := PySem.W.exm_ref exL hdL tyL suCN
  have XFCN : XfC K CN := ⟨hgCN, hkCN, exCN, hdCN⟩
  have kitN : PySem.W.kitOne K (.ref C) (.ref CN) = some false := kit_own kitNn kitNt kitNd kitNs
  have A1 : FnAt K mg "is_text" sIsText := ⟨f1, _, fun_mk (st := sIsText) l1 c1 k1, PySem.W.mg_of X G a1⟩
  have A2 : FnAt K mg "is_numbered" sIsNumbered := ⟨f2, _, fun_mk (st := sIsNumbered) l2 c2 k2, PySem.W.mg_of X G a2⟩
  have A3 : FnAt K mg "text_of" sTextOf := ⟨f3, _, fun_mk (st := sTextOf) l3 c3 k3, PySem.W.mg_of X G a3⟩
  have A4 : FnAt K mg "numbers_of" sNumbersOf := ⟨f4, _, fun_mk (st := sNumbersOf) l4 c4 k4, PySem.W.mg_of X G a4⟩
  have A5 : FnAt K mg "_is_sign" sIsSign := ⟨f5, _, fun_mk (st := sIsSign) l5 c5 k5, PySem.W.mg_of X G a5⟩
  have A6 : FnAt K mg "_sign_of" sSignOf := ⟨f6, _, fun_mk (st := sSignOf) l6 c6 k6, PySem.W.mg_of X G a6⟩
  have A7 : FnAt K mg "read_by" sReadBy := ⟨f7, _, fun_mk (st := sReadBy) l7 c7 k7, PySem.W.mg_of X G a7⟩
  have A8 : FnAt K mg "sixes_of" sSixesOf := ⟨f8, _, fun_mk (st := sSixesOf) l8 c8 k8, PySem.W.mg_of X G a8⟩
  have A9 : FnAt K mg "by_sixteen" sBySixteen := ⟨f9, _, fun_mk (st := sBySixteen) l9 c9 k9, PySem.W.mg_of X G a9⟩
  have A10 : FnAt K mg "_check_code" sCheckCode := ⟨f10, _, fun_mk (st := sCheckCode) l10 c10 k10, PySem.W.mg_of X G a10⟩
  have A11 : FnAt K mg "_is_plain" sIsPlain := ⟨f11, _, fun_mk (st := sIsPlain) l11 c11 k11, PySem.W.mg_of X G a11⟩
  have A12 : FnAt K mg "_write_plain" sWritePlain := ⟨f12, _, fun_mk (st := sWritePlain) l12 c12 k12, PySem.W.mg_of X G a12⟩
  have A13 : FnAt K mg "_read_plain" sReadPlain := ⟨f13, _, fun_mk (st := sReadPlain) l13 c13 k13, PySem.W.mg_of X G a13⟩
  have A14 : FnAt K mg "_write_sixes" sWriteSixes := ⟨f14, _, fun_mk (st := sWriteSixes) l14 c14 k14, PySem.W.mg_of X G a14⟩
  have A15 : FnAt K mg "_four_of" sFourOf := ⟨f15, _, fun_mk (st := sFourOf) l15 c15 k15, PySem.W.mg_of X G a15⟩
  have A16 : FnAt K mg "_read_sixes" sReadSixes := ⟨f16, _, fun_mk (st := sReadSixes) l16 c16 k16, PySem.W.mg_of X G a16⟩
  have A17 : FnAt K mg "_may_fill" sMayFill := ⟨f17, _, fun_mk (st := sMayFill) l17 c17 k17, PySem.W.mg_of X G a17⟩
  have A18 : FnAt K mg "_octets_of_four" sOctetsOfFour := ⟨f18, _, fun_mk (st := sOctetsOfFour) l18 c18 k18, PySem.W.mg_of X G a18⟩
  have A19 : FnAt K mg "_write_marks" sWriteMarks := ⟨f19, _, fun_mk (st := sWriteMarks) l19 c19 k19, PySem.W.mg_of X G a19⟩
  have A20 : FnAt K mg "_unit_at" sUnitAt := ⟨f20, _, fun_mk (st := sUnitAt) l20 c20 k20, PySem.W.mg_of X G a20⟩
  have A21 : FnAt K mg "_read_marks" sReadMarks := ⟨f21, _, fun_mk (st := sReadMarks) l21 c21 k21, PySem.W.mg_of X G a21⟩
  have A22 : FnAt K mg "_read_stretch" sReadStretch := ⟨f22, _, fun_mk (st := sReadStretch) l22 c22 k22, PySem.W.mg_of X G a22⟩
  have A23 : FnAt K mg "_read_equals" sReadEquals := ⟨f23, _, fun_mk (st := sReadEquals) l23 c23 k23, PySem.W.mg_of X G a23⟩
  have A24 : FnAt K mg "_blanks_end" sBlanksEnd := ⟨f24, _, fun_mk (st := sBlanksEnd) l24 c24 k24, PySem.W.mg_of X G a24⟩
  have A25 : FnAt K mg "_figure_at" sFigureAt := ⟨f25, _, fun_mk (st := sFigureAt) l25 c25 k25, PySem.W.mg_of X G a25⟩
  have A26 : FnAt K mg "_law_cell_at" sCellAt := ⟨f26, _, fun_mk (st := sCellAt) l26 c26 k26, PySem.W.mg_of X G a26⟩
  have A27 : FnAt K mg "_law_mixed" sMixed := ⟨f27, _, fun_mk (st := sMixed) l27 c27 k27, PySem.W.mg_of X G a27⟩
  have A28 : FnAt K mg "_law_source" sSource := ⟨f28, _, fun_mk (st := sSource) l28 c28 k28, PySem.W.mg_of X G a28⟩
  have A29 : FnAt K mg "_law_next" sNext := ⟨f29, _, fun_mk (st := sNext) l29 c29 k29, PySem.W.mg_of X G a29⟩
  have A30 : FnAt K mg "_law_row" sLawRow := ⟨f30, _, fun_mk (st := sLawRow) l30 c30 k30, PySem.W.mg_of X G a30⟩
  have A31 : FnAt K mg "_law_text" sLawText := ⟨f31, _, fun_mk (st := sLawText) l31 c31 k31, PySem.W.mg_of X G a31⟩
  have A32 : FnAt K mg "_law_units" sLawUnits := ⟨f32, _, fun_mk (st := sLawUnits) l32 c32 k32, PySem.W.mg_of X G a32⟩
  have A33 : FnAt K mg "_law_marks" sLawMarks := ⟨f33, _, fun_mk (st := sLawMarks) l33 c33 k33, PySem.W.mg_of X G a33⟩
  have A34 : FnAt K mg "_law_touched" sLawTouched := ⟨f34, _, fun_mk (st := sLawTouched) l34 c34 k34, PySem.W.mg_of X G a34⟩
  have A35 : FnAt K mg "_law_loose" sLawLoose := ⟨f35, _, fun_mk (st := sLawLoose) l35 c35 k35, PySem.W.mg_of X G a35⟩
  have A36 : FnAt K mg "_law_numbers" sLawNumbers := ⟨f36, _, fun_mk (st := sLawNumbers) l36 c36 k36, PySem.W.mg_of X G a36⟩
  have A37 : FnAt K mg "_law_line" sLawLine := ⟨f37, _, fun_mk (st := sLawLine) l37 c37 k37, PySem.W.mg_of X G a37⟩
  have A38 : FnAt K mg "_law_due" sDue := ⟨f38, _, fun_mk (st := sDue) l38 c38 k38, PySem.W.mg_of X G a38⟩
  have A39 : FnAt K mg "_law_said" sLawSaid := ⟨f39, _, fun_mk (st := sLawSaid) l39 c39 k39, PySem.W.mg_of X G a39⟩
  have F40 := fun_mk (st := sLaw) l40 c40 k40
  have m_WRITERS := PySem.W.mg_of X G g_WRITERS
  have D_WRITERS : KDict K w a_WRITERS es_WRITERS n_WRITERS := ⟨l_WRITERS, kly_WRITERS, lox_WRITERS⟩
  have m_READERS := PySem.W.mg_of X G g_READERS
  have D_READERS : KDict K w a_READERS es_READERS n_READERS := ⟨l_READERS, kly_READERS, lox_READERS⟩
  have m_isinstance : mg "isinstance" = none := PySem.W.mg_none_of X G z1
  have m_int : mg "int" = none := PySem.W.mg_none_of X G z2
  have m_bool : mg "bool" = none := PySem.W.mg_none_of X G z3
  have m_str : mg "str" = none := PySem.W.mg_none_of X G z4
  have m_list : mg "list" = none := PySem.W.mg_none_of X G z5
  have m_all : mg "all" = none := PySem.W.mg_none_of X G z6
  have m_ord : mg "ord" = none := PySem.W.mg_none_of X G z7
  have m_len : mg "len" = none := PySem.W.mg_none_of X G z8
  have m_range : mg "range" = none := PySem.W.mg_none_of X G z9
  have m_max : mg "max" = none := PySem.W.mg_none_of X G z10
  have m_min : mg "min" = none := PySem.W.mg_none_of X G z11
  have m_enumerate : mg "enumerate" = none := PySem.W.mg_none_of X G z12
  have m_zip : mg "zip" = none := PySem.W.mg_none_of X G z13
  have m_PERCENT := PySem.W.mg_of X G v1
  have m_BLANK := PySem.W.mg_of X G v2
  have m_LINE_FEED := PySem.W.mg_of X G v3
  have m_EQUALS := PySem.W.mg_of X G v4
  have m_WIDTH := PySem.W.mg_of X G v5
  have m_SIGNS := PySem.W.mg_of X G v6
  have m_SIXES := PySem.W.mg_of X G v7
  have m_SIXTEEN := PySem.W.mg_of X G v8
  refine ⟨PySem.W.fnOf "law" "law" (defArgs sLaw) (defBody sLaw) (defScope sLaw) .none kV40 dc40 pm40 an40 cd40 ct40, fun s v => .of_eq rfl, fun base _ _ => ?_⟩
  have MC := mk_NC (P := l.prog) (w := w) (base := base) FC FL TLc m_LetterError m_ValueError vV OC noC m_NoCode iC tiC
  have MCN : MkN l.prog w K mg base "NoOctets" CN := ⟨OCN, m_NoOctets, fL, _, iCN, tifL, ok_LE FL m_ValueError vV, bind_LE FL⟩
  have R5 := x_check_code MC A10 D_WRITERS m_WRITERS m_isinstance m_str
  have R6 := r_is_sign (P := l.prog) (w := w) (base := base) A5 m_ord m_PERCENT
  have R7 := r_is_text A1 R6 m_isinstance m_str m_all
  have S1 := r_four_of (P := l.prog) (w := w) (base := base) A15 m_len m_SIXES
  have S2 := r_sixes_of A8 S1 m_len m_range
  have S3 := r_write_sixes A14 S2 m_len m_range m_WIDTH
  obtain ⟨fW6, fdW6, gW6, kW6, bW6, GW6⟩ := S3
  have eW6 := gW6.symm.trans (PySem.W.mg_of X G a14)
  cases eW6
  have S4 := r_may_fill (P := l.prog) (w := w) (base := base) A17 m_len
  have S5 := r_octets_of_four (P := l.prog) (w := w) (base := base) A18 m_len m_max
  have S6 := x_read_sixes MC A16 S4 S5 m_enumerate m_len m_SIXES
  obtain ⟨fR6, fdR6, gR6, kR6, bR6, GR6⟩ := S6
  have eR6 := gR6.symm.trans (PySem.W.mg_of X G a16)
  cases eR6
  have S8 := x_read_by (rd := read6) MC A7 R7 R5 m_READERS m_len D_READERS s_WRITERS_sixes s_READERS_sixes GR6 (by decide) kR6 bR6
  have Q1 := r_is_numbered (P := l.prog) (w := w) (base := base) A2 m_len m_SIGNS m_BLANK m_PERCENT
  have Q2 := r_by_sixteen (P := l.prog) (w := w) (base := base) A9
  have Q3 := r_sign_of (P := l.prog) (w := w) (base := base) A6 m_SIGNS m_BLANK m_LINE_FEED
  have Q4 := r_text_of A3 Q3
  have Q5 := r_unit_at A20 Q1 Q2 Q4 m_len m_BLANK m_EQUALS m_LINE_FEED
  have Q6 := r_write_marks A19 Q5 m_enumerate m_len m_WIDTH m_LINE_FEED
  obtain ⟨fWM, fdWM, gWM, kWM, bWM, GWM⟩ := Q6
  have eWM := gWM.symm.trans (PySem.W.mg_of X G a19)
  cases eWM
  have Q7 := r_blanks_end (P := l.prog) (w := w) (base := base) A24 m_len
  have Q8 := x_figure_at MC A25 m_SIXTEEN
  have Q9 := r_read_stretch A22 Q7 m_ord m_BLANK
  have Q10 := x_read_equals MC A23 Q7 Q8
  have Q11 := x_read_marks A21 Q10 Q9 m_len
  obtain ⟨fRM, fdRM, gRM, kRM, bRM, GRM⟩ := Q11
  have eRM := gRM.symm.trans (PySem.W.mg_of X G a21)
  cases eRM
  have Q13 := x_read_by (rd := readMk) MC A7 R7 R5 m_READERS m_len D_READERS s_WRITERS_marks s_READERS_marks GRM (by decide) kRM bRM
  have T1 := r_is_numbered (P := l.prog) (w := w) (base := base) A2 m_len m_SIGNS m_BLANK m_PERCENT
  have P1 := r_is_plain A11 T1 m_WIDTH m_LINE_FEED
  have T3 := r_sign_of (P := l.prog) (w := w) (base := base) A6 m_SIGNS m_BLANK m_LINE_FEED
  have T4 := r_text_of A3 T3
  have P2 := x_write_plain MC A12 P1 T4
  obtain ⟨fWP, fdWP, gWP, kWP, bWP, GWP⟩ := P2
  have eWP := gWP.symm.trans (PySem.W.mg_of X G a12)
  cases eWP
  have P4 := r_numbers_of (P := l.prog) (w := w) (base := base) A4 m_ord
  have P5 := r_read_plain A13 P4
  obtain ⟨fRP, fdRP, gRP, kRP, bRP, GRP⟩ := P5
  have eRP := gRP.symm.trans (PySem.W.mg_of X G a13)
  cases eRP
  have P6 := x_read_by0 MC A7 R7 R5 m_READERS m_len D_READERS s_WRITERS_plain s_READERS_plain GRP (by decide) kRP bRP
  have V2 := x_read3 A7 (fun f fd F => ok_read3 (ok_read_by0 MC F R7 R5 m_READERS m_len D_READERS s_WRITERS_plain s_READERS_plain GRP (by decide) kRP bRP) (ok_read_by (rd := read6) MC F R7 R5 m_READERS m_len D_READERS s_WRITERS_sixes s_READERS_sixes GR6 (by decide) kR6 bR6) (ok_read_by (rd := readMk) MC F R7 R5 m_READERS m_len D_READERS s_WRITERS_marks s_READERS_marks GRM (by decide) kRM bRM))
  have W1 := r_cell_at (P := l.prog) (w := w) (base := base) A26 m_len
  have W2 := r_mixed (P := l.prog) (w := w) (base := base) A27
  have W3 := r_source A28 W1 W2 m_len
  have W4 := next_m (r_next A29 W2)
  have L1 := r_law_row A30 W4 m_len m_range
  have L2 := r_law_text (P := l.prog) (w := w) (base := base) A31 m_int
  have L3 := r_law_units A32 L2 m_zip
  have L4 := r_law_marks A33 L3 m_int m_len
  have L5 := r_touched A34 W4 m_len
  have L6 := r_looseM A35 W4 m_len m_range m_int
  have L7 := r_nums (P := l.prog) (w := w) (base := base) A36 m_int
  have L8 := r_line A37 L7 m_len
  have L9 := r_dueM A38 L8 m_len m_enumerate
  have teS : PySem.W.exmOne K (.ref C) (.ref C) = some true := PySem.W.exm_ref exC hdC tyC suSelf
  have TC : CaughtD K _ C CN := ⟨m_NoCode, m_NoOctets, teS, ECC, XFC, noC, kitN, kit_ve suVE⟩
  have L10 := r_saidR TC A39 V2 m_isinstance m_int m_ValueError
  exact ok_law F40 W3 L6 L4 L1 L9 L10 L5 m_len m_range m_max m_min m_list m_isinstance
end FL
open PySem PySem.W PyProof.Rows
set_option maxRecDepth 100000 in
set_option maxHeartbeats 8000000 in
theorem PySem.Challenge.cw_foldletter_k43_texts_by_marks_read_holds : PySem.Challenge.rw_foldletter_k43_texts_by_marks_read.Holds := by
  w_on; o_law; k_head; (case hw => w_witness2)
  k_fill
  refine L2.walk_of (l := PySem.Challenge.rw_foldletter_k43_texts_by_marks_read) (n := 63) (k := 9) (x := "_law_script") (CX := fun _ => L2.CX0) (sp := fun w => FL.spLaw _) rfl (by decide) rfl ⟨rfl, by decide, by decide⟩ (fun w h Y => PySem.W.kIn_of Y) ?F (fun _ _ a ns hl _ hS => ⟨a, ns, rfl, hS, hl, fun _ => rfl⟩) (fun _ _ _ _ _ h => h)
  case F =>
    intro w mg fa h KX G hmg
    refine' FL.all_mk KX G hmg ?gL ?iL ?lL ?cL ?kL ?dL ?gaL ?rdL ?atL ?vV ?zVE ?exL ?hdL ?tyL ?tifL ?gC ?xC ?rvC ?saC ?exC ?tyC ?kcC ?noC ?iC ?tiC ?lC ?cC ?kC ?dC ?hgC ?hkC ?hdC ?haC ?hmC ?suC ?gCN ?xCN ?rvCN ?saCN ?exCN ?tyCN ?kcCN ?iCN ?hgCN ?hkCN ?hdCN ?haCN ?hmCN ?suCN ?hn0 ?ht0 ?suSelf ?suVE ?g_WRITERS ?l_WRITERS ?kly_WRITERS ?lox_WRITERS ?s_WRITERS_plain ?s_WRITERS_sixes ?s_WRITERS_marks ?g_READERS ?l_READERS ?kly_READERS ?lox_READERS ?s_READERS_plain ?s_READERS_sixes ?s_READERS_marks ?kitNt ?kitNd ?kitNs ?kitNn ?a1 ?l1 ?c1 ?k1 ?a2 ?l2 ?c2 ?k2 ?a3 ?l3 ?c3 ?k3 ?a4 ?l4 ?c4 ?k4 ?a5 ?l5 ?c5 ?k5 ?a6 ?l6 ?c6 ?k6 ?a7 ?l7 ?c7 ?k7 ?a8 ?l8 ?c8 ?k8 ?a9 ?l9 ?c9 ?k9 ?a10 ?l10 ?c10 ?k10 ?a11 ?l11 ?c11 ?k11 ?a12 ?l12 ?c12 ?k12 ?a13 ?l13 ?c13 ?k13 ?a14 ?l14 ?c14 ?k14 ?a15 ?l15 ?c15 ?k15 ?a16 ?l16 ?c16 ?k16 ?a17 ?l17 ?c17 ?k17 ?a18 ?l18 ?c18 ?k18 ?a19 ?l19 ?c19 ?k19 ?a20 ?l20 ?c20 ?k20 ?a21 ?l21 ?c21 ?k21 ?a22 ?l22 ?c22 ?k22 ?a23 ?l23 ?c23 ?k23 ?a24 ?l24 ?c24 ?k24 ?a25 ?l25 ?c25 ?k25 ?a26 ?l26 ?c26 ?k26 ?a27 ?l27 ?c27 ?k27 ?a28 ?l28 ?c28 ?k28 ?a29 ?l29 ?c29 ?k29 ?a30 ?l30 ?c30 ?k30 ?a31 ?l31 ?c31 ?k31 ?a32 ?l32 ?c32 ?k32 ?a33 ?l33 ?c33 ?k33 ?a34 ?l34 ?c34 ?k34 ?a35 ?l35 ?c35 ?k35 ?a36 ?l36 ?c36 ?k36 ?a37 ?l37 ?c37 ?k37 ?a38 ?l38 ?c38 ?k38 ?a39 ?l39 ?c39 ?k39 ?a40 ?l40 ?c40 ?k40 ?z1 ?z2 ?z3 ?z4 ?z5 ?z6 ?z7 ?z8 ?z9 ?z10 ?z11 ?z12 ?z13 ?v1 ?v2 ?v3 ?v4 ?v5 ?v6 ?v7 ?v8
    (case gL => k_is); (case iL => k_is); (case lL => k_is); (case cL => k_is); (case kL => k_is); (case dL => k_is); (case gaL => k_is); (case rdL => k_is); (case atL => k_is); (case vV => k_is); (case zVE => k_is); (case exL => k_is); (case hdL => k_is); (case tyL => k_is); (case tifL => k_is); (case gC => k_is); (case xC => k_is); (case rvC => first | rfl | k_is); (case saC => k_is); (case exC => k_is); (case tyC => k_is); (case kcC => k_is); (case noC => k_is); (case iC => k_is); (case tiC => k_is); (case lC => k_is); (case cC => k_is); (case kC => k_is); (case dC => k_is); (case hgC => k_is); (case hkC => k_is); (case hdC => k_is); (case haC => k_is); (case hmC => k_is); (case suC => k_is); (case gCN => k_is); (case xCN => k_is); (case rvCN => first | rfl | k_is); (case saCN => k_is); (case exCN => k_is); (case tyCN => k_is); (case kcCN => k_is); (case iCN => k_is); (case hgCN => k_is); (case hkCN => k_is); (case hdCN => k_is); (case haCN => k_is); (case hmCN => k_is); (case suCN => k_is); (case hn0 => k_is); (case ht0 => k_is); (case suSelf => k_is); (case suVE => k_is); (case g_WRITERS => k_is); (case l_WRITERS => k_is); (case kly_WRITERS => k_keys); (case lox_WRITERS => first | rfl | decide); (case s_WRITERS_plain => k_is); (case s_WRITERS_sixes => k_is); (case s_WRITERS_marks => k_is); (case g_READERS => k_is); (case l_READERS => k_is); (case kly_READERS => k_keys); (case lox_READERS => first | rfl | decide); (case s_READERS_plain => k_is); (case s_READERS_sixes => k_is); (case s_READERS_marks => k_is); (case kitNt => k_is); (case kitNd => k_is); (case kitNs => k_is); (case kitNn => first | rfl | k_is); (case a1 => k_is); (case l1 => k_is); (case c1 => k_is); (case k1 => k_is); (case a2 => k_is); (case l2 => k_is); (case c2 => k_is); (case k2 => k_is); (case a3 => k_is); (case l3 => k_is); (case c3 => k_is); (case k3 => k_is); (case a4 => k_is); (case l4 => k_is); (case c4 => k_is); (case k4 => k_is); (case a5 => k_is); (case l5 => k_is); (case c5 => k_is); (case k5 => k_is); (case a6 => k_is); (case l6 => k_is); (case c6 => k_is); (case k6 => k_is); (case a7 => k_is); (case l7 => k_is); (case c7 => k_is); (case k7 => k_is); (case a8 => k_is); (case l8 => k_is); (case c8 => k_is); (case k8 => k_is); (case a9 => k_is); (case l9 => k_is); (case c9 => k_is); (case k9 => k_is); (case a10 => k_is); (case l10 => k_is); (case c10 => k_is); (case k10 => k_is); (case a11 => k_is); (case l11 => k_is); (case c11 => k_is); (case k11 => k_is); (case a12 => k_is); (case l12 => k_is); (case c12 => k_is); (case k12 => k_is); (case a13 => k_is); (case l13 => k_is); (case c13 => k_is); (case k13 => k_is); (case a14 => k_is); (case l14 => k_is); (case c14 => k_is); (case k14 => k_is); (case a15 => k_is); (case l15 => k_is); (case c15 => k_is); (case k15 => k_is); (case a16 => k_is); (case l16 => k_is); (case c16 => k_is); (case k16 => k_is); (case a17 => k_is); (case l17 => k_is); (case c17 => k_is); (case k17 => k_is); (case a18 => k_is); (case l18 => k_is); (case c18 => k_is); (case k18 => k_is); (case a19 => k_is); (case l19 => k_is); (case c19 => k_is); (case k19 => k_is); (case a20 => k_is); (case l20 => k_is); (case c20 => k_is); (case k20 => k_is); (case a21 => k_is); (case l21 => k_is); (case c21 => k_is); (case k21 => k_is); (case a22 => k_is); (case l22 => k_is); (case c22 => k_is); (case k22 => k_is); (case a23 => k_is); (case l23 => k_is); (case c23 => k_is); (case k23 => k_is); (case a24 => k_is); (case l24 => k_is); (case c24 => k_is); (case k24 => k_is); (case a25 => k_is); (case l25 => k_is); (case c25 => k_is); (case k25 => k_is); (case a26 => k_is); (case l26 => k_is); (case c26 => k_is); (case k26 => k_is); (case a27 => k_is); (case l27 => k_is); (case c27 => k_is); (case k27 => k_is); (case a28 => k_is); (case l28 => k_is); (case c28 => k_is); (case k28 => k_is); (case a29 => k_is); (case l29 => k_is); (case c29 => k_is); (case k29 => k_is); (case a30 => k_is); (case l30 => k_is); (case c30 => k_is); (case k30 => k_is); (case a31 => k_is); (case l31 => k_is); (case c31 => k_is); (case k31 => k_is); (case a32 => k_is); (case l32 => k_is); (case c32 => k_is); (case k32 => k_is); (case a33 => k_is); (case l33 => k_is); (case c33 => k_is); (case k33 => k_is); (case a34 => k_is); (case l34 => k_is); (case c34 => k_is); (case k34 => k_is); (case a35 => k_is); (case l35 => k_is); (case c35 => k_is); (case k35 => k_is); (case a36 => k_is); (case l36 => k_is); (case c36 => k_is); (case k36 => k_is); (case a37 => k_is); (case l37 => k_is); (case c37 => k_is); (case k37 => k_is); (case a38 => k_is); (case l38 => k_is); (case c38 => k_is); (case k38 => k_is); (case a39 => k_is); (case l39 => k_is); (case c39 => k_is); (case k39 => k_is); (case a40 => k_is); (case l40 => k_is); (case c40 => k_is); (case k40 => k_is); (case z1 => k_is); (case z2 => k_is); (case z3 => k_is); (case z4 => k_is); (case z5 => k_is); (case z6 => k_is); (case z7 => k_is); (case z8 => k_is); (case z9 => k_is); (case z10 => k_is); (case z11 => k_is); (case z12 => k_is); (case z13 => k_is); (case v1 => k_is); (case v2 => k_is); (case v3 => k_is); (case v4 => k_is); (case v5 => k_is); (case v6 => k_is); (case v7 => k_is); (case v8 => k_is)
