import PyProof.Rows.All
import Wide.All
import OpenK.AllK
import Wide.FinOn
import PySem.Challenge.RW_foldletter_k14_values_decoded
import HandS.ForMost
import HandS.Walk
import HandS.IsInst
import HandS.Wide
import HandS.ReplaceDef
import HandS.ReplaceLit
import HandS.ReplaceList
import HandS.StrMore
import HandS.ExcInit
import HandS.ExcIs
import HandS.ExcField
import HandS.Defaults
import HandS.TryOnly
import HandS.WordsExc
import HandS.Rev
import HandS.Conv
import HandS.ClsMeth
import HandS.FStr
import HandS.Flow
import HandS.Style
import HandS.Strs
import PyProof.FString3
import HandS.CallLocal
import KE.GoesEnum
import HandS.More
import HandS.Text
set_option Elab.async false
set_option linter.all false
set_option maxRecDepth 100000
set_option maxHeartbeats 4000000
namespace FL
open PySem PySem.Spec PyProof.Rows L2
def topS (i : Nat) : Stmt := PySem.Challenge.pw_foldletter_k14_values_decoded.main.body.getD i (.Pass ⟨0, 0, 0, 0⟩)
abbrev cLetterError : Stmt := topS 1
abbrev cNoOctets : Stmt := topS 2
abbrev cNoText : Stmt := topS 3
abbrev cNoSaying : Stmt := topS 4
abbrev cNoCode : Stmt := topS 5
abbrev sIsText : Stmt := topS 11
abbrev sIsLine : Stmt := topS 12
abbrev sIsLetter : Stmt := topS 13
abbrev sIsFigure : Stmt := topS 14
abbrev sIsWhole : Stmt := topS 15
abbrev sIsNumbered : Stmt := topS 16
abbrev sTextOf : Stmt := topS 17
abbrev sNumbersOf : Stmt := topS 18
abbrev sIsSign : Stmt := topS 19
abbrev sSignOf : Stmt := topS 21
abbrev sReadBy : Stmt := topS 27
abbrev sIsOctets : Stmt := topS 28
abbrev sSixesOf : Stmt := topS 29
abbrev sBySixteen : Stmt := topS 30
abbrev sCheckCode : Stmt := topS 31
abbrev sIsOctet : Stmt := topS 32
abbrev sIsPlain : Stmt := topS 33
abbrev sWritePlain : Stmt := topS 34
abbrev sReadPlain : Stmt := topS 35
abbrev sWriteSixes : Stmt := topS 36
abbrev sFourOf : Stmt := topS 37
abbrev sReadSixes : Stmt := topS 38
abbrev sMayFill : Stmt := topS 39
abbrev sOctetsOfFour : Stmt := topS 40
abbrev sWriteMarks : Stmt := topS 41
abbrev sUnitAt : Stmt := topS 42
abbrev sReadMarks : Stmt := topS 43
abbrev sReadStretch : Stmt := topS 44
abbrev sReadEquals : Stmt := topS 45
abbrev sBlanksEnd : Stmt := topS 46
abbrev sFigureAt : Stmt := topS 47
abbrev sSayingOf : Stmt := topS 52
abbrev sDecoded : Stmt := topS 53
abbrev sSayingOfWord : Stmt := topS 54
abbrev sIsSaySign : Stmt := topS 55
abbrev sOctetsOfSign : Stmt := topS 57
abbrev sSizeFrom : Stmt := topS 58
abbrev sSignOfOctets : Stmt := topS 59
abbrev sMarksOf : Stmt := topS 60
abbrev sMarkOf : Stmt := topS 61
abbrev sOctetsOfWord : Stmt := topS 62
abbrev sOctetsTold : Stmt := topS 63
abbrev sStretches : Stmt := topS 64
abbrev sIsBetweenTold : Stmt := topS 65
abbrev sCellAt : Stmt := topS 67
abbrev sMixed : Stmt := topS 68
abbrev sSource : Stmt := topS 69
abbrev sNext : Stmt := topS 70
abbrev sLawSaying : Stmt := topS 71
abbrev sLawOctetsOf : Stmt := topS 72
abbrev sLawSign : Stmt := topS 73
abbrev sLawSignsOf : Stmt := topS 74
abbrev sLawSixes : Stmt := topS 75
abbrev sLawText : Stmt := topS 76
abbrev sLawWord : Stmt := topS 77
abbrev sLawSixOctets : Stmt := topS 78
abbrev sLawMarkOctets : Stmt := topS 79
abbrev sLawTold : Stmt := topS 80
abbrev sLawNumbers : Stmt := topS 81
abbrev sLawDecoded : Stmt := topS 82
abbrev sLawTouched : Stmt := topS 83
abbrev sLawPiece : Stmt := topS 84
abbrev sLaw : Stmt := topS 85
end FL

namespace FL
open PySem PySem.Spec PyProof.Rows L2
/-! ### small words -/
theorem pe_weak {X : Cx} {e : Expr} {t t' : TE} (h : PE X e t) (m : ∀ σ H Q, t' σ H Q → t σ H Q) : PE X e t' := ⟨fun pins s σ H Q I q => h.run pins s σ H Q I (m σ H Q q)⟩
theorem lt_one {a b : Nat} : ((([a] : List Nat) < [b])) ↔ a < b := by
  rw [List.cons_lt_cons_iff]
  simp
theorem bl_to {Q : V → Hp → Prop} {H : Hp} {a b : Bool} (e : a = b) (q : Q (.bl b) H) : Q (.bl a) H := by
  rw [e]
  exact q
def tBtw (i lo hi : Nat) : TE := fun σ H Q => ∃ c : Nat, σ[i]? = some (some (.str ⟨#[c]⟩)) ∧ Q (.bl (decide (lo ≤ c ∧ c ≤ hi))) H
theorem pe_btw {X : Cx} (i : Nat) {x a b : Str} {lo hi k1 k2 : Nat} {p1 p2 p3 pos : Pos} (ea : a.cps.toList = [lo]) (eb : b.cps.toList = [hi]) (hx : PE X (.Name x p2) (tVar i))
    (hm : lastMarks [.LtE, .LtE] [.Name x p2, .Constant (.str b) k2 p3] = false := by with_unfolding_all rfl) :
    PE X (.Compare (.Constant (.str a) k1 p1) [.LtE, .LtE] [.Name x p2, .Constant (.str b) k2 p3] pos) (tBtw i lo hi) := by
  refine pe_weak (pe_chain op_le_str op_le_str pe_str hx pe_str hm) ?_
  rintro σ H Q ⟨c, hc, q⟩
  refine ⟨_, hc, _, _, rfl, rfl, _, rfl, ?_⟩
  have e1 : (!decide (((⟨#[c]⟩ : Str).cps.toList) < a.cps.toList)) = decide (lo ≤ c) := by
    rw [ea]
    show (!decide (([c] : List Nat) < [lo])) = decide (lo ≤ c)
    rw [decide_eq_decide.mpr (lt_one (a := c) (b := lo))]
    by_cases h : lo ≤ c
    · rw [decide_eq_true h, decide_eq_false (by omega)]; rfl
    · rw [decide_eq_false h, decide_eq_true (by omega)]; rfl
  have e2 : (!decide (b.cps.toList < ((⟨#[c]⟩ : Str).cps.toList))) = decide (c ≤ hi) := by
    rw [eb]
    show (!decide (([hi] : List Nat) < [c])) = decide (c ≤ hi)
    rw [decide_eq_decide.mpr (lt_one (a := hi) (b := c))]
    by_cases h : c ≤ hi
    · rw [decide_eq_true h, decide_eq_false (by omega)]; rfl
    · rw [decide_eq_false h, decide_eq_true (by omega)]; rfl
  rw [e1]
  by_cases h1 : lo ≤ c
  · rw [decide_eq_true h1, if_pos rfl]
    refine ⟨_, _, rfl, rfl, bl_to e2 (bl_to ?_ q)⟩
    by_cases h2 : c ≤ hi
    · rw [decide_eq_true h2, decide_eq_true ⟨h1, h2⟩]
    · rw [decide_eq_false h2, decide_eq_false (fun z => h2 z.2)]
  · rw [decide_eq_false h1, if_neg Bool.false_ne_true]
    exact bl_to (decide_eq_false (fun z => h1 z.1)).symm q
/-- x or y of two truths -/
theorem pe_orB {X : Cx} {a b : Expr} {rest : List Expr} {pos : Pos} {ta tb : TE} (ha : PE X a ta) (hb : PE X (.BoolOp .Or (b :: rest) pos) tb) :
    PE X (.BoolOp .Or (a :: b :: rest) pos) (tOrV ta tb) := pe_or ha hb
/-! ### what stands where -/
structure FnAt (K : PySem.W.Frag) (mg : Str → Option Value) (x : Str) (st : Stmt) : Prop where
  ex : ∃ f fd, Fun K x x st f fd ∧ mg x = some (.ref f)
def Ready (P : Program) (w : World) (K : PySem.W.Frag) (mg : Str → Option Value) (base : Heap) (k : Nat) (x : Str) (ps : List Str) (sp : Sp) : Prop :=
  ∃ f fd, mg x = some (.ref f) ∧ PySem.W.keepIn K (.ref f) = true ∧ Binds K fd ps [] ∧ FnOk P w K mg base CX0 k f fd ps sp
section
variable {P : Program} {w : World} {K : PySem.W.Frag} {mg : Str → Option Value} {base : Heap}
theorem ready_of {x : Str} {st : Stmt} {k : Nat} {ps : List Str} {sp : Sp} (A : FnAt K mg x st)
    (hb : ∀ (kV doc pm : Value) (an : Option Addr) (cdv ct : Value) (us : List Value), us.length = ps.length → bindArgs (PySem.W.fnOf x x (defArgs st) (defBody st) (defScope st) .none kV doc pm an cdv ct) ⟨us, []⟩ = pure (ps.zip us))
    (ok : ∀ f fd, Fun K x x st f fd → FnOk P w K mg base CX0 k f fd ps sp) : Ready P w K mg base k x ps sp := by
  obtain ⟨f, fd, F, g⟩ := A.ex
  exact ⟨f, fd, g, F.kp, F.binds hb, ok f fd F⟩
/-! ### the mathematics of signs -/
def isLet (c : Nat) : Bool := decide (97 ≤ c ∧ c ≤ 122) || decide (65 ≤ c ∧ c ≤ 90)
def isFig (c : Nat) : Bool := decide (48 ≤ c ∧ c ≤ 57)
def isSig (c : Nat) : Bool := decide (c = 10) || (decide (32 ≤ c ∧ c ≤ 126) && !decide (c = 37))
def atomSigns : List Nat := [33, 35, 36, 38, 39, 42, 43, 45, 46, 47, 61, 63, 94, 95, 96, 123, 124, 125, 126]
def isAtm (c : Nat) : Bool := isLet c || (isFig c || decide (c ∈ atomSigns))
def spSign (f : Nat → Bool) : Sp := fun vs H Q _ => ∃ c : Nat, vs = [.str ⟨#[c]⟩] ∧ Q (.bl (f c)) H
theorem scIsLetter : FnScope ["sign"] ["sign"] (defScope sIsLetter) := ⟨rfl, rfl, rfl, by decide +kernel, rfl, by decide +kernel, by decide +kernel⟩
theorem r_is_letter (A : FnAt K mg "is_letter" sIsLetter) : Ready P w K mg base 1 "is_letter" ["sign"] (spSign isLet) := by
  refine ready_of A (fun _ _ _ _ _ _ us hl => match us, hl with | [_], _ => rfl) fun f fd F => ?_
  refine F.ok scIsLetter (fun vs H Q E h => ?_) (fun cdv A outer s H vs Q E hr h => ?_)
  · obtain ⟨c, rfl, _⟩ := h
    rfl
  · obtain ⟨c, rfl, q⟩ := h
    refine ⟨_, pss_one (ps_ret (pe_or (pe_btw (lo := 97) (hi := 122) 0 rfl rfl (pv 0)) (pe_one (pe_btw (lo := 65) (hi := 90) 0 rfl rfl (pv 0))))), ?_⟩
    refine ⟨c, rfl, _, rfl, ?_⟩
    by_cases h1 : 97 ≤ c ∧ c ≤ 122
    · rw [decide_eq_true h1, if_pos rfl]
      exact bl_to (by unfold isLet; rw [decide_eq_true h1]; rfl) q
    · rw [decide_eq_false h1, if_neg Bool.false_ne_true]
      exact ⟨c, rfl, bl_to (by unfold isLet; rw [decide_eq_false h1]; rfl) q⟩
theorem scIsFigure : FnScope ["sign"] ["sign"] (defScope sIsFigure) := ⟨rfl, rfl, rfl, by decide +kernel, rfl, by decide +kernel, by decide +kernel⟩
theorem r_is_figure (A : FnAt K mg "is_figure" sIsFigure) : Ready P w K mg base 1 "is_figure" ["sign"] (spSign isFig) := by
  refine ready_of A (fun _ _ _ _ _ _ us hl => match us, hl with | [_], _ => rfl) fun f fd F => ?_
  refine F.ok scIsFigure (fun vs H Q E h => ?_) (fun cdv A outer s H vs Q E hr h => ?_)
  · obtain ⟨c, rfl, _⟩ := h
    rfl
  · obtain ⟨c, rfl, q⟩ := h
    exact ⟨_, pss_one (ps_ret (pe_btw (lo := 48) (hi := 57) 0 rfl rfl (pv 0))), c, rfl, q⟩
theorem str_one {c d : Nat} : (V.str ⟨#[c]⟩ = V.str ⟨#[d]⟩) ↔ c = d := by
  constructor
  · intro h
    injection h with h
    injection h with h
    have h2 := congrArg Array.toList h
    simpa using h2
  · intro h
    rw [h]
/-- a def by another global name -/
structure FnAs (K : PySem.W.Frag) (mg : Str → Option Value) (x y : Str) (st : Stmt) : Prop where
  ex : ∃ f fd, Fun K y y st f fd ∧ mg x = some (.ref f)
theorem FnAt.as {x : Str} {st : Stmt} (A : FnAt K mg x st) : FnAs K mg x x st := ⟨A.ex⟩
theorem ready_as {x y : Str} {st : Stmt} {k : Nat} {ps : List Str} {sp : Sp} (A : FnAs K mg x y st)
    (hb : ∀ (kV doc pm : Value) (an : Option Addr) (cdv ct : Value) (us : List Value), us.length = ps.length → bindArgs (PySem.W.fnOf y y (defArgs st) (defBody st) (defScope st) .none kV doc pm an cdv ct) ⟨us, []⟩ = pure (ps.zip us))
    (ok : ∀ f fd, Fun K y y st f fd → FnOk P w K mg base CX0 k f fd ps sp) : Ready P w K mg base k x ps sp := by
  obtain ⟨f, fd, F, g⟩ := A.ex
  exact ⟨f, fd, g, F.kp, F.binds hb, ok f fd F⟩
theorem scIsSign : FnScope ["sign"] ["sign"] (defScope sIsSign) := ⟨rfl, rfl, rfl, by decide +kernel, rfl, by decide +kernel, by decide +kernel⟩
theorem r_is_sign {y : Str} (A : FnAs K mg y "_is_sign" sIsSign) (mo : mg "ord" = none) {tp : Tok} (mp : mg "PERCENT" = some (.int 37 tp)) : Ready P w K mg base 1 y ["sign"] (spSign isSig) := by
  refine ready_as A (fun _ _ _ _ _ _ us hl => match us, hl with | [_], _ => rfl) fun f fd F => ?_
  refine F.ok scIsSign (fun vs H Q E h => ?_) (fun cdv A outer s H vs Q E hr h => ?_)
  · obtain ⟨c, rfl, _⟩ := h
    rfl
  · obtain ⟨c, rfl, q⟩ := h
    refine ⟨_, pss_one (ps_ret (pe_or (pe_cmpR op_eq (pv 0) pe_str (nomark _)) (pe_one (pe_and (pe_btw (lo := 32) (hi := 126) 0 rfl rfl (pv 0))
      (pe_one (pe_cmpR op_ne (pe_callB call_ord (by rfl) mo (by decide +kernel) (pa_cons (pv 0) pa_nil)) (pe_glob (v := .int 37) rfl mp ⟨tp, rfl⟩) (nomark _))))))), ?_⟩
    refine ⟨_, rfl, rfl, _, rfl, ?_⟩
    have e1 : decide (V.str ⟨#[c]⟩ = V.str ("\n" : Str)) = decide (c = 10) := decide_eq_decide.mpr (str_one (d := 10))
    rw [e1]
    by_cases h1 : c = 10
    · rw [decide_eq_true h1, if_pos rfl]
      exact bl_to (by unfold isSig; rw [decide_eq_true h1]; rfl) q
    · rw [decide_eq_false h1, if_neg Bool.false_ne_true]
      refine ⟨c, rfl, _, rfl, ?_⟩
      by_cases h2 : 32 ≤ c ∧ c ≤ 126
      · rw [decide_eq_true h2, if_pos rfl]
        refine ⟨_, rfl, _, rfl, rfl, rfl, bl_to ?_ q⟩
        unfold isSig
        rw [decide_eq_false h1, decide_eq_true h2, Bool.false_or, Bool.true_and]
        show (!decide (V.int ((c : Nat) : Int) = V.int 37)) = !decide (c = 37)
        congr 1
        refine decide_eq_decide.mpr ⟨fun h => ?_, fun h => by rw [h]; rfl⟩
        injection h with h
        omega
      · rw [decide_eq_false h2, if_neg Bool.false_ne_true]
        exact bl_to (by unfold isSig; rw [decide_eq_false h1, decide_eq_false h2]; rfl) q
end
end FL

namespace FL
open PySem PySem.Spec PyProof.Rows L2
section
variable {P : Program} {w : World} {K : PySem.W.Frag} {mg : Str → Option Value} {base : Heap}
theorem szl {n : Nat} (h : n ≤ 10000) : n < sizeLine := Nat.lt_of_le_of_lt h (by decide)
theorem same_new {H : Hp} {p : Addr} {o : HO} (h : H p = none) : Same H (upd H p o) := fun b x e => by
  rw [upd_ne (ne_of_none e h)]
  exact e
/-- a store to what was not there at the start -/
theorem same_set {H H1 : Hp} {p : Addr} {o : HO} (s : Same H H1) (h : H p = none) : Same H (upd H1 p o) := fun b x e => by
  rw [upd_ne (ne_of_none e h)]
  exact s b x e
theorem take_more {α : Type} {l : List α} {i : Nat} {x : α} (h : l[i]? = some x) : l.take (i + 1) = l.take i ++ [x] := by
  rw [List.take_add_one, h]
  rfl
def allSig (l : List Nat) : Bool := l.all isSig
def isLn (l : List Nat) : Bool := allSig l && !decide (10 ∈ l)
/-- of a text f of its signs; of what is none, False -/
def spLine (K : PySem.W.Frag) (f : List Nat → Bool) : Sp := fun vs H Q _ => ∃ v, vs = [v] ∧
  ((∃ z : Str, v = .str z ∧ z.length ≤ 10000 ∧ ∀ H', Same H H' → Q (.bl (f z.cps.toList)) H') ∨ (∃ t, TyX K H v t ∧ PySem.W.kitOne K t (.type "str") = some false ∧ Q (.bl false) H))
theorem scIsText : FnScope ["value", "sign"] ["value"] (defScope sIsText) := ⟨rfl, rfl, rfl, by decide +kernel, rfl, by decide +kernel, by decide +kernel⟩
theorem r_is_text (A : FnAt K mg "is_text" sIsText) (RS : Ready P w K mg base 1 "is_sign_texts" ["sign"] (spSign isSig)) (mi : mg "isinstance" = none) (ms : mg "str" = none) (ma : mg "all" = none) :
    Ready P w K mg base 2 "is_text" ["value"] (spLine K allSig) := by
  obtain ⟨fS, fdS, gS, kS, bS, GS⟩ := RS
  refine ready_of A (fun _ _ _ _ _ _ us hl => match us, hl with | [_], _ => rfl) fun f fd F => ?_
  refine F.ok scIsText (fun vs H Q E h => ?_) (fun cdv A outer s H vs Q E hr h => ?_)
  · obtain ⟨v, rfl, _⟩ := h
    rfl
  · obtain ⟨v, rfl, q⟩ := h
    refine ⟨_, pss_one (ps_ret (pe_and (pe_callB call_isi (by rfl) mi (by decide +kernel) (pa_cons (pv 0) (pa_cons (pe_bltn (v := .ty "str") (by rfl) ms (by decide +kernel) rfl) pa_nil)))
      (pe_one (pe_callB (cr_all rfl) (by rfl) ma (by decide +kernel) (pa_cons (pe_lc (own := [("sign", 1)]) (g := gName 1) (tt := tYes) (by rfl) scIsText.nd (pi_str (pv 0))
        (blkOk_by (own := [("sign", 1)]) (N := ["value", "sign"]) (sc := defScope sIsText) (by decide +kernel)) (fun _ _ _ _ _ => pg_name (i := 1) scIsText.nd rfl (Or.inl rfl)) (fun _ _ _ _ _ => pts_nil)
        (fun _ _ _ _ _ => pe_call GS hr (by rfl) gS kS bS .nil pass0 (pa_cons (pv 1) pa_nil))) pa_nil))))), ?_⟩
    rcases q with ⟨z, rfl, hz, q⟩ | ⟨t, ht, hk, q⟩
    · refine ⟨_, rfl, _, _, .type "str", .type "str", true, rfl, ClsV.ty "str", .base (.str z), kit_ty (by decide +kernel), true, rfl, iteT ?_⟩
      refine ⟨_, rfl, z, rfl, fun D hD => ?_⟩
      refine lc_it walk_str (fun i H' => Same H H' ∧ H' D = some (.lst ((z.cps.toList.take i).map fun c => V.bl (isSig c)))) ⟨same_new hD, upd_same⟩ (fun _ _ _ _ => trivial) (fun i x H1 H2 hi hp hy => ?_) (fun H1 hp => ?_)
      · obtain ⟨rfl, c, hc, rfl⟩ := hy
        obtain ⟨sm, hd⟩ := hp
        have hc' : z.cps.toList[i]? = some c := by
          rw [Array.getElem?_toList]
          exact hc
        refine ⟨rfl, ?_⟩
        unfold tYes
        refine iteT ?_
        refine ⟨_, rfl, c, rfl, _, hd, ?_, same_set sm hD, ?_⟩
        · rw [List.length_map]
          exact Nat.lt_of_le_of_lt (List.length_take_le _ _) (szl (by have h2 : z.cps.size = z.length := rfl; omega))
        · rw [upd_same, take_more hc', List.map_append]
          rfl
      · obtain ⟨sm, hd⟩ := hp
        have e : z.cps.toList.take z.cps.size = z.cps.toList := List.take_of_length_le (by simp)
        rw [e] at hd
        refine ⟨D, z.cps.toList.map isSig, rfl, SqL.of (by rw [List.map_map]; exact hd), bl_to ?_ (q H1 sm)⟩
        unfold allSig
        rw [List.all_map]
        rfl
    · exact ⟨_, rfl, _, _, t, .type "str", false, rfl, ClsV.ty "str", ht, hk, false, rfl, iteF q⟩
theorem scIsLine : FnScope ["value"] ["value"] (defScope sIsLine) := ⟨rfl, rfl, rfl, by decide +kernel, rfl, by decide +kernel, by decide +kernel⟩
theorem r_is_line (A : FnAt K mg "is_line" sIsLine) (RS : Ready P w K mg base 2 "is_text" ["value"] (spLine K allSig)) :
    Ready P w K mg base 3 "is_line" ["value"] (spLine K isLn) := by
  obtain ⟨fS, fdS, gS, kS, bS, GS⟩ := RS
  refine ready_of A (fun _ _ _ _ _ _ us hl => match us, hl with | [_], _ => rfl) fun f fd F => ?_
  refine F.ok scIsLine (fun vs H Q E h => ?_) (fun cdv A outer s H vs Q E hr h => ?_)
  · obtain ⟨v, rfl, _⟩ := h
    rfl
  · obtain ⟨v, rfl, q⟩ := h
    refine ⟨_, pss_one (ps_ret (pe_and (pe_call GS hr (by rfl) gS kS bS .nil pass0 (pa_cons (pv 0) pa_nil)) (pe_one (pe_cmpR op_notIn_sign pe_str (pv 0) (by rfl))))), ?_⟩
    refine ⟨_, rfl, v, rfl, ?_⟩
    rcases q with ⟨z, rfl, hz, q⟩ | ⟨t, ht, hk, q⟩
    · refine .inl ⟨z, rfl, hz, fun H' sm => ⟨_, rfl, ?_⟩⟩
      by_cases h1 : allSig z.cps.toList = true
      · rw [h1, if_pos rfl]
        refine ⟨_, rfl, 10, z, rfl, rfl, bl_to ?_ (q H' sm)⟩
        unfold isLn
        rw [h1]
        rfl
      · rw [eq_false_of_ne_true h1, if_neg Bool.false_ne_true]
        refine bl_to ?_ (q H' sm)
        unfold isLn
        rw [eq_false_of_ne_true h1]
        rfl
    · exact .inr ⟨t, ht, hk, false, rfl, iteF q⟩
theorem len_cps (z : Str) : z.cps.toList.length = z.length := by simp [Str.length]
end
end FL

namespace FL
open PySem PySem.Spec PyProof.Rows L2
section
variable {P : Program} {w : World} {K : PySem.W.Frag} {mg : Str → Option Value} {base : Heap}
def spCellAt (K : PySem.W.Frag) : Sp := fun vs H Q _ => ∃ (a : Addr) (ns : List Int) (k : Nat), vs = [.ref a, .int (k : Nat)] ∧ SqL K H a (ns.map V.int) ∧ ∀ x : Int, Q (.int x) H
theorem scCellAt : FnScope ["_law_script", "_law_k"] ["_law_script", "_law_k"] (defScope sCellAt) := ⟨rfl, rfl, rfl, by decide +kernel, rfl, by decide +kernel, by decide +kernel⟩
theorem r_cell_at (A : FnAt K mg "_law_cell_at" sCellAt) (ml : mg "len" = none) : Ready P w K mg base 1 "_law_cell_at" ["_law_script", "_law_k"] (spCellAt K) := by
  refine ready_of A (fun _ _ _ _ _ _ us hl => match us, hl with | [_, _], _ => rfl) fun f fd F => ?_
  refine F.ok scCellAt (fun vs H Q E h => ?_) (fun cdv A outer s H vs Q E hr h => ?_)
  · obtain ⟨a, ns, k, rfl, _⟩ := h
    rfl
  · obtain ⟨a, ns, k, rfl, hS, q⟩ := h
    refine ⟨_, pss_cons (ps_if (pt_cmpR op_lt (pv 1) (pe_callB call_len_seq (by rfl) ml PySem.boot_len (pa_cons (pv 0) pa_nil)) (nomark _)) (pss_one (ps_ret (pe_ix ix_list (pv 0) (pv 1) (fun _ _ => rfl)))) pss_nil)
      (pss_one (ps_ret pe_int)), ?_⟩
    refine ⟨_, rfl, _, rfl, a, _, rfl, .inl hS, _, _, rfl, rfl, _, rfl, ite2 (fun h => ?_) (fun h => ?_)⟩
    · have h1 : k < ns.length := by
        have := of_decide_eq_true h
        rw [List.length_map] at this
        omega
      refine ⟨_, rfl, _, rfl, a, _, _, _, rfl, rfl, hS, atI_nat (v := .int ns[k]) ?_, q _⟩
      rw [List.getElem?_map, List.getElem?_eq_getElem h1]
      rfl
    · exact q 0
def spMixed : Sp := fun vs H Q _ => ∃ (c k : Int), vs = [.int c, .int k] ∧ ∀ r : Int, 0 ≤ r → r < 2147483563 → Q (.int r) H
theorem scMixed : FnScope ["_law_cell", "_law_k", "_law_low"] ["_law_cell", "_law_k"] (defScope sMixed) := ⟨rfl, rfl, rfl, by decide +kernel, rfl, by decide +kernel, by decide +kernel⟩
theorem r_mixed (A : FnAt K mg "_law_mixed" sMixed) : Ready P w K mg base 1 "_law_mixed" ["_law_cell", "_law_k"] spMixed := by
  refine ready_of A (fun _ _ _ _ _ _ us hl => match us, hl with | [_, _], _ => rfl) fun f fd F => ?_
  refine F.ok scMixed (fun vs H Q E h => ?_) (fun cdv A outer s H vs Q E hr h => ?_)
  · obtain ⟨c, k, rfl, _⟩ := h
    rfl
  · obtain ⟨c, k, rfl, q⟩ := h
    refine ⟨_, pss_cons (ps_set (i := 2) scMixed.nd rfl (.inl rfl) (pe_op op_add (pe_op op_mod (pv 0) pe_int) (pe_op op_mul (pe_op op_fdivW (pv 0) pe_int) pe_int)))
      (pss_cons (ps_set (i := 2) scMixed.nd rfl (.inl rfl) (pe_op op_mod (pe_op op_mul (pe_op op_add (pe_op op_add (pv 2) (pe_op op_mul pe_int (pv 1))) pe_int) pe_int) pe_int))
      (pss_cons (ps_set (i := 2) scMixed.nd rfl (.inl rfl) (pe_op op_mod (pe_op op_mul (pv 2) (pe_op op_add (pe_op op_add (pe_op op_fdivN (pv 2) pe_int) pe_int) (pv 1))) pe_int))
      (pss_one (ps_ret (pe_op op_mod (pe_op op_mul (pv 2) (pe_op op_add (pe_op op_fdivN (pv 2) pe_int) pe_int)) pe_int))))), ?_⟩
    refine ⟨_, rfl, _, _, rfl, rfl, (show (0 : Int) < 2147483629 by decide), _, rfl, _, _, rfl, rfl, wide_div (b := 40) (by decide) (by decide) (by decide) (by decide), _, _, rfl, rfl, .inr (by decide), _, _, rfl, rfl, ?_⟩
    generalize c % 2147483629 + c / 2147483629 * 30011 = x1
    refine ⟨_, rfl, _, rfl, _, _, rfl, rfl, .inl (by decide), _, _, rfl, rfl, _, _, rfl, rfl, _, _, rfl, rfl, .inr (by decide), _, _, rfl, rfl, (show (0 : Int) < 2147483629 by decide), ?_⟩
    have a2 := Int.emod_nonneg ((x1 + 69621 * k + 1) * 48271) (by decide : (2147483629 : Int) ≠ 0)
    have b2 := Int.emod_lt_of_pos ((x1 + 69621 * k + 1) * 48271) (by decide : (0 : Int) < 2147483629)
    generalize ((x1 + 69621 * k + 1) * 48271) % 2147483629 = x2 at a2 b2
    refine ⟨_, rfl, _, rfl, _, _, rfl, rfl, ⟨by decide, by decide⟩, _, _, rfl, rfl, _, rfl, _, _, rfl, rfl, _, _, rfl, rfl, .inl ⟨by omega, by omega⟩, _, _, rfl, rfl, (show (0 : Int) < 2147483587 by decide), ?_⟩
    generalize hX : x2 * (x2.fdiv 907 + 16831 + k) = X3
    have a3 := Int.emod_nonneg X3 (by decide : (2147483587 : Int) ≠ 0)
    have b3 := Int.emod_lt_of_pos X3 (by decide : (0 : Int) < 2147483587)
    generalize X3 % 2147483587 = x3 at a3 b3
    refine ⟨_, rfl, _, rfl, _, _, rfl, rfl, ⟨by decide, by decide⟩, _, _, rfl, rfl, _, _, rfl, rfl, .inl ⟨by omega, by omega⟩, _, _, rfl, rfl, (show (0 : Int) < 2147483563 by decide), ?_⟩
    exact q _ (Int.emod_nonneg _ (by decide)) (Int.emod_lt_of_pos _ (by decide))
/-- a source: three numbers at a -/
def Src (H : Hp) (a : Addr) : Prop := ∃ x y z : Int, H a = some (.lst [.int x, .int y, .int z])
def spSource (K : PySem.W.Frag) : Sp := fun vs H Q _ => ∃ (a : Addr) (ns : List Int) (k : Nat), vs = [.ref a, .int (k : Nat)] ∧ SqL K H a (ns.map V.int) ∧ ∀ H' p, Same H H' → H p = none → Src H' p → Q (.ref p) H'
theorem scSource : FnScope ["_law_script", "_law_k", "_law_cell"] ["_law_script", "_law_k"] (defScope sSource) := ⟨rfl, rfl, rfl, by decide +kernel, rfl, by decide +kernel, by decide +kernel⟩
theorem r_source (A : FnAt K mg "_law_source" sSource) (RC : Ready P w K mg base 1 "_law_cell_at" ["_law_script", "_law_k"] (spCellAt K)) (RM : Ready P w K mg base 1 "_law_mixed" ["_law_cell", "_law_k"] spMixed) (ml : mg "len" = none) :
    Ready P w K mg base 2 "_law_source" ["_law_script", "_law_k"] (spSource K) := by
  obtain ⟨f1, fd1, g1, k1, b1, G1⟩ := RC
  obtain ⟨f2, fd2, g2, k2, b2, G2⟩ := RM
  refine ready_of A (fun _ _ _ _ _ _ us hl => match us, hl with | [_, _], _ => rfl) fun f fd F => ?_
  refine F.ok scSource (fun vs H Q E h => ?_) (fun cdv A outer s H vs Q E hr h => ?_)
  · obtain ⟨a, ns, k, rfl, _⟩ := h
    rfl
  · obtain ⟨a, ns, k, rfl, hS, q⟩ := h
    have ix : ∀ e1 e2, PlainIx (.Name e1 e2) := fun _ _ _ _ => rfl
    refine ⟨_, pss_cons (ps_if (pt_cmpR op_lt (pv 1) (pe_callB call_len_seq (by rfl) ml PySem.boot_len (pa_cons (pv 0) pa_nil)) (nomark _))
        (pss_one (ps_ret (pe_lst (pa_cons (pe_ix ix_list (pv 0) (pv 1) (fun _ _ => rfl)) (pa_cons (pe_ix ix_list (pv 0) (pv 1) (fun _ _ => rfl)) (pa_cons pe_int pa_nil)))))) pss_nil)
      (pss_cons (ps_set (i := 2) scSource.nd rfl (.inl rfl) (pe_call G2 hr (by rfl) g2 k2 b2 .nil pass0 (pa_cons (pe_call G1 hr (by rfl) g1 k1 b1 .nil pass0 (pa_cons (pv 0) (pa_cons pe_int pa_nil))) (pa_cons (pe_op op_add pe_int (pv 1)) pa_nil))))
      (pss_one (ps_ret (pe_lst (pa_cons (pv 2) (pa_cons (pv 2) (pa_cons pe_int pa_nil))))))), ?_⟩
    refine ⟨_, rfl, _, rfl, a, _, rfl, .inl hS, _, _, rfl, rfl, _, rfl, ite2 (fun h => ?_) (fun h => ?_)⟩
    · have h1 : k < ns.length := by
        have := of_decide_eq_true h
        rw [List.length_map] at this
        omega
      have g : (ns.map V.int)[k]? = some (.int ns[k]) := by
        rw [List.getElem?_map, List.getElem?_eq_getElem h1]
        rfl
      refine ⟨_, rfl, _, rfl, a, _, _, _, rfl, rfl, hS, atI_nat g, _, rfl, _, rfl, a, _, _, _, rfl, rfl, hS, atI_nat g, (by show 3 ≤ sizeLine; decide), fun l hl => ?_⟩
      exact q _ l (same_new hl) hl ⟨_, _, _, upd_same⟩
    · refine ⟨_, rfl, a, ns, 0, rfl, hS, fun x => ⟨_, rfl, _, _, rfl, rfl, x, _, rfl, fun r _ _ => ?_⟩⟩
      refine ⟨_, rfl, _, rfl, (by show 3 ≤ sizeLine; decide), fun l hl => ?_⟩
      exact q _ l (same_new hl) hl ⟨_, _, _, upd_same⟩
def spNext : Sp := fun vs H Q _ => ∃ (a : Addr) (m : Nat) (x y z : Int), vs = [.ref a, .int (m : Nat)] ∧ 1 ≤ m ∧ m ≤ 100000 ∧ H a = some (.lst [.int x, .int y, .int z]) ∧
  ∀ (r : Nat) (x' z' : Int), r < m → Q (.int (r : Nat)) (upd H a (.lst [.int x', .int y, .int z']))
theorem scNext : FnScope ["_law_source_here", "_law_many", "_law_found"] ["_law_source_here", "_law_many"] (defScope sNext) := ⟨rfl, rfl, rfl, by decide +kernel, rfl, by decide +kernel, by decide +kernel⟩
theorem r_next (A : FnAt K mg "_law_next" sNext) (RM : Ready P w K mg base 1 "_law_mixed" ["_law_cell", "_law_k"] spMixed) : Ready P w K mg base 2 "_law_next" ["_law_source_here", "_law_many"] spNext := by
  obtain ⟨f2, fd2, g2, k2, b2, G2⟩ := RM
  refine ready_of A (fun _ _ _ _ _ _ us hl => match us, hl with | [_, _], _ => rfl) fun f fd F => ?_
  refine F.ok scNext (fun vs H Q E h => ?_) (fun cdv A outer s H vs Q E hr h => ?_)
  · obtain ⟨a, m, x, y, z, rfl, _⟩ := h
    rfl
  · obtain ⟨a, m, x, y, z, rfl, hm1, hm2, hS, q⟩ := h
    refine ⟨_, pss_cons (ps_if (pt_cmpR op_ge (pe_ix ix_list (pv 0) pe_int (fun _ _ => rfl)) (pe_op op_pow pe_int pe_int) (nomark _))
        (pss_cons (ps_set (i := 2) scNext.nd rfl (.inl rfl) (pe_op op_mod (pe_ix ix_list (pv 0) pe_int (fun _ _ => rfl)) (pv 1)))
          (pss_cons (ps_asg (pe_op op_fdivN (pe_ix ix_list (pv 0) pe_int (fun _ _ => rfl)) (pv 1)) (pg_sub (pv 0) pe_int set_list))
          (pss_one (ps_ret (pv 2))))) pss_nil)
      (pss_cons (ps_asg (pe_op op_add (pe_ix ix_list (pv 0) pe_int (fun _ _ => rfl)) pe_int) (pg_sub (pv 0) pe_int set_list))
      (pss_one (ps_ret (pe_op op_mod (pe_call G2 hr (by rfl) g2 k2 b2 .nil pass0 (pa_cons (pe_ix ix_list (pv 0) pe_int (fun _ _ => rfl)) (pa_cons (pe_ix ix_list (pv 0) pe_int (fun _ _ => rfl)) pa_nil))) (pv 1))))), ?_⟩
    have hm0 : (0 : Int) < (m : Int) := by omega
    refine ⟨_, rfl, a, _, _, .int x, rfl, rfl, SqL.of hS, rfl, _, _, rfl, rfl, ⟨by decide, by decide, by decide⟩, _, _, rfl, rfl, _, rfl, ite2 (fun h => ?_) (fun h => ?_)⟩
    · refine ⟨_, rfl, a, _, _, .int x, rfl, rfl, SqL.of hS, rfl, _, rfl, _, _, rfl, rfl, hm0, ?_⟩
      refine ⟨_, rfl, a, _, _, .int x, rfl, rfl, SqL.of hS, rfl, _, rfl, _, _, rfl, rfl, ⟨by omega, by omega⟩, _, rfl, a, _, _, 0, rfl, rfl, hS, rfl, ?_⟩
      have h1 := Int.emod_nonneg x (by omega : (m : Int) ≠ 0)
      have h2 := Int.emod_lt_of_pos x hm0
      have e : ((x % (m : Int)).toNat : Int) = x % (m : Int) := Int.toNat_of_nonneg h1
      refine ⟨_, rfl, ?_⟩
      have := q (x % (m : Int)).toNat (x.fdiv m) z (by omega)
      rw [e] at this
      exact this
    · refine ⟨_, rfl, a, _, _, .int z, rfl, rfl, SqL.of hS, rfl, _, _, rfl, rfl, _, rfl, a, _, _, 2, rfl, rfl, hS, rfl, ?_⟩
      refine ⟨_, rfl, a, _, _, .int y, rfl, rfl, SqL.of upd_same, rfl, _, rfl, a, _, _, .int (z + 1), rfl, rfl, SqL.of upd_same, rfl, y, _, rfl, fun r _ _ => ?_⟩
      refine ⟨_, rfl, _, _, rfl, rfl, hm0, ?_⟩
      have h1 := Int.emod_nonneg r (by omega : (m : Int) ≠ 0)
      have h2 := Int.emod_lt_of_pos r hm0
      have e : ((r % (m : Int)).toNat : Int) = r % (m : Int) := Int.toNat_of_nonneg h1
      have := q (r % (m : Int)).toNat x (z + 1) (by omega)
      rw [e] at this
      exact this
end
end FL

namespace FL
open PySem PySem.Spec PyProof.Rows L2
section
variable {P : Program} {w : World} {K : PySem.W.Frag} {mg : Str → Option Value} {base : Heap}
/-- only the source at a has changed, and new things came -/
structure Drawn (a : Addr) (H H' : Hp) : Prop where
  old : ∀ b o, b ≠ a → H b = some o → H' b = some o
  src : Src H' a
theorem Drawn.refl {a : Addr} {H : Hp} (h : Src H a) : Drawn a H H := ⟨fun _ _ _ h => h, h⟩
theorem Drawn.trans {a : Addr} {H H1 H2 : Hp} (x : Drawn a H H1) (y : Drawn a H1 H2) : Drawn a H H2 := ⟨fun b o n h => y.old b o n (x.old b o n h), y.src⟩
theorem Drawn.same {a : Addr} {H H1 H2 : Hp} (x : Drawn a H H1) (s : Same H1 H2) : Drawn a H H2 :=
  ⟨fun b o n h => s b o (x.old b o n h), let ⟨p, q, r, e⟩ := x.src; ⟨p, q, r, s _ _ e⟩⟩
theorem drawn_upd {a : Addr} {H : Hp} {x y z : Int} : Drawn a H (upd H a (.lst [.int x, .int y, .int z])) := ⟨fun b o n h => by rw [upd_ne n]; exact h, ⟨x, y, z, upd_same⟩⟩
theorem drawn_set {a p : Addr} {H H1 : Hp} {o : HO} (x : Drawn a H H1) (h : H p = none) (n : a ≠ p) : Drawn a H (upd H1 p o) :=
  ⟨fun b u nb e => by rw [upd_ne (ne_of_none e h)]; exact x.old b u nb e, let ⟨u, v, r, e⟩ := x.src; ⟨u, v, r, by rw [upd_ne n]; exact e⟩⟩
theorem joinL_nil : ∀ L : List (List Nat), TL.joinL [] L = L.flatten
  | [] => rfl
  | [p] => by simp [TL.joinL]
  | p :: q :: r => by
    have := joinL_nil (q :: r)
    show p ++ ([] ++ TL.joinL [] (q :: r)) = _
    rw [List.nil_append, this]
    rfl
theorem join_codes (ys : List Str) : (Txt.join ("" : Str) ys).cps.toList = (ys.map fun y => y.cps.toList).flatten := by
  have e : TL.tl ("" : Str) = [] := by decide +kernel
  have h := TL.tl_join ("" : Str) ys
  rw [← TL.join_eq, e, joinL_nil] at h
  exact h
theorem sum_one {ys : List Str} (h : ∀ t ∈ ys, t.length ≤ 1) : (ys.map (·.length)).sum ≤ ys.length := by
  induction ys with
  | nil => exact Nat.le_refl _
  | cons y r ih =>
    have h1 := h y (List.mem_cons_self ..)
    have h2 := ih fun t ht => h t (List.mem_cons_of_mem _ ht)
    rw [List.map_cons, List.sum_cons, List.length_cons]
    omega
theorem codes_one (c : Nat) : (⟨#[c]⟩ : Str).cps.toList = [c] := rfl
theorem flat_ones {ys : List Str} {l : List Nat} (h : ∀ t ∈ ys, ∃ c ∈ l, t = ⟨#[c]⟩) : (∀ c ∈ (ys.map fun y => y.cps.toList).flatten, c ∈ l) ∧ ((ys.map fun y => y.cps.toList).flatten).length = ys.length := by
  induction ys with
  | nil => exact ⟨fun c hc => by simp at hc, rfl⟩
  | cons y r ih =>
    obtain ⟨i1, i2⟩ := ih fun t ht => h t (List.mem_cons_of_mem _ ht)
    obtain ⟨c, hc, rfl⟩ := h y (List.mem_cons_self ..)
    rw [List.map_cons, List.flatten_cons]
    show (∀ d ∈ [c] ++ _, d ∈ l) ∧ ([c] ++ _).length = _
    refine ⟨fun d hd => ?_, by rw [List.length_append, i2, List.length_cons]; simp; omega⟩
    rcases List.mem_append.mp hd with hd | hd
    · rw [List.mem_singleton.mp hd]; exact hc
    · exact i1 d hd
def spSigns : Sp := fun vs H Q _ => ∃ (a : Addr) (s : Str) (m : Nat), vs = [.ref a, .str s, .int (m : Nat)] ∧ 1 ≤ s.length ∧ s.length ≤ 10000 ∧ m ≤ 10000 ∧ Src H a ∧
  ∀ (t : Str) (H' : Hp), (∀ c ∈ t.cps.toList, c ∈ s.cps.toList) → t.length = m → Drawn a H H' → Q (.str t) H'
end
end FL

namespace FL
open PySem PySem.Spec PyProof.Rows L2
/-! ### the class of a caught error that has a dict of its own -/
section
open PySem.W PySem.Calls
theorem cls_found {K : Frag} {D : Addr} {oo : Option Obj} (G : ExcC K D) : findObj K D oo "__class__" = some (.bind (.builtin "getset_descriptor.__get__") (.builtin "object.__class__")) := by
  obtain ⟨cd, hc, _⟩ := any_some G.hd
  unfold findObj
  rw [hc, Option.bind_some, G.ha, Option.bind_some]
  simp [G.hn, G.ht]
theorem cls_of_exc {prog : Program} {w : World} {A : Around} {E : Value → Shared → Prop} {s : Shared} {K : Frag} {x D : Addr} {ox : Obj} {oo : Option Obj} {Q : Option Value → Shared → Prop}
    (G : ExcC K D) (Y : K.In s.heap) (J : InstAt s.heap x ox D oo) (q : Q (some (.ref D)) { s with toks := s.toks + 1 }) : wpAny (model prog w) A (getAttr? (.ref x) "__class__") Q E s := by
  have found := cls_found (oo := oo) G
  obtain ⟨hh, gg, dd, tt, oos⟩ := s
  have t0 : Looks (model prog w) hh (typeOf (.ref x)) (.ref D) := J.type
  have t1 := looks_findIn (M := model prog w) Y G.hg
  have t2 := looks_findIn (M := model prog w) Y G.hk
  have t3 := looks_find (M := model prog w) Y J found
  have isB : Looks (model prog w) hh (isInstance (.ref x) (.type "BaseException")) true := t0.andThen (looks_subIn Y G.hs)
  have n0 : (false && onTheHeap (Value.builtin "BaseException.__getattribute__")) = false := rfl
  have n1 : (onTheHeap (Value.ref D) && Value.builtin "BaseException.__getattribute__" == Value.builtin "object.__getattribute__") = false := by
    rw [show (Value.builtin "BaseException.__getattribute__" == Value.builtin "object.__getattribute__") = false by decide +kernel]
    rfl
  unfold getAttr? getAttrBy? getAttrBy
  refine wpAny_bind (wpAny_mkText (wpAny_bind (wpAny_attempt (wpAny_holding (wpAny_bind (t0.at (wpAny_bind (t1.at ?_))))))))
  refine (show wpAny (model prog w) A (if (onTheHeap (Value.ref D) && Value.builtin "BaseException.__getattribute__" == Value.builtin "object.__getattribute__") = true then _ else _) _ _ _ from ?_)
  rw [n1, if_neg Bool.false_ne_true]
  unfold getAttrByItsOwn hookBefore
  refine wpAny_bind ?_
  rw [if_pos (show onTheHeap (Value.ref D) = true from rfl)]
  refine t2.at (wpAny_bind (wpAny_attempt (wpAny_holding ?_)))
  unfold callGetattribute
  rw [n0, if_neg Bool.false_ne_true]
  unfold boundAndCalled
  rw [PySem.F.excAttr_ValueError.ga.bind (.ref x)]
  refine wpAny_bind (wpAny_pure ?_)
  refine (show wpAny (model prog w) _ (call (.builtin "BaseException.__getattribute__") [.ref x, .str "__class__" tt]) _ _ _ from ?_)
  refine wpAny_call (codeAny_call_builtin PySem.F.excAttr_ValueError.ga.plain PySem.F.entry_bexc_ga ?_)
  refine @check_slot (model prog w) _ _ ⟨hh, gg, dd, tt + 1, oos⟩ "BaseException.__getattribute__" "BaseException" "__getattribute__" (.ref x) [.str "__class__" tt] [] _ (by decide +kernel) (by decide +kernel) isB (PySem.F.args_bexc_ga (.ref x) (.str "__class__" tt)) ?_
  unfold Builtin.«object.__getattribute__»
  refine wpAny_bind (wpAny_of_eq (a := ((Value.ref x : Value), [Value.str "__class__" tt])) (by first | rfl | (simp only [slotArgs]; rfl)) ?_)
  refine wpAny_bind (wpAny_pure (wpAny_bind (t0.at (wpAny_bind (t3.at ?_)))))
  refine (show wpAny (model prog w) _ (holding [Value.builtin "object.__class__"] (call (.builtin "getset_descriptor.__get__") [.builtin "object.__class__", .ref x, .ref D]) >>= ret) _ _ _ from ?_)
  refine wpAny_bind (wpAny_holding (wpAny_call (class_get (s := ⟨hh, gg, dd, tt + 1, oos⟩) (ox := ox) (od := oo) Y J G.hm (wpAny_pure ?_))))
  refine (show wpAny (model prog w) _ (handedOut (.ref D)) _ _ _ from ?_)
  rw [handedOut_of (v := .ref D) rfl]
  first
    | exact wpAny_pure (wpAny_pure q)
    | exact wpAny_pure q
    | exact wpAny_pure (wpAny_bind (wpAny_pure (wpAny_pure q)))
/-- an own class at D stands in the written part as a class -/
theorem cls_there {K : Frag} {D : Addr} (h : hasDictIn K D = true) : ∃ c d' cd sl, K.lookup D = some ⟨c, d', .cls cd, sl⟩ := by
  obtain ⟨cd, hc, _⟩ := any_some h
  unfold clsIn at hc
  split at hc
  · rename_i c' d' cd' sl' ho
    exact ⟨c', d', cd', sl', ho⟩
  · cases hc
theorem kitx_excD {K : Frag} {x D : Addr} {ox : Obj} {oo : Option Obj} (G : ExcC K D) : KitX K (.ref x) (.ref D) (fun h => InstAt h x ox D oo) where
  ty := fun _ _ _ J => J.type
  it := fun _ _ Y _ => by
    obtain ⟨c', d', cd', sl', ho⟩ := cls_there G.hd
    intro A' Q' E' s' k q
    unfold isType loadHead
    exact wpAny_bind (wpAny_loadPart (k _ _ (Y _ _ ho)) (wpAny_pure q))
  ne := fun h tp dd its n sl Y htp => by
    obtain ⟨c', d', cd', sl', ho⟩ := cls_there G.hd
    refine Bool.eq_false_iff.mpr fun z => ?_
    have e : D = tp := Value.ref.inj (beq_iff_eq.mp z)
    subst e
    have z2 := (Y _ _ ho).symm.trans htp
    cases z2
  ca := fun Y J k => cls_of_exc G Y J k
end
theorem kit_same {K : PySem.W.Frag} {C : Addr} : PySem.W.kitOne K (.ref C) (.ref C) = some true := by
  unfold PySem.W.kitOne
  rw [if_pos (beq_self_eq_true _)]
theorem kit_own {K : PySem.W.Frag} {C D : Addr} {b : Bool} (n : ((Value.ref C) == (Value.ref D)) = false) (t : PySem.W.typeIn K (.ref D) = some (.type "type")) (d : PySem.W.hasDictIn K D = true) (s : PySem.W.subIn K (.ref C) (.ref D) = some b) : PySem.W.kitOne K (.ref C) (.ref D) = some b := by
  obtain ⟨cd, hc, _⟩ := PySem.W.any_some d
  unfold PySem.W.kitOne
  rw [if_neg (by rw [n]; exact Bool.false_ne_true)]
  show (if ((PySem.W.clsIn K D).isSome && PySem.W.typeIn K (.ref D) == some (.type "type")) = true then PySem.W.subIn K (.ref C) (.ref D) else none) = some b
  rw [hc, t, if_pos (by rfl)]
  exact s
/-- isinstance(e, c), e the caught error at a, its own dict at dd -/
def rIsD (K : PySem.W.Frag) (D a : Addr) (dd : Addr) : List V → Hp → VK → Prop := fun xs H Q => ∃ (c : V) (cv : Value) (b : Bool) (fs : List (Str × V)), xs = [.ref a, c] ∧ H dd = some (.xd fs) ∧ (∀ u, RelV c u → u = cv) ∧ PySem.W.kitOne K (.ref D) cv = some b ∧ Q (.bl b) H
theorem call_isD {X : Cx} {a D dd : Addr} {oe : Obj} {pn : List (Addr × Obj)} (G : ExcC X.K D) (hz : Zc (.ref D) (some dd) oe) (hf : ∃ vs, oe.data = .fields vs) : CallR (X.suite a ((a, oe) :: pn)) (.builtin "isinstance") (rIsD X.K D a dd) := by
  intro pins s σ H xs us Q I r h
  obtain ⟨c, cv, b, fs, rfl, hd, hcv, e, q⟩ := h
  obtain ⟨u1, u2, rfl, rx, rt⟩ := vals2 r
  cases rx
  have ec := hcv _ rt
  subst ec
  obtain ⟨hget, _⟩ := I.pin (a, oe) (List.mem_append.mpr (.inl List.mem_cons_self))
  obtain ⟨vs, hv⟩ := hf
  have hx : ObjOk X.prog X.w H s.heap dd (.xd fs) := I.hok dd _ hd
  obtain ⟨mA, hns, _⟩ := hx
  obtain ⟨od, ho, _⟩ := lookIn_ns hns
  have J : PySem.W.InstAt s.heap a oe D (some od) := ⟨hget, hz.1, by unfold PySem.W.notCls; rw [hv] <;> rfl, by rw [hz.2]; exact ho⟩
  exact PySem.W.kia_one (kitx_excD G) I.kIn J e (fun z => nomatch z) fun tk => ⟨.bl b, H, I.kept (t' := tk) fun _ _ z => z, rfl, q⟩
/-- the same, where it is told only later which class and which dict the caught error has -/
def rIsG (K : PySem.W.Frag) (D a : Addr) (cls : Value) (d : Option Addr) : List V → Hp → VK → Prop := fun xs H Q => cls = .ref D ∧ ∃ dd, d = some dd ∧ rIsD K D a dd xs H Q
theorem call_isG {X : Cx} {a D : Addr} {cls : Value} {d : Option Addr} {oe : Obj} {pn : List (Addr × Obj)} (G : ExcC X.K D) (hz : Zc cls d oe) (hf : ∃ vs, oe.data = .fields vs) : CallR (X.suite a ((a, oe) :: pn)) (.builtin "isinstance") (rIsG X.K D a cls d) := by
  intro pins s σ H xs us Q I r h
  obtain ⟨rfl, dd, rfl, h⟩ := h
  exact call_isD G hz hf pins s σ H xs us Q I r h
/-! ### C.__init__(self, ..), C an own class -/
structure ClsFn (K : PySem.W.Frag) (C fI : Addr) : Prop where
  ga : PySem.W.specialIn K (.ref C) "__getattribute__" = some (some (.builtin "type.__getattribute__"))
  rd : PySem.W.readsIn K C (.type "type") = true
  at_ : PySem.W.findCls K (.ref C) (.type "type") "__init__" = some (.val (.ref fI))
  kp : PySem.W.keepIn K (.ref fI) = true
theorem pe_cinit {X : Cx} {x : Str} {C fI : Addr} {CX : CXT} {k : Nat} {fd : FuncData} {ps : List Str} {sp : Sp} {ds : List Value} {dvs : List V} {E : XK} {e : Expr} {es : List Expr} {t : TA} {p1 p2 pos : Pos} {pl : Sem Bool} (T : ClsFn X.K C fI) (F : FnOk X.prog X.w X.K X.mg X.base CX k fI fd ps sp) (hr : Room k X.A)
    (hg : Gl X x) (hm : X.mg x = some (.ref C)) (hb : Binds X.K fd ps ds) (hd : Vals dvs ds) (hx : Passes CX X E) (ha : PA X (e :: es) t)
    (hc : eval (.Call (.Attribute (.Name x p1) "__init__" p2) (e :: es) [] pos) X.env = (do
      let ov ← eval (.Name x p1) X.env
      standAt p2.atName
      let (f, first) ← holding [ov] (getMethod ov "__init__" pl)
      callWith pos f first (backTo pos (starEach (e :: es) X.env)) (backToKw pos (keywordEach [] X.env))) := by rfl)
    (hdb : (x == ("__debug__" : Str)) = false := by decide) (he : starEach (e :: es) X.env = (false, eval e X.env) :: starEach es X.env := by rfl) (hpl : (backTo pos (starEach es X.env)).any (·.1) = false := by rfl) :
    PE X (.Call (.Attribute (.Name x p1) "__init__" p2) (e :: es) [] pos) (tCall sp dvs E t) := by
  refine ⟨fun pins s σ H Q I h => ?_⟩
  refine PySem.W.methodCall_KW (ld_glob I hg hm ?_ hdb) hc
  refine PySem.W.method_cls I.kIn T.ga (ClX.getcval_ok (v := .ref fI) (u := .ref fI) I ⟨T.rd, T.ga⟩ ⟨T.at_, rfl⟩ fun s1 I1 => ?_)
  refine (show wpAny (model X.prog X.w) X.A (callWith pos (.ref fI) [] (backTo pos (starEach (e :: es) X.env)) []) _ _ _ from ?_)
  refine PySem.W.callWith_K (h₀ := X.base) I.ok.mod.kin T.kp (thn (ha.run pos pins s1 σ H _ I1 h) fun us s2 ⟨vs, H1, I2, r, q⟩ => ⟨I2.kIn, ?_⟩) he hpl
  exact run_fn F hr hb hd hx I2 r q
section
variable {P : Program} {w : World} {K : PySem.W.Frag} {mg : Str → Option Value} {base : Heap}
abbrev sLE : Stmt := inClass cLetterError 0
abbrev FunA (K : PySem.W.Frag) (qual : Str) (st : Stmt) (dvs : List V) (f : Addr) (fd : FuncData) : Prop := FunD K "__init__" qual (defArgs st) (defBody st) (defScope st) dvs [] f fd
def spLE (K : PySem.W.Frag) : Sp := fun vs H Q _ => ∃ (a C : Addr) (v : V), vs = [.ref a, v] ∧ OexC K C ∧ H a = some (exo a C none) ∧ Q .non H
theorem scLE : FnScope ["self", "why"] ["self", "why"] (defScope sLE) := ⟨rfl, rfl, rfl, by decide +kernel, rfl, by decide +kernel, by decide +kernel⟩
theorem ok_LE {f : Addr} {fd : FuncData} (F : FunA K "LetterError.__init__" sLE [.str ""] f fd) (mV : mg "ValueError" = none) (vV : PySem.W.findCls K (.type "ValueError") (.type "type") "__init__" = some (.val (.builtin "ValueError.__init__"))) :
    FnOk P w K mg base CX0 1 f fd ["self", "why"] (spLE K) := by
  refine FunD.ok F scLE (fun vs H Q E h => ?_) (fun cdv A outer s H vs Q E hr h => ?_)
  · obtain ⟨a, C, v, rfl, _⟩ := h
    rfl
  · obtain ⟨a, C, v, rfl, T, hH, q⟩ := h
    refine ⟨_, pss_one (ps_expr (pe_veinit (by rfl) mV vV (pa_cons (pv 0) (pa_cons (pv 1) pa_nil)))), ?_⟩
    exact ⟨_, rfl, _, rfl, a, C, [v], rfl, by show 1 ≤ 1000; decide, T, hH, q⟩
theorem bind_LE {f : Addr} {fd : FuncData} (F : FunA K "LetterError.__init__" sLE [.str ""] f fd) : ∃ ds, Vals [] ds ∧ Binds K fd ["self", "why"] ds :=
  FunD.binds1 (ps := ["self", "why"]) F 2 1 (by simp) rfl fun T kV doc pm an cdv ct us its hu hi => match us, its, hu, hi with | [_, _], [_], _, _ => ⟨_, rfl, rfl⟩
/-- C(why, y): a new error of the class at C, its field set -/
def spFld (C : Addr) (fld : Str) : Sp := fun vs H Q _ => ∃ (a : Addr) (v y : V), vs = [.ref a, v, y] ∧ H a = some (exo a C none) ∧ ∀ dx, H dx = none → dx ≠ a → Q .non (upd (upd H dx (exd dx [(fld, y)])) a (exo a C (some dx)))
/-- what a raise of C(..) asks and gives -/
structure MkFld (P : Program) (w : World) (K : PySem.W.Frag) (mg : Str → Option Value) (base : Heap) (x : Str) (C : Addr) (fld : Str) : Prop where
  T : OexC K C
  g : mg x = some (.ref C)
  init : ∃ fI fd, PySem.W.findIn K (.ref C) "__init__" = some (some (.ref fI)) ∧ PySem.W.typeIn K (.ref fI) = some (.type "function") ∧ FnOk P w K mg base CX0 2 fI fd ["self", "why", fld] (spFld C fld) ∧
    (∃ ds, Vals [] ds ∧ Binds K fd ["self", "why", fld] ds) ∧ ∃ ds, Vals [.int 0] ds ∧ Binds K fd ["self", "why", fld] ds
/-- the leaf: what the raise gives -/
theorem mk_leaf {C : Addr} {fld : Str} {v y : V} {vs dvs : List V} {H1 : Hp} {Q : XK} (hv : vs ++ dvs = [v, y]) (hl : vs.length ≤ 2) (h : ∀ (d : Addr) (H' : Hp), Same H1 H' → H1 d = none → H' d = some (.xd [(fld, y)]) → Q (.ref C) (some d) H') :
    vs.length ≤ 1000 ∧ ∀ a, H1 a = none → spFld C fld (.ref a :: (vs ++ dvs)) (upd H1 a (exo a C none))
      (fun v H2 => v = .non ∧ ∃ (d : Addr) (fs : List (Str × V)), H2 a = some (exo a C (some d)) ∧ H2 d = some (exd d fs) ∧ H1 d = none ∧ Q (.ref C) (some d) (upd (del H2 a) d (.xd fs))) (fun _ _ _ => False) := by
  refine ⟨by omega, fun a na => ⟨a, v, y, by rw [hv], upd_same, fun dx n1 n2 => ?_⟩⟩
  rw [upd_ne n2] at n1
  refine ⟨rfl, dx, [(fld, y)], upd_same, by rw [upd_ne n2, upd_same], n1, h dx _ (fun b o e => ?_) n1 upd_same⟩
  have hb1 : b ≠ a := ne_of_none e na
  have hb2 : b ≠ dx := ne_of_none e n1
  rw [upd_ne hb2, del_ne hb1, upd_ne hb1, upd_ne hb2, upd_ne hb1]
  exact e
theorem pmk_fld {X : Cx} {x fld : Str} {C : Addr} {e : Expr} {es : List Expr} {ta : TA} {p pos : Pos} (M : MkFld X.prog X.w X.K X.mg X.base x C fld) (hr : Room (2 + 1) X.A) (hg : Gl X x) (ha : PA X (e :: es) ta) (dvs : List V) (hdv : dvs = [] ∨ dvs = [.int 0])
    (hdb : (x == ("__debug__" : Str)) = false := by decide) (he : starEach (e :: es) X.env = (false, eval e X.env) :: starEach es X.env := by rfl) (hpl : (backTo pos (starEach es X.env)).any (·.1) = false := by rfl) :
    PMk X (.Call (.Name x p) (e :: es) [] pos) (tMkO C (spFld C fld) dvs ta) := by
  obtain ⟨fI, fd, iC, tI, F1, ⟨ds1, v1, b1⟩, ⟨ds2, v2, b2⟩⟩ := M.init
  rcases hdv with rfl | rfl
  · exact pmk_oex M.T iC tI F1 hr b1 v1 pass0 hg M.g ha hdb he hpl
  · exact pmk_oex M.T iC tI F1 hr b2 v2 pass0 hg M.g ha hdb he hpl
end
end FL

namespace FL
open PySem PySem.Spec PyProof.Rows L2
/-! ### texts as lists of signs -/
def mk (l : List Nat) : Str := ⟨l.toArray⟩
theorem mk_codes (l : List Nat) : (mk l).cps.toList = l := by simp [mk]
theorem mk_of (z : Str) : mk z.cps.toList = z := TL.mk_tl z
theorem mk_eq {z : Str} {l : List Nat} (h : z.cps.toList = l) : z = mk l := by rw [← h, mk_of]
theorem mk_inj {l m : List Nat} (h : mk l = mk m) : l = m := by rw [← mk_codes l, h, mk_codes]
theorem mk_len (l : List Nat) : (mk l).length = l.length := by simp [mk, Str.length]
theorem mk_one (c : Nat) : mk [c] = ⟨#[c]⟩ := rfl
theorem mk_app (l m : List Nat) : mk l ++ mk m = mk (l ++ m) := by
  have h : (mk l ++ mk m).cps.toList = l ++ m := by
    have := TL.tl_append (mk l) (mk m)
    show (mk l ++ mk m).cps.toList = l ++ m
    rw [show (mk l ++ mk m).cps.toList = (mk l).cps.toList ++ (mk m).cps.toList from this, mk_codes, mk_codes]
  exact mk_eq h
/-! ### slices -/
theorem cutS_one (z : Str) (p : Nat) : (cutS z (some (p : Nat)) (some ((p + 1 : Nat) : Int))).cps.toList = (z.cps.toList.drop p).take 1 := by
  unfold cutS
  rw [HT.sIx_nat, HT.sIx_nat]
  show (List.take _ (List.drop _ _)) = _
  have hl := len_cps z
  by_cases h : p < z.length
  · rw [Nat.min_eq_left (by omega), Nat.min_eq_left (by omega), show p + 1 - p = 1 by omega]
  · rw [Nat.min_eq_right (by omega), Nat.min_eq_right (by omega), Nat.sub_self, List.take_zero, List.drop_eq_nil_of_le (by omega)]
    rfl
theorem cutS_nat (z : Str) {i j : Nat} (h1 : i ≤ z.length) (h2 : j ≤ z.length) : (cutS z (some (i : Nat)) (some (j : Nat))).cps.toList = (z.cps.toList.drop i).take (j - i) := by
  unfold cutS
  rw [HT.sIx_nat, HT.sIx_nat]
  show (List.take _ (List.drop _ _)) = _
  rw [Nat.min_eq_left h1, Nat.min_eq_left h2]
theorem cps_at {z : Str} {p c : Nat} (h : z.cps[p]? = some c) : z.cps.toList[p]? = some c := by rw [Array.getElem?_toList]; exact h
theorem drop_at {l : List Nat} {p c : Nat} (h : l[p]? = some c) : l.drop p = c :: l.drop (p + 1) := by
  have hb : p < l.length := (List.getElem?_eq_some_iff.mp h).1
  have e : l[p] = c := (List.getElem?_eq_some_iff.mp h).2
  rw [List.drop_eq_getElem_cons hb, e]
section
variable {P : Program} {w : World} {K : PySem.W.Frag} {mg : Str → Option Value} {base : Heap}
theorem sign_is {c d : Nat} {x : Str} (hx : x = ⟨#[d]⟩) : decide (V.str ⟨#[c]⟩ = V.str x) = decide (c = d) := by
  rw [hx]
  exact decide_eq_decide.mpr str_one
def ReadyX (P : Program) (w : World) (K : PySem.W.Frag) (mg : Str → Option Value) (base : Heap) (k : Nat) (x : Str) (ps : List Str) (sp : Sp) : Prop :=
  ∃ f fd, mg x = some (.ref f) ∧ PySem.W.keepIn K (.ref f) = true ∧ Binds K fd ps [] ∧ FnOk P w K mg base (L2.CX P w) k f fd ps sp
theorem readyX_of {x : Str} {st : Stmt} {k : Nat} {ps : List Str} {sp : Sp} (A : FnAt K mg x st)
    (hb : ∀ (kV doc pm : Value) (an : Option Addr) (cdv ct : Value) (us : List Value), us.length = ps.length → bindArgs (PySem.W.fnOf x x (defArgs st) (defBody st) (defScope st) .none kV doc pm an cdv ct) ⟨us, []⟩ = pure (ps.zip us))
    (ok : ∀ f fd, Fun K x x st f fd → FnOk P w K mg base (L2.CX P w) k f fd ps sp) : ReadyX P w K mg base k x ps sp := by
  obtain ⟨f, fd, F, g⟩ := A.ex
  exact ⟨f, fd, g, F.kp, F.binds hb, ok f fd F⟩
/-- v is no text without line feeds -/
def NoLine (K : PySem.W.Frag) (H : Hp) (v : V) : Prop := (∃ z : Str, v = .str z ∧ z.length ≤ 10000 ∧ isLn z.cps.toList = false) ∨ (∃ t, TyX K H v t ∧ PySem.W.kitOne K t (.type "str") = some false)
/-- an error of the class at C with its field at y is wished for -/
def Fails (C : Addr) (fld : Str) (y : Int) (H : Hp) (E : XK) : Prop := ∀ (d : Addr) H', Same H H' → H d = none → H' d = some (.xd [(fld, .int y)]) → E (.ref C) (some d) H'
theorem Fails.later {C : Addr} {fld : Str} {y : Int} {H H1 : Hp} {E : XK} (h : Fails C fld y H E) (s : Same H H1) : Fails C fld y H1 E := fun d H' s' n e => h d H' (s.trans s') (Same.free s n) e
theorem len_append (a b : Str) : (a ++ b).length = a.length + b.length := by
  have := TL.tl_append a b
  rw [← len_cps, ← len_cps, ← len_cps]
  rw [show (a ++ b).cps.toList = a.cps.toList ++ b.cps.toList from this, List.length_append]
end
end FL

namespace FL
open PySem PySem.Spec PyProof.Rows L2
theorem strOk_of {z : Str} (h : ∀ c ∈ z.cps.toList, c < 128) : PyData.strOk z = true := by
  unfold PyData.strOk
  rw [← Array.all_toList]
  refine List.all_eq_true.mpr fun c hc => decide_eq_true ?_
  have := h c hc
  omega
theorem canLayAll_of : ∀ {ds : List PyData}, (∀ d ∈ ds, d.canLay0 = true) → PyData.canLayAll0 ds = true
  | [], _ => by simp [PyData.canLayAll0]
  | d :: r, h => by
    rw [PyData.canLayAll0, h d (List.mem_cons_self ..), canLayAll_of fun x hx => h x (List.mem_cons_of_mem _ hx)]
    rfl
theorem depthAll_of {k : Nat} : ∀ {ds : List PyData}, (∀ d ∈ ds, d.depth ≤ k) → PyData.depthAll ds ≤ k
  | [], _ => by simp [PyData.depthAll]
  | d :: r, h => by
    rw [PyData.depthAll]
    exact Nat.max_le.mpr ⟨h d (List.mem_cons_self ..), depthAll_of fun x hx => h x (List.mem_cons_of_mem _ hx)⟩
theorem canLay_str {z : Str} (h : PyData.strOk z = true) : (PyData.str z).canLay0 = true := by
  unfold PyData.canLay0
  exact h
theorem shaped_of {d : PyData} (h : d.canLay0 = true) (k : d.depth ≤ 64) : SeqAt.shaped d = true := by
  unfold SeqAt.shaped
  rw [h, decide_eq_true k]
  rfl
theorem shaped_strs {zs : List Str} (h : ∀ z ∈ zs, PyData.strOk z = true) : SeqAt.shaped (.list (zs.map PyData.str)) = true := by
  refine shaped_of ?_ ?_
  · rw [PyData.canLay0]
    refine canLayAll_of fun d hd => ?_
    obtain ⟨z, hz, rfl⟩ := List.mem_map.mp hd
    exact canLay_str (h z hz)
  · rw [PyData.depth]
    have : PyData.depthAll (zs.map PyData.str) ≤ 0 := depthAll_of fun d hd => by
      obtain ⟨z, hz, rfl⟩ := List.mem_map.mp hd
      rw [PyData.depth]
      exact Nat.le_refl _
    omega
theorem dp_strs {K : PySem.W.Frag} {H : Hp} : ∀ zs : List Str, DpAll K H (zs.map V.str) (zs.map PyData.str)
  | [] => .nil
  | z :: r => .cons (.str z) (dp_strs r)
theorem eqv_nil (ds : List PyData) : PyData.eqv (.list ds) (.list []) = ds.isEmpty := by
  cases ds <;> simp [PyData.eqv, PyData.eqvAll]
theorem same_drawn {H H1 H2 : Hp} {p : Addr} (s : Same H H1) (n : H p = none) (d : Drawn p H1 H2) : Same H H2 := fun b o e => d.old b o (ne_of_none e n) (s b o e)
theorem app_codes (a b : Str) : (a ++ b).cps.toList = a.cps.toList ++ b.cps.toList := TL.tl_append a b
/-- a list of texts as data: in order, and itself -/
theorem strs_ok {zs : List Str} (h : ∀ z ∈ zs, PyData.strOk z = true) : SeqAt.shaped (.list (zs.map PyData.str)) = true ∧ PyData.eqv (.list (zs.map PyData.str)) (.list (zs.map PyData.str)) = true := by
  have hs := shaped_strs h
  exact ⟨hs, SeqAt.eqv_refl _ (Bool.and_eq_true_iff.mp hs).1⟩
end FL


namespace FL
open PySem PySem.Spec PyProof.Rows L2
/-! ### lists of whole numbers -/
def iv (l : List Nat) : List V := l.map fun n : Nat => V.int (n : Int)
theorem iv_len (l : List Nat) : (iv l).length = l.length := List.length_map ..
theorem iv_app (l m : List Nat) : iv (l ++ m) = iv l ++ iv m := List.map_append ..
theorem iv_at {l : List Nat} {i n : Nat} (h : l[i]? = some n) : (iv l)[i]? = some (.int (n : Int)) := by
  unfold iv
  rw [List.getElem?_map, h]
  rfl
theorem iv_take (l : List Nat) (n : Nat) : iv (l.take n) = (iv l).take n := List.map_take ..
theorem iv_drop (l : List Nat) (n : Nat) : iv (l.drop n) = (iv l).drop n := List.map_drop ..
theorem iv_inj {l m : List Nat} (h : iv l = iv m) : l = m := by
  induction l generalizing m with
  | nil => cases m with
    | nil => rfl
    | cons b r => cases h
  | cons a r ih => cases m with
    | nil => cases h
    | cons b s =>
      have h1 := (List.cons.inj h).1
      have h2 := (List.cons.inj h).2
      injection h1 with h1
      rw [show a = b by omega, ih h2]
def idt (l : List Nat) : List PyData := l.map fun n : Nat => PyData.int (n : Int)
theorem dp_ints {K : PySem.W.Frag} {H : Hp} : ∀ l : List Nat, DpAll K H (iv l) (idt l)
  | [] => .nil
  | z :: r => .cons (.int _) (dp_ints r)
theorem shaped_ints (l : List Nat) : SeqAt.shaped (.list (idt l)) = true := by
  refine shaped_of ?_ ?_
  · rw [PyData.canLay0]
    refine canLayAll_of fun d hd => ?_
    obtain ⟨z, hz, rfl⟩ := List.mem_map.mp hd
    rw [PyData.canLay0]
  · rw [PyData.depth]
    have : PyData.depthAll (idt l) ≤ 0 := depthAll_of fun d hd => by
      obtain ⟨z, hz, rfl⟩ := List.mem_map.mp hd
      rw [PyData.depth]
      exact Nat.le_refl _
    omega
theorem eqv_ints_all : ∀ l m : List Nat, PyData.eqvAll (idt l) (idt m) = decide (l = m)
  | [], [] => by simp [idt, PyData.eqvAll]
  | [], b :: s => by simp [idt, PyData.eqvAll]
  | a :: r, [] => by simp [idt, PyData.eqvAll]
  | a :: r, b :: s => by
    have ih := eqv_ints_all r s
    show PyData.eqvAll (PyData.int a :: idt r) (PyData.int b :: idt s) = _
    rw [PyData.eqvAll, ih]
    have e : PyData.eqv (.int (a : Int)) (.int (b : Int)) = decide (a = b) := by
      simp only [PyData.eqv]
      by_cases h : a = b
      · subst h; simp
      · rw [decide_eq_false h]
        simp [h]
        try omega
    rw [e]
    by_cases h1 : a = b <;> by_cases h2 : r = s <;> simp [h1, h2]
theorem eqv_ints (l m : List Nat) : PyData.eqv (.list (idt l)) (.list (idt m)) = decide (l = m) := by
  rw [← eqv_ints_all]
  simp only [PyData.eqv]
/-- two lists of whole numbers as data -/
theorem dpl {K : PySem.W.Frag} {H : Hp} {a : Addr} {l : List Nat} (h : H a = some (.lst (iv l))) : Dp K H (.ref a) (.list (idt l)) := .lst (SqL.of h) (dp_ints l)
theorem dplS {K : PySem.W.Frag} {H : Hp} {a : Addr} {l : List Nat} (h : SqL K H a (iv l)) : Dp K H (.ref a) (.list (idt l)) := .lst h (dp_ints l)
/-! ### whole numbers -/
inductive Whole (K : PySem.W.Frag) (H : Hp) : V → Option Int → Prop
  | int (n : Int) : Whole K H (.int n) (some n)
  | bl (b : Bool) : Whole K H (.bl b) none
  | oth {v : V} {t : Value} (h : TyX K H v t) (k : PySem.W.kitOne K t (.type "int") = some false) : Whole K H v none
theorem TyOf.same {K : PySem.W.Frag} {H H' : Hp} {v : V} {t : Value} (s : Same H H') (h : TyOf K H v t) : TyOf K H' v t := by
  cases h with
  | non => exact .non
  | bl x => exact .bl x
  | int i => exact .int i
  | str x => exact .str x
  | flt x => exact .flt x
  | lst e => exact .lst (s _ _ e)
  | frz e => exact .frz (s _ _ e)
  | tup e => exact .tup (s _ _ e)
  | dK e => exact .dK (s _ _ e)
  | dT e => exact .dT (s _ _ e)
  | ins e cl ha hn htk hm => exact .ins (s _ _ e) cl ha hn htk hm
theorem TyX.same {K : PySem.W.Frag} {H H' : Hp} {v : V} {t : Value} (s : Same H H') (h : TyX K H v t) : TyX K H' v t := by
  cases h with
  | base h => exact .base (TyOf.same s h)
  | byt b => exact .byt b
  | set e => exact .set (s _ _ e)
  | kList e c => exact .kList e c
  | kTuple e c => exact .kTuple e c
  | kDict e c => exact .kDict e c
  | fTuple e => exact .fTuple (s _ _ e)
  | fDict e => exact .fDict (s _ _ e)
theorem Whole.same {K : PySem.W.Frag} {H H' : Hp} {v : V} {o : Option Int} (s : Same H H') (h : Whole K H v o) : Whole K H' v o := by
  cases h with
  | int n => exact .int n
  | bl b => exact .bl b
  | oth h k => exact .oth (TyX.same s h) k
section
variable {P : Program} {w : World} {K : PySem.W.Frag} {mg : Str → Option Value} {base : Heap}
def spWhole (K : PySem.W.Frag) (f : Option Int → Bool) : Sp := fun vs H Q _ => ∃ v o, vs = [v] ∧ Whole K H v o ∧ Q (.bl (f o)) H
theorem scIsWhole : FnScope ["value"] ["value"] (defScope sIsWhole) := ⟨rfl, rfl, rfl, by decide +kernel, rfl, by decide +kernel, by decide +kernel⟩
theorem r_is_whole (A : FnAt K mg "is_whole" sIsWhole) (m_isinstance : mg "isinstance" = none) (m_int : mg "int" = none) (m_bool : mg "bool" = none) : Ready P w K mg base 1 "is_whole" ["value"] (spWhole K Option.isSome) := by
  refine ready_of A (fun _ _ _ _ _ _ us hl => match us, hl with | [_], _ => rfl) fun f fd F => ?_
  refine F.ok scIsWhole (fun vs H Q E h => ?_) (fun cdv A outer s H vs Q E hr h => ?_)
  · obtain ⟨v, o, rfl, _⟩ := h
    rfl
  · obtain ⟨v, o, rfl, hw, q⟩ := h
    refine ⟨_, pss_one (ps_ret (pe_and (pe_callB call_isi (by rfl) m_isinstance (by decide +kernel) (pa_cons (pv 0) (pa_cons (pe_bltn (v := .ty "int") (by rfl) m_int (by decide +kernel) rfl) pa_nil))) (pe_one (pe_not (pe_callB call_isi (by rfl) m_isinstance (by decide +kernel) (pa_cons (pv 0) (pa_cons (pe_bltn (v := .ty "bool") (by rfl) m_bool (by decide +kernel) rfl) pa_nil))))))), ?_⟩
    cases hw with
    | int n =>
      refine ⟨_, rfl, _, _, .type "int", .type "int", true, rfl, ClsV.ty "int", .base (.int n), kit_ty (by decide +kernel), true, rfl, iteT ?_⟩
      exact ⟨_, rfl, _, _, .type "int", .type "bool", false, rfl, ClsV.ty "bool", .base (.int n), kit_ty (by decide +kernel), false, rfl, q⟩
    | bl b =>
      refine ⟨_, rfl, _, _, .type "bool", .type "int", true, rfl, ClsV.ty "int", .base (.bl b), kit_ty (by decide +kernel), true, rfl, iteT ?_⟩
      exact ⟨_, rfl, _, _, .type "bool", .type "bool", true, rfl, ClsV.ty "bool", .base (.bl b), kit_ty (by decide +kernel), true, rfl, q⟩
    | oth h k =>
      exact ⟨_, rfl, _, _, _, .type "int", false, rfl, ClsV.ty "int", h, k, false, rfl, iteF q⟩
def isSgnI (n : Int) : Bool := decide (32 ≤ n ∧ n ≤ 65535)
def isOctI (n : Int) : Bool := decide (0 ≤ n ∧ n ≤ 255)
theorem rng_b {a b c : Int} : (if decide (a ≤ b) = true then decide (b ≤ c) else false) = decide (a ≤ b ∧ b ≤ c) := by
  by_cases h1 : a ≤ b <;> by_cases h2 : b ≤ c <;> simp [h1, h2]
theorem scIsSaySign : FnScope ["value"] ["value"] (defScope sIsSaySign) := ⟨rfl, rfl, rfl, by decide +kernel, rfl, by decide +kernel, by decide +kernel⟩
theorem r_is_say_sign {y : Str} (A : FnAs K mg y "_is_sign" sIsSaySign) (RW : Ready P w K mg base 1 "is_whole" ["value"] (spWhole K Option.isSome)) {t1 t2 : Tok} (m_BLANK : mg "BLANK" = some (.int 32 t1)) (m_GREATEST_SIGN : mg "GREATEST_SIGN" = some (.int 65535 t2)) :
    Ready P w K mg base 2 y ["value"] (spWhole K fun o => o.any isSgnI) := by
  obtain ⟨f1, fd1, g1, k1, b1, G1⟩ := RW
  refine ready_as A (fun _ _ _ _ _ _ us hl => match us, hl with | [_], _ => rfl) fun f fd F => ?_
  refine F.ok scIsSaySign (fun vs H Q E h => ?_) (fun cdv A outer s H vs Q E hr h => ?_)
  · obtain ⟨v, o, rfl, _⟩ := h
    rfl
  · obtain ⟨v, o, rfl, hw, q⟩ := h
    refine ⟨_, pss_one (ps_ret (pe_and (pe_call G1 (hr.mono (by decide)) (by rfl) g1 k1 b1 .nil pass0 (pa_cons (pv 0) pa_nil)) (pe_one (pe_chain op_le op_le (pe_glob (v := .int 32) rfl m_BLANK ⟨_, rfl⟩) (pv 0) (pe_glob (v := .int 65535) rfl m_GREATEST_SIGN ⟨_, rfl⟩) (by with_unfolding_all rfl))))), ?_⟩
    refine ⟨_, rfl, v, o, rfl, hw, _, rfl, ?_⟩
    cases hw with
    | int n =>
      refine iteT ⟨_, rfl, _, _, rfl, rfl, _, rfl, ite2 (fun h => ⟨_, _, rfl, rfl, bl_to ?_ q⟩) (fun h => bl_to ?_ q)⟩
      · have h1 := of_decide_eq_true h
        show decide (n ≤ 65535) = decide (32 ≤ n ∧ n ≤ 65535)
        exact decide_eq_decide.mpr ⟨fun z => ⟨h1, z⟩, fun z => z.2⟩
      · show false = decide (32 ≤ n ∧ n ≤ 65535)
        exact (decide_eq_false fun z => h (decide_eq_true z.1)).symm
    | bl b => exact iteF q
    | oth h k => exact iteF q
theorem scIsOctet : FnScope ["value"] ["value"] (defScope sIsOctet) := ⟨rfl, rfl, rfl, by decide +kernel, rfl, by decide +kernel, by decide +kernel⟩
theorem r_is_octet (A : FnAt K mg "_is_octet" sIsOctet) (RW : Ready P w K mg base 1 "is_whole" ["value"] (spWhole K Option.isSome)) :
    Ready P w K mg base 2 "_is_octet" ["value"] (spWhole K fun o => o.any isOctI) := by
  obtain ⟨f1, fd1, g1, k1, b1, G1⟩ := RW
  refine ready_of A (fun _ _ _ _ _ _ us hl => match us, hl with | [_], _ => rfl) fun f fd F => ?_
  refine F.ok scIsOctet (fun vs H Q E h => ?_) (fun cdv A outer s H vs Q E hr h => ?_)
  · obtain ⟨v, o, rfl, _⟩ := h
    rfl
  · obtain ⟨v, o, rfl, hw, q⟩ := h
    refine ⟨_, pss_one (ps_ret (pe_and (pe_call G1 (hr.mono (by decide)) (by rfl) g1 k1 b1 .nil pass0 (pa_cons (pv 0) pa_nil)) (pe_one (pe_chain op_le op_le pe_int (pv 0) pe_int (by with_unfolding_all rfl))))), ?_⟩
    refine ⟨_, rfl, v, o, rfl, hw, _, rfl, ?_⟩
    cases hw with
    | int n =>
      refine iteT ⟨_, rfl, _, _, rfl, rfl, _, rfl, ite2 (fun h => ⟨_, _, rfl, rfl, bl_to ?_ q⟩) (fun h => bl_to ?_ q)⟩
      · have h1 := of_decide_eq_true h
        show decide (n ≤ 255) = decide (0 ≤ n ∧ n ≤ 255)
        exact decide_eq_decide.mpr ⟨fun z => ⟨h1, z⟩, fun z => z.2⟩
      · show false = decide (0 ≤ n ∧ n ≤ 255)
        exact (decide_eq_false fun z => h (decide_eq_true z.1)).symm
    | bl b => exact iteF q
    | oth h k => exact iteF q
/-- is a list all of whose things are such whole numbers; of a list told by what its things are, of no list, False -/
def spAll (K : PySem.W.Frag) (f : Option Int → Bool) : Sp := fun vs H Q _ => ∃ v, vs = [v] ∧
  ((∃ a xs os, v = .ref a ∧ H a = some (.lst xs) ∧ xs.length ≤ 10000 ∧ Paired (Whole K H) xs os ∧ ∀ H', Same H H' → Q (.bl (os.all f)) H') ∨
   (∃ t, TyX K H v t ∧ PySem.W.kitOne K t (.type "list") = some false ∧ Q (.bl false) H))
theorem paired_at {α β : Type} {R : α → β → Prop} : ∀ {xs : List α} {os : List β} {i : Nat} {x : α}, Paired R xs os → xs[i]? = some x → ∃ o, os[i]? = some o ∧ R x o
  | _, _, _, _, .nil, h => by simp at h
  | _, _, 0, _, .cons h _, e => by
    injection e with e
    subst e
    exact ⟨_, rfl, h⟩
  | _, _, i + 1, _, .cons _ t, e => paired_at (i := i) t e
theorem scIsOctets : FnScope ["value", "octet"] ["value"] (defScope sIsOctets) := ⟨rfl, rfl, rfl, by decide +kernel, rfl, by decide +kernel, by decide +kernel⟩
theorem r_is_octets (A : FnAt K mg "is_octets" sIsOctets) (RW : Ready P w K mg base 2 "_is_octet" ["value"] (spWhole K fun o => o.any isOctI)) (m_isinstance : mg "isinstance" = none) (m_list : mg "list" = none) (m_all : mg "all" = none) :
    Ready P w K mg base 3 "is_octets" ["value"] (spAll K fun o => o.any isOctI) := by
  obtain ⟨f1, fd1, g1, k1, b1, G1⟩ := RW
  refine ready_of A (fun _ _ _ _ _ _ us hl => match us, hl with | [_], _ => rfl) fun f fd F => ?_
  refine F.ok scIsOctets (fun vs H Q E h => ?_) (fun cdv A outer s H vs Q E hr h => ?_)
  · obtain ⟨v, rfl, _⟩ := h
    rfl
  · obtain ⟨v, rfl, h⟩ := h
    have sc := scIsOctets
    refine ⟨_, pss_one (ps_ret (pe_and (pe_callB call_isi (by rfl) m_isinstance (by decide +kernel) (pa_cons (pv 0) (pa_cons (pe_bltn (v := .ty "list") (by rfl) m_list (by decide +kernel) rfl) pa_nil))) (pe_one (pe_callB (cr_all rfl) (by rfl) m_all (by decide +kernel) (pa_cons (pe_lc (own := [("octet", 1)]) (g := gName 1) (tt := tYes) (by rfl) sc.nd (pi_list (pv 0)) (blkOk_by (own := [("octet", 1)]) (N := ["value", "octet"]) (sc := defScope sIsOctets) (by decide +kernel)) (fun _ _ _ _ _ => (pg_name (i := 1) sc.nd rfl (Or.inl rfl))) (fun _ _ _ _ _ => pts_nil) (fun _ _ _ _ _ => (pe_call G1 (hr.mono (by decide)) (by rfl) g1 k1 b1 .nil pass0 (pa_cons (pv 1) pa_nil)))) pa_nil))))), ?_⟩
    rcases h with ⟨a, xs, os, rfl, hH, hl, hp, q⟩ | ⟨t, ht, hk, q⟩
    · refine ⟨_, rfl, _, _, .type "list", .type "list", true, rfl, ClsV.ty "list", .base (.lst hH), kit_ty (by decide +kernel), true, rfl, iteT ?_⟩
      refine ⟨_, rfl, a, rfl, ⟨_, SqL.of hH⟩, fun D hD => ?_⟩
      have hDa : D ≠ a := fun e => by rw [e, hH] at hD; cases hD
      have hlen : xs.length = os.length := hp.length
      refine lc_it (walk_list (K := K) (a := a) (xs := xs)) (fun i H' => Same H H' ∧ H' D = some (.lst ((os.take i).map fun o => V.bl (o.any isOctI)))) ⟨same_new hD, upd_same⟩ (fun i H' _ p => SqL.of (p.1 _ _ hH)) (fun i x H1 H2 hi hp1 hy => ?_) (fun H1 hp1 => ?_)
      · obtain ⟨rfl, hx⟩ := hy
        obtain ⟨sm, hd⟩ := hp1
        obtain ⟨o, ho, hw⟩ := paired_at hp hx
        refine ⟨rfl, ?_⟩
        unfold tYes
        refine iteT ?_
        refine ⟨_, rfl, _, o, rfl, Whole.same sm hw, _, hd, ?_, same_set sm hD, ?_⟩
        · rw [List.length_map]
          exact Nat.lt_of_le_of_lt (List.length_take_le _ _) (szl (by omega))
        · rw [upd_same, take_more ho, List.map_append]
          rfl
      · obtain ⟨sm, hd⟩ := hp1
        have e : os.take xs.length = os := List.take_of_length_le (by omega)
        rw [e] at hd
        refine ⟨D, os.map fun o => o.any isOctI, rfl, SqL.of (by rw [List.map_map]; exact hd), bl_to ?_ (q H1 sm)⟩
        rw [List.all_map]
        rfl
    · exact ⟨_, rfl, _, _, t, .type "list", false, rfl, ClsV.ty "list", ht, hk, false, rfl, iteF q⟩
theorem whole_ints {K : PySem.W.Frag} {H : Hp} : ∀ l : List Nat, Paired (Whole K H) (iv l) (l.map fun n : Nat => some (n : Int))
  | [] => .nil
  | n :: r => .cons (.int _) (whole_ints r)
theorem all_oct {l : List Nat} (h : ∀ n ∈ l, n < 256) : (l.map fun n : Nat => some (n : Int)).all (fun o => o.any isOctI) = true := by
  rw [List.all_map]
  refine List.all_eq_true.mpr fun n hn => ?_
  have := h n hn
  show isOctI (n : Int) = true
  exact decide_eq_true (by omega)
theorem all_sgn {l : List Nat} (h : ∀ n ∈ l, 32 ≤ n ∧ n ≤ 65535) : (l.map fun n : Nat => some (n : Int)).all (fun o => o.any isSgnI) = true := by
  rw [List.all_map]
  refine List.all_eq_true.mpr fun n hn => ?_
  have := h n hn
  show isSgnI (n : Int) = true
  exact decide_eq_true (by omega)
end
end FL


namespace FL
open PySem PySem.Spec PyProof.Rows L2
/-! ### C(why), C an own exception class without an own __init__, its base's one sets no field -/
section
variable {X : Cx} {e : Expr} {es : List Expr} {ta : TA} {p pos : Pos}
theorem mk_endN {pins : List (Addr × Obj)} {σ : L2.St} {H1 H2 : Hp} {hp hp2 h2 : Heap} {g1 g2 : Array GenState} {d1 d2 : PySem.Drawn} {t1 t2 : Nat} {os1 os2 : OsState} {a C : Addr} (I1 : Inv X pins σ H1 ⟨hp, g1, d1, t1, os1⟩)
    (ha : hp.objs.size ≤ a) (k : ∀ b o, hp.get? b = some o → hp2.get? b = some o) (un : Un (frs X.stack) [] (upd H1 a (exo a C none)) H2 hp2 h2) (hok : HOk X.prog X.w H2 h2) (ho : os2 = os1) (hb : AllBare g2)
    (ea : H2 a = some (exo a C none)) :
    ∃ (t0 : Addr) (G : Heap), Inv X pins σ (del H2 a) ⟨G, g2, d2, t2, os2⟩ ∧ (∀ b o, G.get? b = some o → h2.get? b = some o) ∧ G.get? a = none ∧
      h2.get? a = some ({ cls := .ref C, dict := none, data := .fields #[.ref t0, .none, .none, .none, .bool false, .none] } : Obj) ∧ (del H2 a) a = none := by
  obtain ⟨t0, hoe⟩ := exo_at hok ea
  have hn : H1 a = none := I1.hok.fresh ha
  obtain ⟨G, g1', g2'⟩ := restrict h2 fun b => decide (b ≠ a)
  have gk : ∀ b, b ≠ a → G.get? b = h2.get? b := fun b hb => g1' b (decide_eq_true hb)
  have ge : G.get? a = none := g2' a (by simp)
  have nha : ∀ {b : Addr} {o : Obj}, hp.get? b = some o → b ≠ a := fun {b o} z => Nat.ne_of_lt (Nat.lt_of_lt_of_le (Heap.lt_size z) ha)
  have up : ∀ {b : Addr}, b ≠ a → H1 b = none → upd H1 a (exo a C none) b = none := fun {b} hb n => by rw [upd_ne hb]; exact n
  have U : Un (frs X.stack) [] H1 (del H2 a) hp G := {
    keep := fun b o z n hf hx => by
      rw [gk b (nha z)]
      exact un.keep b o (k b o z) (up (nha z) n) hf hx
    slot := fun b o z n hf hx => by
      rw [gk b (nha z)]
      exact un.slot b o (k b o z) (up (nha z) n) hf hx
    free := fun b o z n hx => by
      rw [del_ne (nha z)]
      exact un.free b o (k b o z) (up (nha z) n) hx
    there := fun b o z hx => by
      rw [gk b (nha z)]
      exact un.there b o (k b o z) hx
    tups := fun b xs z => by
      rw [del_ne (ne_of_none z hn)]
      exact un.tups b xs (by rw [upd_ne (ne_of_none z hn)]; exact z)
    frzs := fun b o v z => by
      rw [del_ne (ne_of_none z hn)]
      exact un.frzs b o v (by rw [upd_ne (ne_of_none z hn)]; exact z)
    tbls := fun b ps z => by
      rw [del_ne (ne_of_none z hn)]
      exact un.tbls b ps (by rw [upd_ne (ne_of_none z hn)]; exact z) }
  have hok3 : HOk X.prog X.w (del H2 a) G := fun b o z => by
    have hba : b ≠ a := fun e => by
      rw [e, del_same] at z
      cases z
    rw [del_ne hba] at z
    have noa : ∀ {c : Addr}, H2 c = some (.own b) → c ≠ a := fun {c} hc => at_ne ea hc exo_own
    exact (hok b o z).stay (fun c v hc y => by
        have hca : c ≠ a := by
          rcases hc with hc | hc
          · rw [hc]
            exact hba
          · exact noa hc
        rw [gk c hca]
        exact y)
      (fun c hc => by rw [del_ne (noa hc)]; exact hc) (fun c xs hc => by rw [del_ne (at_ne ea hc exo_tup)]; exact hc)
  have J : Inv X pins σ (del H2 a) ⟨G, g2, d2, t2, os2⟩ := I1.call' (ch := []) ho U hok3 hb (fun b z => absurd z (by simp))
  refine ⟨t0, G, J, fun b o z => ?_, ge, hoe, del_same⟩
  by_cases hba : b = a
  · rw [hba, ge] at z
    cases z
  · exact (gk b hba).symm.trans z
/-- what a raise of such a C(..) asks -/
structure MkN (P : Program) (w : World) (K : PySem.W.Frag) (mg : Str → Option Value) (base : Heap) (x : Str) (C : Addr) : Prop where
  T : OexC K C
  g : mg x = some (.ref C)
  init : ∃ fI fd, PySem.W.findIn K (.ref C) "__init__" = some (some (.ref fI)) ∧ PySem.W.typeIn K (.ref fI) = some (.type "function") ∧ FnOk P w K mg base CX0 1 fI fd ["self", "why"] (spLE K) ∧ ∃ ds, Vals [] ds ∧ Binds K fd ["self", "why"] ds
theorem del_upd {H : Hp} {a : Addr} {o : HO} (h : H a = none) : del (upd H a o) a = H := by
  funext b
  by_cases e : b = a
  · rw [e, del_same, h]
  · rw [del_ne e, upd_ne e]
theorem pmk_non {x : Str} {C : Addr} (M : MkN X.prog X.w X.K X.mg X.base x C) (hr : Room (1 + 1) X.A) (hg : Gl X x) (ha : PA X (e :: es) ta)
    (hdb : (x == ("__debug__" : Str)) = false := by decide) (he : starEach (e :: es) X.env = (false, eval e X.env) :: starEach es X.env := by rfl) (hpl : (backTo pos (starEach es X.env)).any (·.1) = false := by rfl) :
    PMk X (.Call (.Name x p) (e :: es) [] pos) (fun σ H Q => ta σ H fun vs H1 => (∃ v, vs = [v]) ∧ Q (.ref C) none H1) := by
  intro pins s σ H Q I h
  obtain ⟨T, hm, fI, fd, iC, tI, F1, ds, hd, hb⟩ := M
  obtain ⟨nm, q, N, bs, bm, sn, sub, ab, col, dd, k0, k1, k2, k3, k5, hC, hbm⟩ := T.cls
  refine wpAny_Call_Name_kw (ld_glob I hg hm ?_ hdb)
  refine PySem.W.callWith_K (h₀ := X.base) I.ok.mod.kin T.kC (thn (ha.run pos pins s σ H _ I h) fun us s1 ⟨vs, H1, I1, r1, ⟨w0, hz⟩, q1⟩ => ⟨I1.kIn, ?_⟩) he hpl
  subst hz
  show wpAny _ _ (call (.ref C) us) _ _ _
  obtain ⟨hp, g, dr, tk, os⟩ := s1
  have hsz : hp.objs.size ≤ hp.objs.size + 1 := Nat.le_succ _
  have hn : H1 (hp.objs.size + 1) = none := I1.hok.fresh hsz
  have kk : ∀ b o, hp.get? b = some o → ((hp.push (PySem.W.kdv_tup us)).push (PySem.HandSPX.excO C hp.objs.size)).get? b = some o := fun b o e => Heap.get?_push_of_some _ (Heap.get?_push_of_some _ e)
  have hget : ((hp.push (PySem.W.kdv_tup us)).push (PySem.HandSPX.excO C hp.objs.size)).get? (hp.objs.size + 1) = some (PySem.HandSPX.excO C hp.objs.size) := by heap_get
  have I2 : Inv X pins σ (upd H1 (hp.objs.size + 1) (exo (hp.objs.size + 1) C none)) ⟨(hp.push (PySem.W.kdv_tup us)).push (PySem.HandSPX.excO C hp.objs.size), g, dr, tk, os⟩ :=
    I1.laid (t' := tk) (a := hp.objs.size + 1) (o := exo (hp.objs.size + 1) C none) (h' := (hp.push (PySem.W.kdv_tup us)).push (PySem.HandSPX.excO C hp.objs.size)) kk hsz (exo_ok hget)
  have r2 : Vals (V.ref (hp.objs.size + 1) :: ([w0] ++ [])) (Value.ref (hp.objs.size + 1) :: (us ++ ds)) := .cons rfl (r1.append hd)
  have hq : spLE X.K [.ref (hp.objs.size + 1), w0] (upd H1 (hp.objs.size + 1) (exo (hp.objs.size + 1) C none)) (fun v H2 => v = .non ∧ H2 (hp.objs.size + 1) = some (exo (hp.objs.size + 1) C none) ∧ Q (.ref C) none (del H2 (hp.objs.size + 1))) (fun _ _ _ => False) :=
    ⟨_, C, w0, rfl, T, upd_same, rfl, upd_same, by rw [del_upd hn]; exact q1⟩
  have hl : (Value.ref (hp.objs.size + 1) :: us ++ ds).length = 2 := by
    exact r2.length.symm
  have hus : us.length ≤ sizeLine := by
    rw [← Paired.length r1, sizeLine_eq]
    show 1 ≤ _
    omega
  refine wpAny_call (PySem.HandSPX.call_own F.excBase_ValueError (fun Y => PySem.HandSPX.refsVE_contains Y bm hbm) (I1.kIn _ _ hC) (PySem.W.looks_findIn I1.kIn iC) (fun self => PySem.W.bind_fn I1.kIn self tI) hus
    (codeAny_mono (F1.run _ X.stack _ _ ⟨Value.ref (hp.objs.size + 1) :: us, []⟩ (Value.ref (hp.objs.size + 1) :: (us ++ ds)) _ _ (fun _ _ _ => False) (hr.make C us []) (I2.env0.make C us []) (hb _ (Value.ref (hp.objs.size + 1) :: us) I2.kIn hl) r2 hq) fun r s' hq' => ?_))
  cases r with
  | error er => exact pass0 pins σ _ _ er s' I2 hq'
  | ok fl =>
    cases fl with
    | ret u =>
      obtain ⟨v, H2, os2, bare2, un2, hok2, rv, ev, ea, q2⟩ := hq'
      subst ev
      obtain ⟨h2, g2, d2, t2, os'⟩ := s'
      obtain ⟨t0, G, J, kG, ge, hoe, na⟩ := mk_endN (d2 := d2) (t2 := t2) I1 hsz kk un2 hok2 os2 bare2 ea
      exact ⟨rv, _, _, _, ⟨G, g2, d2, t2, os'⟩, _, .ref C, none, rfl, J, kG, ge, hoe, ⟨rfl, rfl⟩, rfl, rfl, na, rfl, bare2, raises_own T.exC T.tyC, q2⟩
    | next => exact False.elim hq'
    | brk => exact False.elim hq'
    | cont => exact False.elim hq'
end
theorem pe_callN0 {X : Cx} {CX : CXT} {k : Nat} {f : Addr} {fd : FuncData} {ps ks : List Str} {sp : Sp} {E : XK} {x : Str} {p pos : Pos} {kws : List Keyword} {tk : TA} {g : List Value → List Value → List Value} {gV : List V → List V → List V}
    (F : FnOk X.prog X.w X.K X.mg X.base CX k f fd ps sp) (hr : Room k X.A) (hg : Gl X x) (hm : X.mg x = some (.ref f)) (hk : PySem.W.keepIn X.K (.ref f) = true) (hb : KBn X.K fd ps 0 ks g gV) (hx : Passes CX X E)
    (hkw : PK X kws tk) (hall : (backToKw pos (keywordEach kws X.env)).all (·.1.isSome) = true := by rfl) (hks : (backToKw pos (keywordEach kws X.env)).filterMap (·.1) = ks := by rfl)
    (hdb : (x == ("__debug__" : Str)) = false := by decide) (hpl : ((backTo pos (starEach [] X.env)).any (·.1) || (backToKw pos (keywordEach kws X.env)).any (·.1.isNone)) = false := by rfl) :
    PE X (.Call (.Name x p) [] kws pos) (fun σ H Q => tk σ H fun zs H1 => zs.length = ks.length ∧ sp (gV [] zs) H1 Q E) := by
  refine ⟨fun pins s σ H Q I h => ?_⟩
  refine wpAny_Call_Name_kw (ld_glob I hg hm ?_ hdb)
  refine PySem.W.callWith_KW0 (h₀ := X.base) I.ok.mod.kin hk hall (thn (hkw.run pos pins s σ H _ I h) fun ws s2 ⟨zs, H2, I2, rz, l2, q2⟩ => ⟨I2.kIn, ?_⟩) hpl
  rw [hks]
  exact run_fnN (us := []) (vs := []) F hr hb hx I2 .nil rz rfl l2 q2
def swp {α : Type} : List α → List α
  | [a, b] => [b, a]
  | l => l
section
variable {P : Program} {w : World} {K : PySem.W.Frag} {mg : Str → Option Value} {base : Heap}
/-- f(x=..): all by keywords, in the def's order -/
abbrev KBs (K : PySem.W.Frag) (fd : FuncData) (ps : List Str) := KBn K fd ps 0 ps (fun _ ws => ws) (fun _ zs => zs)
theorem kb_of {x : Str} {st : Stmt} {f : Addr} {fd : FuncData} {ps : List Str} (F : Fun K x x st f fd)
    (hk : ∀ (kV doc pm : Value) (an : Option Addr) (cdv ct : Value) (ws : List Value), ws.length = ps.length → bindArgs (PySem.W.fnOf x x (defArgs st) (defBody st) (defScope st) .none kV doc pm an cdv ct) ⟨[], ps.zip ws⟩ = pure (ps.zip ws)) : KBs K fd ps := by
  obtain ⟨oc, od, kV, doc, pm, an, cdv, ct, osl, rfl, lk, hcd⟩ := F.ex
  refine ⟨fun s us ws _ hu hw => ?_, fun _ r => r⟩
  match us, hu with
  | [], _ => exact .of_eq (hk _ _ _ _ _ _ ws hw)
/-- two by keywords, the other way round -/
abbrev KBr (K : PySem.W.Frag) (fd : FuncData) (p q : Str) := KBn K fd [p, q] 0 [q, p] (fun _ ws => swp ws) (fun _ zs => swp zs)
theorem kbr_of {x : Str} {st : Stmt} {f : Addr} {fd : FuncData} {p q : Str} (F : Fun K x x st f fd)
    (hk : ∀ (kV doc pm : Value) (an : Option Addr) (cdv ct : Value) (a b : Value), bindArgs (PySem.W.fnOf x x (defArgs st) (defBody st) (defScope st) .none kV doc pm an cdv ct) ⟨[], [(q, a), (p, b)]⟩ = pure [(p, b), (q, a)]) : KBr K fd p q := by
  obtain ⟨oc, od, kV, doc, pm, an, cdv, ct, osl, rfl, lk, hcd⟩ := F.ex
  refine ⟨fun s us ws _ hu hw => ?_, fun {vs us zs ws} _ r => ?_⟩
  · match us, ws, hu, hw with
    | [], [a, b], _, _ => exact .of_eq (hk _ _ _ _ _ _ a b)
  · cases r with
    | nil => exact .nil
    | cons r1 r2 =>
      cases r2 with
      | nil => exact .cons r1 .nil
      | cons r3 r4 =>
        cases r4 with
        | nil => exact .cons r3 (.cons r1 .nil)
        | cons r5 r6 => exact .cons r1 (.cons r3 (.cons r5 r6))
def ReadyKX (P : Program) (w : World) (K : PySem.W.Frag) (mg : Str → Option Value) (base : Heap) (k : Nat) (x : Str) (ps : List Str) (sp : Sp) (kb : FuncData → Prop) : Prop :=
  ∃ f fd, mg x = some (.ref f) ∧ PySem.W.keepIn K (.ref f) = true ∧ Binds K fd ps [] ∧ kb fd ∧ FnOk P w K mg base (L2.CX P w) k f fd ps sp
theorem ReadyKX.x {k : Nat} {x : Str} {ps : List Str} {sp : Sp} {kb : FuncData → Prop} (R : ReadyKX P w K mg base k x ps sp kb) : ReadyX P w K mg base k x ps sp :=
  let ⟨f, fd, g, kp, b, _, G⟩ := R
  ⟨f, fd, g, kp, b, G⟩
theorem readyKX_of {x : Str} {st : Stmt} {k : Nat} {ps : List Str} {sp : Sp} {kb : FuncData → Prop} (A : FnAt K mg x st)
    (hb : ∀ (kV doc pm : Value) (an : Option Addr) (cdv ct : Value) (us : List Value), us.length = ps.length → bindArgs (PySem.W.fnOf x x (defArgs st) (defBody st) (defScope st) .none kV doc pm an cdv ct) ⟨us, []⟩ = pure (ps.zip us))
    (hk : ∀ f fd, Fun K x x st f fd → kb fd)
    (ok : ∀ f fd, Fun K x x st f fd → FnOk P w K mg base (L2.CX P w) k f fd ps sp) : ReadyKX P w K mg base k x ps sp kb := by
  obtain ⟨f, fd, F, g⟩ := A.ex
  exact ⟨f, fd, g, F.kp, F.binds hb, hk f fd F, ok f fd F⟩
end
end FL


namespace FL
open PySem PySem.Spec PyProof.Rows L2
theorem fold_rep (c : Nat) : ∀ (n : Nat) (acc : Array Nat), ((List.replicate n #[c]).foldl (· ++ ·) acc).toList = acc.toList ++ List.replicate n c
  | 0, acc => by simp
  | n + 1, acc => by
    rw [List.replicate_succ, List.foldl_cons, fold_rep c n, List.replicate_succ, Array.toList_append]
    simp
theorem op_mulS {X : Cx} : OpR X (binaryOp .Mult) (fun x y H Q => ∃ (c k : Nat), x = .str ⟨#[c]⟩ ∧ y = .int (k : Nat) ∧ k ≤ 10000 ∧ Q (.str (mk (List.replicate k c))) H) := by
  intro pins s σ H x y v u Q I rx ry h
  obtain ⟨c, k, rfl, rfl, hk, q⟩ := h
  obtain ⟨t, rfl⟩ := rx
  obtain ⟨t', rfl⟩ := ry
  by_cases h0 : k = 0
  · subst h0
    exact PySem.P.mul_str_none (by decide) (by decide) ⟨.str (mk []), H, I.tok _, ⟨_, rfl⟩, q⟩
  · have hl1 : (⟨#[c]⟩ : Str).length = 1 := rfl
    refine PySem.P.mul_str ?_ ?_ ?_ ?_
    · rw [decide_eq_false (by omega : ¬ ((k : Int) < -(2 ^ 63))), decide_eq_false (by omega : ¬ ((k : Int) ≥ 2 ^ 63))]
      rfl
    · intro _ _
      rw [hl1]
      have : (1 : Int) ≤ (2 ^ 63 - 1) / (k : Int) := by
        refine (Int.le_ediv_iff_mul_le (by omega)).mpr ?_
        omega
      omega
    · intro _ _
      rw [hl1, Int.toNat_natCast, Nat.one_mul]
      exact decide_eq_false (Nat.not_lt.mpr (Nat.le_of_lt (szl hk)))
    · rw [if_neg (by omega : ¬ ((k : Int) < 1))]
      by_cases h1 : k = 1
      · subst h1
        rw [if_pos (by rfl)]
        exact ⟨.str (mk [c]), H, I, ⟨t, rfl⟩, q⟩
      · rw [if_neg (by rw [hl1]; simp; omega), Int.toNat_natCast]
        have e : (⟨(List.replicate k (⟨#[c]⟩ : Str).cps).foldl (· ++ ·) #[]⟩ : Str) = mk (List.replicate k c) := mk_eq (by
          show ((List.replicate k #[c]).foldl (· ++ ·) #[]).toList = _
          rw [fold_rep]
          rfl)
        rw [e]
        refine ⟨?_, .str (mk (List.replicate k c)), H, I.tok _, ⟨_, rfl⟩, q⟩
        rw [mk_len, List.length_replicate]
        exact Nat.le_of_lt (szl hk)
theorem drawn_newM {a p : Addr} {H H1 : Hp} {o : HO} (x : Drawn a H H1) (n : H1 p = none) : Drawn a H (upd H1 p o) := x.same (same_new n)
theorem Src.neM {H : Hp} {a q : Addr} (s : Src H a) (n : H q = none) : q ≠ a := fun e => by
  obtain ⟨x, y, z, h⟩ := s
  rw [e, h] at n
  cases n
/-- a thing drawn: its number is less than m -/
def spNextM : Sp := fun vs H Q _ => ∃ (a : Addr) (m : Nat), vs = [.ref a, .int (m : Nat)] ∧ 1 ≤ m ∧ m ≤ 100000 ∧ Src H a ∧ ∀ (r : Nat) H', r < m → Drawn a H H' → Q (.int (r : Nat)) H'
theorem pickM {p : V → Prop} {xs : List V} {r : Nat} (h : r < xs.length) (hp : ∀ v ∈ xs, p v) : ∃ v, atI xs (r : Int) = some v ∧ p v :=
  ⟨xs[r]'h, atI_nat (List.getElem?_eq_getElem h), hp _ (List.getElem_mem h)⟩
theorem kn {H : Hp} {q p : Addr} {o x : HO} (h : H q = some o) (n : H p = none) : upd H p x q = some o := by
  rw [upd_ne (ne_of_none h n)]
  exact h
theorem free_drawn {a p : Addr} {H H1 : Hp} (x : Drawn a H H1) (h : H1 p = none) : H p = none := by
  cases e : H p with
  | none => rfl
  | some o =>
    rw [x.old p o (x.src.neM h) e] at h
    cases h
section
variable {P : Program} {w : World} {K : PySem.W.Frag} {mg : Str → Option Value} {base : Heap}
theorem next_m (R : Ready P w K mg base 2 "_law_next" ["_law_source_here", "_law_many"] spNext) : Ready P w K mg base 2 "_law_next" ["_law_source_here", "_law_many"] spNextM := by
  obtain ⟨f, fd, g, k, b, G⟩ := R
  refine ⟨f, fd, g, k, b, G.imp fun vs H Q E h => ?_⟩
  obtain ⟨a, m, rfl, h1, h2, ⟨x, y, z, hs⟩, q⟩ := h
  exact ⟨a, m, x, y, z, rfl, h1, h2, hs, fun r x' z' hr => q r _ hr drawn_upd⟩
end
end FL


namespace FL
open PySem PySem.Spec PyProof.Rows L2
section
variable {P : Program} {w : World} {K : PySem.W.Frag} {mg : Str → Option Value} {base : Heap}
abbrev sNS : Stmt := inClass cNoSaying 0
theorem scNS : FnScope ["self", "why", "at"] ["self", "why", "at"] (defScope sNS) := ⟨rfl, rfl, rfl, by decide +kernel, rfl, by decide +kernel, by decide +kernel⟩
theorem ok_NS {C CL fL f : Addr} {fd fdL : FuncData} (F : FunA K "NoSaying.__init__" sNS [.int 0] f fd) (FL : FunA K "LetterError.__init__" sLE [.str ""] fL fdL) (TL : ClsFn K CL fL) (gL : mg "LetterError" = some (.ref CL)) (mV : mg "ValueError" = none)
    (vV : PySem.W.findCls K (.type "ValueError") (.type "type") "__init__" = some (.val (.builtin "ValueError.__init__"))) (T : OexC K C) (hno : PySem.W.findIn K (.ref C) "at" = some none) :
    FnOk P w K mg base CX0 2 f fd ["self", "why", "at"] (spFld C "at") := by
  have GL : FnOk P w K mg base CX0 1 fL fdL ["self", "why"] (spLE K) := ok_LE FL mV vV
  obtain ⟨ds, vds, bds⟩ := bind_LE FL
  refine FunD.ok F scNS (fun vs H Q E h => ?_) (fun cdv A outer s H vs Q E hr h => ?_)
  · obtain ⟨a, v, y, rfl, _⟩ := h
    rfl
  · obtain ⟨a, v, y, rfl, hH, q⟩ := h
    refine ⟨_, pss_cons (ps_expr (pe_cinit TL GL hr (by rfl) gL bds vds pass0 (pa_cons (pv 0) (pa_cons (pv 1) pa_nil)))) (pss_one (ps_ost (pv 0) (pv 2))), ?_⟩
    refine ⟨_, rfl, _, rfl, a, C, v, rfl, T, hH, ?_⟩
    exact ⟨_, rfl, _, rfl, a, C, rfl, T, hno, .inl ⟨hH, fun dx n1 n2 => q dx n1 n2⟩⟩
theorem mk_NS {C CL fL f : Addr} {fd fdL : FuncData} (F : FunA K "NoSaying.__init__" sNS [.int 0] f fd) (FL : FunA K "LetterError.__init__" sLE [.str ""] fL fdL) (TL : ClsFn K CL fL) (gL : mg "LetterError" = some (.ref CL)) (mV : mg "ValueError" = none)
    (vV : PySem.W.findCls K (.type "ValueError") (.type "type") "__init__" = some (.val (.builtin "ValueError.__init__"))) (T : OexC K C) (hno : PySem.W.findIn K (.ref C) "at" = some none) (g : mg "NoSaying" = some (.ref C))
    (iC : PySem.W.findIn K (.ref C) "__init__" = some (some (.ref f))) (tI : PySem.W.typeIn K (.ref f) = some (.type "function")) : MkFld P w K mg base "NoSaying" C "at" :=
  ⟨T, g, f, fd, iC, tI, ok_NS F FL TL gL mV vV T hno,
    FunD.binds1 (ps := ["self", "why", "at"]) F 3 1 (by simp) rfl fun T kV doc pm an cdv ct us its hu hi => match us, its, hu, hi with | [_, _, _], [_], _, _ => ⟨_, rfl, rfl⟩,
    FunD.binds1 (ps := ["self", "why", "at"]) F 2 0 (by simp) rfl fun T kV doc pm an cdv ct us its hu hi => match us, its, hu, hi with | [_, _], [_], _, _ => ⟨_, rfl, rfl⟩⟩
end
end FL


namespace FL
open PySem PySem.Spec PyProof.Rows L2
section
variable {P : Program} {w : World} {K : PySem.W.Frag} {mg : Str → Option Value} {base : Heap}
abbrev sNC : Stmt := inClass cNoCode 0
theorem scNC : FnScope ["self", "why", "at"] ["self", "why", "at"] (defScope sNC) := ⟨rfl, rfl, rfl, by decide +kernel, rfl, by decide +kernel, by decide +kernel⟩
theorem ok_NC {C CL fL f : Addr} {fd fdL : FuncData} (F : FunA K "NoCode.__init__" sNC [.int 0] f fd) (FL : FunA K "LetterError.__init__" sLE [.str ""] fL fdL) (TL : ClsFn K CL fL) (gL : mg "LetterError" = some (.ref CL)) (mV : mg "ValueError" = none)
    (vV : PySem.W.findCls K (.type "ValueError") (.type "type") "__init__" = some (.val (.builtin "ValueError.__init__"))) (T : OexC K C) (hno : PySem.W.findIn K (.ref C) "at" = some none) :
    FnOk P w K mg base CX0 2 f fd ["self", "why", "at"] (spFld C "at") := by
  have GL : FnOk P w K mg base CX0 1 fL fdL ["self", "why"] (spLE K) := ok_LE FL mV vV
  obtain ⟨ds, vds, bds⟩ := bind_LE FL
  refine FunD.ok F scNC (fun vs H Q E h => ?_) (fun cdv A outer s H vs Q E hr h => ?_)
  · obtain ⟨a, v, y, rfl, _⟩ := h
    rfl
  · obtain ⟨a, v, y, rfl, hH, q⟩ := h
    refine ⟨_, pss_cons (ps_expr (pe_cinit TL GL hr (by rfl) gL bds vds pass0 (pa_cons (pv 0) (pa_cons (pv 1) pa_nil)))) (pss_one (ps_ost (pv 0) (pv 2))), ?_⟩
    refine ⟨_, rfl, _, rfl, a, C, v, rfl, T, hH, ?_⟩
    exact ⟨_, rfl, _, rfl, a, C, rfl, T, hno, .inl ⟨hH, fun dx n1 n2 => q dx n1 n2⟩⟩
theorem mk_NC {C CL fL f : Addr} {fd fdL : FuncData} (F : FunA K "NoCode.__init__" sNC [.int 0] f fd) (FL : FunA K "LetterError.__init__" sLE [.str ""] fL fdL) (TL : ClsFn K CL fL) (gL : mg "LetterError" = some (.ref CL)) (mV : mg "ValueError" = none)
    (vV : PySem.W.findCls K (.type "ValueError") (.type "type") "__init__" = some (.val (.builtin "ValueError.__init__"))) (T : OexC K C) (hno : PySem.W.findIn K (.ref C) "at" = some none) (g : mg "NoCode" = some (.ref C))
    (iC : PySem.W.findIn K (.ref C) "__init__" = some (some (.ref f))) (tI : PySem.W.typeIn K (.ref f) = some (.type "function")) : MkFld P w K mg base "NoCode" C "at" :=
  ⟨T, g, f, fd, iC, tI, ok_NC F FL TL gL mV vV T hno,
    FunD.binds1 (ps := ["self", "why", "at"]) F 3 1 (by simp) rfl fun T kV doc pm an cdv ct us its hu hi => match us, its, hu, hi with | [_, _, _], [_], _, _ => ⟨_, rfl, rfl⟩,
    FunD.binds1 (ps := ["self", "why", "at"]) F 2 0 (by simp) rfl fun T kV doc pm an cdv ct us its hu hi => match us, its, hu, hi with | [_, _], [_], _, _ => ⟨_, rfl, rfl⟩⟩
end
end FL


namespace FL
open PySem PySem.Spec PyProof.Rows L2
/-! ### numbers by a format -/
section
open Builtin Builtin.Str Builtin.Int Builtin.Float
/-- the codes of a number's figures -/
def dgs (b : Nat) (f : Char → Char) (n : Nat) : List Nat := (Nat.toDigits b n).map fun c => (f c).toNat
/-- s the sign, D the figures, filled up by 0 to w -/
def fld (w : Nat) (s D : List Nat) : List Nat :=
  let ds := if D.isEmpty then [] else List.replicate (((w : Int) - ((s.length : Int) + ((0 : Nat) : Int) + ((0 : Nat) : Int))).toNat - D.length) 48 ++ D
  List.replicate 0 48 ++ s ++ [] ++ List.replicate ((w : Int) - ((s.length : Int) + ((0 : Nat) : Int) + ((0 : Nat) : Int)) - (ds.length : Int)).toNat 48 ++ ds ++ [] ++ List.replicate 0 48
theorem fld_of {w : Nat} {D : List Nat} (h : D ≠ []) : fld w [] D = List.replicate (w - D.length) 48 ++ D := by
  unfold fld
  have h1 : D.isEmpty = false := by cases D with
    | nil => exact absurd rfl h
    | cons a r => rfl
  simp only [h1, List.length_nil, Bool.false_eq_true, if_false, List.replicate_zero, List.nil_append, List.append_nil]
  have h2 : (((w : Int) - (((0 : Nat) : Int) + ((0 : Nat) : Int) + ((0 : Nat) : Int))).toNat) = w := by omega
  rw [h2]
  have h3 : ((w : Int) - (((0 : Nat) : Int) + ((0 : Nat) : Int) + ((0 : Nat) : Int)) - ((List.replicate (w - D.length) 48 ++ D).length : Int)).toNat = 0 := by
    rw [List.length_append, List.length_replicate]
    omega
  rw [h3]
  rfl
theorem neg_no (n : Nat) : (if decide ((n : Int) < 0) = true then [45] else ([] : List Nat)) = [] := if_neg (by rw [decide_eq_false (by omega : ¬ (n : Int) < 0)]; exact Bool.false_ne_true)
theorem small_log {n : Nat} (h : n < 10000) : (n : Int).natAbs.log2 < 1920 := by
  rw [Int.natAbs_natCast]
  by_cases h0 : n = 0
  · subst h0; decide
  · have h1 : n.log2 < 14 := (Nat.log2_lt h0).mpr (Nat.lt_of_lt_of_le h (by decide))
    omega
theorem dgs_lt {b n : Nat} {f : Char → Char} (h : n < b) : dgs b f n = [(f n.digitChar).toNat] := by
  unfold dgs
  rw [Nat.toDigits_of_lt_base h]
  rfl
theorem dgs_ge {b n : Nat} {f : Char → Char} (h1 : 1 < b) (h : b ≤ n) : dgs b f n = dgs b f (n / b) ++ [(f (n % b).digitChar).toNat] := by
  unfold dgs
  rw [Nat.toDigits_of_base_le h1 h, List.map_append]
  rfl
theorem dig10 : ∀ k, k < 10 → (id k.digitChar).toNat = 48 + k := by decide
def hexd (k : Nat) : Nat := if k < 10 then 48 + k else 55 + k
theorem dig16 : ∀ k, k < 16 → (k.digitChar.toUpper).toNat = hexd k := by decide +kernel
def hex2 (n : Nat) : List Nat := [hexd (n / 16), hexd (n % 16)]
def dec2 (n : Nat) : List Nat := [48 + n / 10, 48 + n % 10]
def dec4 (n : Nat) : List Nat := [48 + n / 1000, 48 + n / 100 % 10, 48 + n / 10 % 10, 48 + n % 10]
/-- without a 0 ahead -/
def decs (n : Nat) : List Nat := if n < 10 then [48 + n] else if n < 100 then [48 + n / 10, 48 + n % 10] else if n < 1000 then [48 + n / 100, 48 + n / 10 % 10, 48 + n % 10] else dec4 n
theorem dgs10 {n : Nat} (h : n < 10000) : dgs 10 id n = decs n := by
  unfold decs
  split
  · rename_i h1
    rw [dgs_lt h1, dig10 n h1]
  · split
    · rename_i h1 h2
      rw [dgs_ge (by decide) (by omega), dgs_lt (by omega), dig10 _ (by omega), dig10 _ (by omega)]
      rfl
    · split
      · rename_i h1 h2 h3
        rw [dgs_ge (by decide) (by omega), dgs_ge (by decide) (by omega), dgs_lt (by omega), dig10 _ (by omega), dig10 _ (by omega), dig10 _ (by omega), Nat.div_div_eq_div_mul]
        rfl
      · rw [dgs_ge (by decide) (by omega), dgs_ge (by decide) (by omega), dgs_ge (by decide) (by omega), dgs_lt (by omega), dig10 _ (by omega), dig10 _ (by omega), dig10 _ (by omega), dig10 _ (by omega)]
        unfold dec4
        rw [show n / 1000 = n / 10 / 10 / 10 by omega, show n / 100 % 10 = n / 10 / 10 % 10 by omega]
        rfl
theorem fld2 {n : Nat} (h : n < 100) : fld 2 (if decide ((n : Int) < 0) = true then [45] else []) (dgs 10 id n) = dec2 n := by
  rw [neg_no, dgs10 (by omega)]
  unfold decs dec2
  split
  · rename_i h1
    rw [fld_of (by simp), show n / 10 = 0 by omega, show n % 10 = n by omega]
    rfl
  · rw [fld_of (by simp)]
    rfl
theorem fld4 {n : Nat} (h : n < 10000) : fld 4 (if decide ((n : Int) < 0) = true then [45] else []) (dgs 10 id n) = dec4 n := by
  rw [neg_no, dgs10 h]
  unfold decs
  split
  · rw [fld_of (by simp)]
    unfold dec4
    rw [show n / 1000 = 0 by omega, show n / 100 % 10 = 0 by omega, show n / 10 % 10 = 0 by omega, show n % 10 = n by omega]
    rfl
  · split
    · rw [fld_of (by simp)]
      unfold dec4
      rw [show n / 1000 = 0 by omega, show n / 100 % 10 = 0 by omega, show n / 10 % 10 = n / 10 by omega]
      rfl
    · split
      · rw [fld_of (by simp)]
        unfold dec4
        rw [show n / 1000 = 0 by omega, show n / 100 % 10 = n / 100 by omega]
        rfl
      · rw [fld_of (by simp [dec4])]
        rfl
theorem fldX {n : Nat} (h : n < 256) : fld 2 (if decide ((n : Int) < 0) = true then [45] else []) (dgs 16 Char.toUpper n) = hex2 n := by
  rw [neg_no]
  unfold hex2
  by_cases h1 : n < 16
  · rw [dgs_lt h1, dig16 n h1, fld_of (by simp), show n / 16 = 0 by omega, show n % 16 = n by omega]
    rfl
  · rw [dgs_ge (by decide) (by omega), dgs_lt (by omega), dig16 _ (by omega), dig16 _ (by omega), fld_of (by simp)]
    rfl
theorem fmt_X (t u : Tok) (n : Nat) : Gives («int.__format__» ⟨[.int (n : Int) t, .str "02X" u], []⟩) (.str ⟨(fld 2 (if decide ((n : Int) < 0) = true then [45] else []) (dgs 16 Char.toUpper n)).toArray⟩) := by
  exact .of_eq rfl
theorem fmt_02d (t u : Tok) (n : Nat) (h : (n : Int).natAbs.log2 < 1920) : Gives («int.__format__» ⟨[.int (n : Int) t, .str "02d" u], []⟩) (.str ⟨(fld 2 (if decide ((n : Int) < 0) = true then [45] else []) (dgs 10 id n)).toArray⟩) := by
  refine (show Gives (Bind.bind (overDigitLimit? (n : Int)) _) _ from ?_)
  rw [PySem.overDigitLimit_small h]
  exact .of_eq rfl
theorem fmt_04d (t u : Tok) (n : Nat) (h : (n : Int).natAbs.log2 < 1920) : Gives («int.__format__» ⟨[.int (n : Int) t, .str "04d" u], []⟩) (.str ⟨(fld 4 (if decide ((n : Int) < 0) = true then [45] else []) (dgs 10 id n)).toArray⟩) := by
  refine (show Gives (Bind.bind (overDigitLimit? (n : Int)) _) _ from ?_)
  rw [PySem.overDigitLimit_small h]
  exact .of_eq rfl
end
section
variable {X : Cx} {e : Expr} {te : TE} {k : Nat} {p1 p2 pos : Pos}
/-- {e:sp}, e a whole number from 0 on below b -/
def tFmtS (f : Nat → List Nat) (b : Nat) (te : TE) : TE := fun σ H Q => te σ H fun x H1 => ∃ n : Nat, x = .int (n : Int) ∧ n < b ∧ Q (.str (mk (f n))) H1
theorem pe_fmtS {sp : Str} {f : Nat → List Nat} {b : Nat} (hne : (sp.length == 0) = false) (hsz : sp.length ≤ sizeLine) (hf : ∀ n, n < b → (f n).length ≤ 100)
    (g : ∀ (t u : Tok) (n : Nat), n < b → Gives (Builtin.«int.__format__» ⟨[.int (n : Int) t, .str sp u], []⟩) (.str (mk (f n)))) (he : PE X e te) :
    PE X (.FormattedValue e (-1) (some (.JoinedStr [.Constant (.str sp) k p1] p2)) pos) (tFmtS f b te) := by
  refine ⟨fun pins s σ H Q I h => ?_⟩
  refine wpAny_FormattedValue_spec (thn (he.run pins s σ H _ I h) fun v s1 hv => ?_)
  obtain ⟨x, H1, I1, r1, n, rfl, hn, q⟩ := hv
  obtain ⟨t, rfl⟩ := r1
  refine thn ((pe_joined1 pe_str).run pins s1 σ H1 (fun y H2 => y = .str sp ∧ H2 = H1) I1 ⟨rfl, rfl⟩) fun r s2 hr => ?_
  obtain ⟨y, H2, I2, r2, rfl, rfl⟩ := hr
  obtain ⟨u, rfl⟩ := r2
  refine ⟨sp, u, rfl, ?_⟩
  refine wpAny_formatField_spec hne (fun s' => typeIs_int s' _ t) F.slot_int_format F.entry_int_format (fun a b => F.args_int_format_2 a b) (fun u => g t u n hn) ⟨.str (mk (f n)), _, I2.tok _, ⟨_, rfl⟩, q⟩ hsz ?_
  rw [mk_len]
  exact Nat.le_of_lt (szl (by have := hf n hn; omega))
theorem pe_fmtX (he : PE X e te) : PE X (.FormattedValue e (-1) (some (.JoinedStr [.Constant (.str "02X") k p1] p2)) pos) (tFmtS hex2 256 te) :=
  pe_fmtS (by decide +kernel) (by decide +kernel) (fun _ _ => by simp [hex2]) (fun t u n hn => by have := fmt_X t u n; rw [fldX hn] at this; exact this) he
theorem pe_fmt2 (he : PE X e te) : PE X (.FormattedValue e (-1) (some (.JoinedStr [.Constant (.str "02d") k p1] p2)) pos) (tFmtS dec2 100 te) :=
  pe_fmtS (by decide +kernel) (by decide +kernel) (fun _ _ => by simp [dec2]) (fun t u n hn => by have := fmt_02d t u n (small_log (by omega)); rw [fld2 hn] at this; exact this) he
theorem pe_fmt4 (he : PE X e te) : PE X (.FormattedValue e (-1) (some (.JoinedStr [.Constant (.str "04d") k p1] p2)) pos) (tFmtS dec4 10000 te) :=
  pe_fmtS (by decide +kernel) (by decide +kernel) (fun _ _ => by simp [dec4]) (fun t u n hn => by have := fmt_04d t u n (small_log hn); rw [fld4 hn] at this; exact this) he
/-- str(n) -/
theorem toString_codes {n : Nat} (h : n < 10000) : ((toString (n : Int) : String) : Str) = mk (decs n) := by
  refine mk_eq ?_
  rw [← dgs10 h]
  exact TL.tl_num n
end
end FL


namespace FL
open PySem PySem.Spec PyProof.Rows L2
/-! ### sixes -/
def SIXS : Str := "ABCDEFGHIJKLMNOPQRSTUVWXYZabcdefghijklmnopqrstuvwxyz0123456789+/"
def six (n : Nat) : Nat := SIXS.cps.getD n 0
theorem six_at : ∀ n, n < 64 → SIXS.cps[n]? = some (six n) := by decide +kernel
theorem six_len : SIXS.length = 64 := by decide +kernel
def four : List Nat → List Nat
  | [a] => [six (a / 4), six (a % 4 * 16), 61, 61]
  | [a, b] => [six (a / 4), six (a % 4 * 16 + b / 16), six (b % 16 * 4), 61]
  | [a, b, c] => [six (a / 4), six (a % 4 * 16 + b / 16), six (b % 16 * 4 + c / 64), six (c % 64)]
  | _ => []
def sixC : List Nat → List Nat
  | [] => []
  | [a] => four [a]
  | [a, b] => four [a, b]
  | a :: b :: c :: r => four [a, b, c] ++ sixC r
theorem four_len {l : List Nat} (h1 : 1 ≤ l.length) (h2 : l.length ≤ 3) : (four l).length = 4 := by
  match l, h1, h2 with
  | [_], _, _ => rfl
  | [_, _], _, _ => rfl
  | [_, _, _], _, _ => rfl
theorem sixC_step {l : List Nat} (h : l ≠ []) : sixC l = four (l.take 3) ++ sixC (l.drop 3) := by
  match l, h with
  | [_], _ => rfl
  | [_, _], _ => rfl
  | [a, b, c], _ => rfl
  | a :: b :: c :: d :: r, _ => rfl
theorem e61 : ("=" : Str) = mk [61] := by decide +kernel
theorem szX {l : List Nat} (h : l.length ≤ 10000) : (mk l).length ≤ sizeLine := by rw [mk_len]; exact Nat.le_of_lt (szl h)
theorem catX {a b : Str} {l m : List Nat} (ha : a = mk l) (hb : b = mk m) : a ++ b = mk (l ++ m) := by rw [ha, hb, mk_app]
theorem szE {x : Str} {l : List Nat} (h : x = mk l) (hl : l.length ≤ 10000) : x.length ≤ sizeLine := by rw [h]; exact szX hl
theorem cut_toX (z : Str) {p : Nat} (h : p ≤ z.length) : (cutS z none (some (p : Nat))).cps.toList = z.cps.toList.take p := by
  unfold cutS
  rw [HT.sIx_none, HT.sIx_nat, Nat.min_eq_left h]
  show (List.take _ (List.drop 0 _)) = _
  rw [List.drop_zero, Nat.sub_zero]
section
variable {P : Program} {w : World} {K : PySem.W.Frag} {mg : Str → Option Value} {base : Heap}
def spFour : Sp := fun vs H Q _ => ∃ (a : Addr) (l : List Nat), vs = [.ref a] ∧ H a = some (.lst (iv l)) ∧ (∀ n ∈ l, n < 256) ∧ 1 ≤ l.length ∧ l.length ≤ 3 ∧ ∀ H', Same H H' → Q (.str (mk (four l))) H'
theorem scFourOf : FnScope ["octets", "missing", "first", "second", "third", "number", "four"] ["octets"] (defScope sFourOf) := ⟨rfl, rfl, rfl, by decide +kernel, rfl, by decide +kernel, by decide +kernel⟩
theorem r_four_of (A : FnAt K mg "_four_of" sFourOf) (m_len : mg "len" = none) {t1 : Tok} (m_SIXES : mg "SIXES" = some (.str SIXS t1)) : Ready P w K mg base 1 "_four_of" ["octets"] spFour := by
  refine ready_of A (fun _ _ _ _ _ _ us hl => match us, hl with | [_], _ => rfl) fun f fd F => ?_
  refine F.ok scFourOf (fun vs H Q E h => ?_) (fun cdv A outer s H vs Q E hr h => ?_)
  · obtain ⟨a, l, rfl, _⟩ := h
    rfl
  · obtain ⟨a, l, rfl, ha, hb, h1, h2, q⟩ := h
    have sc := scFourOf
    refine ⟨_, pss_cons (ps_set (i := 1) sc.nd rfl (.inl rfl) (pe_op op_sub pe_int (pe_callB call_len_seq (by rfl) m_len PySem.boot_len (pa_cons (pv 0) pa_nil))))
      (pss_cons (ps_asg (pe_op op_cat (pv 0) (pe_op op_rep (pe_lst (pa_cons pe_int pa_nil)) (pv 1))) (pg_lst rfl (pgs_cons (pg_name (i := 2) sc.nd rfl (.inl rfl)) (pgs_cons (pg_name (i := 3) sc.nd rfl (.inl rfl)) (pgs_cons (pg_name (i := 4) sc.nd rfl (.inl rfl)) pgs_nil)))))
      (pss_cons (ps_set (i := 5) sc.nd rfl (.inl rfl) (pe_op op_add (pe_op op_add (pe_op op_mul pe_int (pv 2)) (pe_op op_mul pe_int (pv 3))) (pv 4)))
      (pss_cons (ps_set (i := 6) sc.nd rfl (.inl rfl) (pe_op op_add_str (pe_op op_add_str (pe_op op_add_str (pe_item_str (pe_glob (v := .str SIXS) rfl m_SIXES ⟨_, rfl⟩) (pe_op op_fdiv (pv 5) pe_int) (fun _ _ => rfl)) (pe_item_str (pe_glob (v := .str SIXS) rfl m_SIXES ⟨_, rfl⟩) (pe_op op_mod (pe_op op_fdiv (pv 5) pe_int) pe_int) (fun _ _ => rfl))) (pe_item_str (pe_glob (v := .str SIXS) rfl m_SIXES ⟨_, rfl⟩) (pe_op op_mod (pe_op op_fdiv (pv 5) pe_int) pe_int) (fun _ _ => rfl))) (pe_item_str (pe_glob (v := .str SIXS) rfl m_SIXES ⟨_, rfl⟩) (pe_op op_mod (pv 5) pe_int) (fun _ _ => rfl))))
      (pss_one (ps_ret (pe_op op_add_str (pe_slice sl_str (pv 6) po_none (po_some (pe_op op_sub pe_int (pv 1)))) (pe_op op_mulS pe_str (pv 1)))))))), ?_⟩
    obtain ⟨x, y, z, hx, hy, hz, hpad, hfour⟩ : ∃ x y z : Nat, x < 256 ∧ y < 256 ∧ z < 256 ∧ l ++ List.replicate (3 - l.length) 0 = [x, y, z] ∧ four l = ([six (x / 4), six (x % 4 * 16 + y / 16), six (y % 16 * 4 + z / 64), six (z % 64)].take (4 - (3 - l.length))) ++ List.replicate (3 - l.length) 61 := by
      match l, h1, h2, hb with
      | [x], _, _, hb => exact ⟨x, 0, 0, hb x (by simp), by omega, by omega, rfl, rfl⟩
      | [x, y], _, _, hb => exact ⟨x, y, 0, hb x (by simp), hb y (by simp), by omega, rfl, rfl⟩
      | [x, y, z], _, _, hb => exact ⟨x, y, z, hb x (by simp), hb y (by simp), hb z (by simp), rfl, rfl⟩
    refine ⟨_, rfl, a, _, rfl, .inl (SqL.of ha), _, _, rfl, rfl, ?_⟩
    rw [iv_len]
    dsimp only
    obtain ⟨ms, hms⟩ : ∃ ms : Nat, ms = 3 - l.length := ⟨_, rfl⟩
    rw [show ((3 : Int) - ((l.length : Nat) : Int)) = ((ms : Nat) : Int) by omega]
    rw [← hms] at hpad hfour
    refine ⟨_, rfl, (by show 1 ≤ sizeLine; decide), fun p1 n1 => ?_⟩
    refine ⟨_, rfl, p1, (ms : Int), _, rfl, rfl, upd_same, by omega, by omega, by show 1 * (ms : Int).toNat ≤ sizeLine; rw [sizeLine_eq]; omega, fun p2 n2 => ?_⟩
    have erep : (List.replicate ((ms : Int)).toNat [V.int 0]).flatten = iv (List.replicate ms 0) := by
      rw [Int.toNat_natCast]
      clear hms hpad hfour
      induction ms with
      | zero => rfl
      | succ n ih =>
        rw [List.replicate_succ, List.flatten_cons, ih, List.replicate_succ]
        rfl
    rw [erep]
    refine ⟨a, p2, _, _, rfl, rfl, kn (kn ha n1) n2, upd_same, by rw [iv_len, iv_len, List.length_replicate, sizeLine_eq]; omega, fun p3 n3 => ?_⟩
    rw [← iv_app, hpad]
    refine ⟨p3, _, rfl, SqL.of upd_same, rfl, _, _, rfl, _, _, rfl, _, _, rfl, rfl, ?_⟩
    refine ⟨_, rfl, _, _, rfl, rfl, .inl ⟨by decide, by decide⟩, _, rfl, _, _, rfl, rfl, .inl ⟨by decide, by decide⟩, _, _, rfl, rfl, _, rfl, _, _, rfl, rfl, ?_⟩
    dsimp only
    obtain ⟨N, hN⟩ : ∃ N : Nat, N = 65536 * x + 256 * y + z := ⟨_, rfl⟩
    rw [show 65536 * (x : Int) + 256 * (y : Int) + (z : Int) = (N : Int) by omega]
    refine ⟨_, rfl, _, _, rfl, rfl, ⟨by decide, by decide⟩, ?_⟩
    dsimp only
    rw [show (N : Int) / 262144 = ((x / 4 : Nat) : Int) by omega]
    refine ⟨SIXS, _, six (x / 4), rfl, rfl, by omega, by omega, by rw [six_len]; omega, by rw [Int.toNat_natCast]; exact six_at _ (by omega), ?_⟩
    refine ⟨_, rfl, _, _, rfl, rfl, ⟨by decide, by decide⟩, _, _, rfl, rfl, (by show (0 : Int) < 64; decide), ?_⟩
    dsimp only
    rw [show (N : Int) / 4096 % 64 = ((x % 4 * 16 + y / 16 : Nat) : Int) by omega]
    refine ⟨SIXS, _, six (x % 4 * 16 + y / 16), rfl, rfl, by omega, by omega, by rw [six_len]; omega, by rw [Int.toNat_natCast]; exact six_at _ (by omega), ?_⟩
    have c1 := catX (rfl : mk [six (x / 4)] = _) (rfl : mk [six (x % 4 * 16 + y / 16)] = _)
    refine ⟨_, _, rfl, rfl, (by rw [← len_append]; exact szE c1 (by simp)), ?_⟩
    refine ⟨_, rfl, _, _, rfl, rfl, ⟨by decide, by decide⟩, _, _, rfl, rfl, (by show (0 : Int) < 64; decide), ?_⟩
    dsimp only
    rw [show (N : Int) / 64 % 64 = ((y % 16 * 4 + z / 64 : Nat) : Int) by omega]
    refine ⟨SIXS, _, six (y % 16 * 4 + z / 64), rfl, rfl, by omega, by omega, by rw [six_len]; omega, by rw [Int.toNat_natCast]; exact six_at _ (by omega), ?_⟩
    have c2 := catX c1 (rfl : mk [six (y % 16 * 4 + z / 64)] = _)
    refine ⟨_, _, rfl, rfl, (by rw [← len_append]; exact szE c2 (by simp)), ?_⟩
    refine ⟨_, rfl, _, _, rfl, rfl, (by show (0 : Int) < 64; decide), ?_⟩
    dsimp only
    rw [show (N : Int) % 64 = ((z % 64 : Nat) : Int) by omega]
    refine ⟨SIXS, _, six (z % 64), rfl, rfl, by omega, by omega, by rw [six_len]; omega, by rw [Int.toNat_natCast]; exact six_at _ (by omega), ?_⟩
    have c3 := catX c2 (rfl : mk [six (z % 64)] = _)
    refine ⟨_, _, rfl, rfl, (by rw [← len_append]; exact szE c3 (by simp)), ?_⟩
    have e4 : mk [six (x / 4)] ++ mk [six (x % 4 * 16 + y / 16)] ++ mk [six (y % 16 * 4 + z / 64)] ++ mk [six (z % 64)] = mk [six (x / 4), six (x % 4 * 16 + y / 16), six (y % 16 * 4 + z / 64), six (z % 64)] := c3
    refine ⟨_, rfl, _, rfl, _, _, rfl, rfl, _, rfl, mk [six (x / 4), six (x % 4 * 16 + y / 16), six (y % 16 * 4 + z / 64), six (z % 64)], congrArg V.str e4, szX (by simp), ?_⟩
    dsimp only
    have e5 : cutS (mk [six (x / 4), six (x % 4 * 16 + y / 16), six (y % 16 * 4 + z / 64), six (z % 64)]) none (some (4 - ((ms : Nat) : Int))) = mk ([six (x / 4), six (x % 4 * 16 + y / 16), six (y % 16 * 4 + z / 64), six (z % 64)].take (4 - ms)) := by
      refine mk_eq ?_
      rw [show (4 - ((ms : Nat) : Int)) = ((4 - ms : Nat) : Int) by omega, cut_toX _ (by rw [mk_len]; show 4 - ms ≤ 4; omega), mk_codes]
    rw [e5]
    refine ⟨_, rfl, 61, ms, ?_, rfl, by omega, ?_⟩
    · exact congrArg V.str e61
    have c6 := catX (rfl : mk ([six (x / 4), six (x % 4 * 16 + y / 16), six (y % 16 * 4 + z / 64), six (z % 64)].take (4 - ms)) = _) (rfl : mk (List.replicate ms 61) = _)
    refine ⟨_, _, rfl, rfl, (by rw [← len_append]; exact szE c6 (by simp; omega)), ?_⟩
    rw [c6, ← hfour]
    exact q _ ((same_new n1).trans ((same_new n2).trans (same_new n3)))
theorem size_up {L c : Nat} (h1 : 1 ≤ c) : Builtin.Range.rangeSize 0 (L : Int) (c : Nat) = (((L + c - 1) / c : Nat) : Int) := by
  unfold Builtin.Range.rangeSize
  rw [if_pos (by omega)]
  by_cases h0 : L = 0
  · subst h0
    rw [if_neg (by simp), show 0 + c - 1 = c - 1 by omega, Nat.div_eq_of_lt (by omega)]
    rfl
  · rw [if_pos (by omega)]
    have e : (L + c - 1) / c = (L - 1) / c + 1 := by
      rw [show L + c - 1 = L - 1 + c by omega, Nat.add_div_right _ (by omega)]
    rw [e]
    have : ((L : Int) - 0 - 1) = ((L - 1 : Nat) : Int) := by omega
    rw [this, ← Int.natCast_ediv]
    omega
theorem rg_up {L c : Nat} (h : L ≤ 100000) (h1 : 1 ≤ c) (h2 : c ≤ 1000) : RgC 0 (L : Int) (c : Nat) ((L + c - 1) / c) := by
  refine ⟨by omega, by omega, ?_, size_up h1⟩
  have hs : (L + c - 1) / c ≤ 101000 := Nat.le_trans (Nat.div_le_self _ _) (by omega)
  unfold Builtin.Range.small
  rw [size_up h1]
  generalize (L + c - 1) / c = n at hs
  simp only [Builtin.Range.rangeFitsLong, Bool.and_eq_true, Bool.or_eq_true, decide_eq_true_eq, beq_iff_eq]
  rw [if_pos (show ((c : Nat) : Int) > 0 by omega), Bool.and_eq_true, decide_eq_true_eq, decide_eq_true_eq]
  omega
def spSixes : Sp := fun vs H Q _ => ∃ (a : Addr) (l : List Nat), vs = [.ref a] ∧ H a = some (.lst (iv l)) ∧ (∀ n ∈ l, n < 256) ∧ l.length ≤ 9000 ∧ ∀ H', Same H H' → Q (.str (mk (sixC l))) H'
/-- the fours, one by one -/
def foursOf (l : List Nat) (k : Nat) : List (List Nat) := (List.range k).map fun i => four ((l.drop (3 * i)).take 3)
theorem fours_all : ∀ (k : Nat) (l : List Nat), k = (l.length + 2) / 3 → (foursOf l k).flatten = sixC l
  | 0, l, h => by
    have : l = [] := List.eq_nil_of_length_eq_zero (by omega)
    rw [this]
    rfl
  | k + 1, l, h => by
    have hl : l ≠ [] := fun e => by
      rw [e] at h
      simp at h
    rw [sixC_step hl, ← fours_all k (l.drop 3) (by rw [List.length_drop]; omega)]
    unfold foursOf
    rw [List.range_succ_eq_map, List.map_cons, List.flatten_cons, List.map_map]
    congr 2
    refine List.map_congr_left fun i _ => ?_
    show four ((l.drop (3 * (i + 1))).take 3) = four (((l.drop 3).drop (3 * i)).take 3)
    rw [List.drop_drop, show 3 + 3 * i = 3 * (i + 1) by omega]
theorem scSixesOf : FnScope ["octets", "begin"] ["octets"] (defScope sSixesOf) := ⟨rfl, rfl, rfl, by decide +kernel, rfl, by decide +kernel, by decide +kernel⟩
theorem r_sixes_of (A : FnAt K mg "sixes_of" sSixesOf) (R : Ready P w K mg base 1 "_four_of" ["octets"] spFour) (m_len : mg "len" = none) (m_range : mg "range" = none) : Ready P w K mg base 2 "sixes_of" ["octets"] spSixes := by
  obtain ⟨f1, fd1, g1, k1, b1, G1⟩ := R
  refine ready_of A (fun _ _ _ _ _ _ us hl => match us, hl with | [_], _ => rfl) fun f fd F => ?_
  refine F.ok scSixesOf (fun vs H Q E h => ?_) (fun cdv A outer s H vs Q E hr h => ?_)
  · obtain ⟨a, l, rfl, _⟩ := h
    rfl
  · obtain ⟨a, l, rfl, ha, hb, hl, q⟩ := h
    have sc := scSixesOf
    refine ⟨_, pss_one (ps_ret (pe_join pe_str (pe_lc (own := [("begin", 1)]) (g := gName 1) (tt := tYes) (te := tCall spFour [] E0 (tCons (tSl (rSlL K) (tVar 0) (tPart (tVar 1)) (tPart (tOp (rI0 fun i j => V.int (i + j)) (tVar 1) (tC (.int 3))))) tNil)) (by rfl) sc.nd (pi_range3 (by rfl) m_range (pa_cons pe_int (pa_cons (pe_callB call_len_seq (by rfl) m_len PySem.boot_len (pa_cons (pv 0) pa_nil)) (pa_cons pe_int pa_nil)))) (blkOk_by (own := [("begin", 1)]) (N := ["octets", "begin"]) (sc := defScope sSixesOf) (by decide +kernel)) (fun _ _ _ _ _ => (pg_name (i := 1) sc.nd rfl (.inl rfl))) (fun _ _ _ _ _ => pts_nil) (fun _ _ _ _ _ => by exact (pe_call G1 (hr.mono (by decide)) (by rfl) g1 k1 b1 .nil pass0 (pa_cons (pe_slice sl_list (pv 0) (po_some (pv 1)) (po_some (pe_op op_add (pv 1) pe_int))) pa_nil)))))), ?_⟩
    refine ⟨⟨_, rfl⟩, _, rfl, a, _, rfl, .inl (SqL.of ha), 0, ((l.length : Nat) : Int), 3, (l.length + 2) / 3, by rw [iv_len], rg_up (c := 3) (by omega) (by decide) (by decide), fun D hD => ?_⟩
    refine lc_it (walk_rangeC (lo := 0) (c := 3) (n := (l.length + 2) / 3)) (fun i H' => Same H H' ∧ H' D = some (.lst (((foursOf l i).map mk).map V.str))) ⟨same_new hD, upd_same⟩ (fun _ _ _ _ => trivial) (fun i x H2 H3 hi hp hy => ?_) (fun H2 hp => ?_)
    · obtain ⟨rfl, hx⟩ := hy
      obtain ⟨sm, hd⟩ := hp
      have hx' : x = .int ((3 * i : Nat) : Int) := by
        rw [hx]
        exact congrArg V.int (by omega)
      subst hx'
      refine ⟨rfl, ?_⟩
      unfold tYes
      refine iteT ?_
      refine ⟨_, rfl, _, rfl, _, rfl, _, rfl, _, _, rfl, rfl, _, rfl, a, _, rfl, SqL.of (sm _ _ ha), fun p n => ?_⟩
      dsimp only
      have ec : cutV (iv l) (some ((3 * i : Nat) : Int)) (some (((3 * i : Nat) : Int) + 3)) = iv ((l.drop (3 * i)).take 3) := by
        unfold cutV
        rw [show (((3 * i : Nat) : Int) + 3) = ((3 * i + 3 : Nat) : Int) by omega, HT.sIx_nat, HT.sIx_nat, iv_len, Nat.min_eq_left (show 3 * i ≤ l.length by omega)]
        unfold iv
        rw [← List.map_drop, ← List.map_take]
        congr 1
        by_cases h : 3 * i + 3 ≤ l.length
        · rw [Nat.min_eq_left h, show 3 * i + 3 - 3 * i = 3 by omega]
        · rw [Nat.min_eq_right (show l.length ≤ 3 * i + 3 by omega), List.take_of_length_le (by rw [List.length_drop]; omega), List.take_of_length_le (by rw [List.length_drop]; omega)]
      rw [ec]
      have hlen : ((l.drop (3 * i)).take 3).length = min 3 (l.length - 3 * i) := by rw [List.length_take, List.length_drop]
      refine ⟨p, _, rfl, upd_same, fun n hn => hb n (List.mem_of_mem_drop (List.mem_of_mem_take hn)), by omega, by omega, fun H4 s4 => ⟨_, s4 _ _ (kn hd n), ?_, same_set (sm.trans ((same_new n).trans s4)) hD, ?_⟩⟩
      · rw [List.length_map, List.length_map]
        unfold foursOf
        rw [List.length_map, List.length_range]
        exact szl (by omega)
      · rw [upd_same]
        unfold foursOf
        rw [List.range_succ, List.map_append, List.map_append, List.map_append]
        rfl
    · obtain ⟨sm, hd⟩ := hp
      have hf4 : ∀ p ∈ foursOf l ((l.length + 2) / 3), p.length = 4 := fun p hp => by
        obtain ⟨i, hi, rfl⟩ := List.mem_map.mp hp
        have hi := List.mem_range.mp hi
        refine four_len ?_ ?_ <;> (rw [List.length_take, List.length_drop]; omega)
      refine ⟨("" : Str), D, _, rfl, rfl, .inl (SqL.of hd), ?_, ?_⟩
      · have h1 : (((foursOf l ((l.length + 2) / 3)).map mk).map (·.length)).sum ≤ (foursOf l ((l.length + 2) / 3)).length * 4 := by
          generalize foursOf l ((l.length + 2) / 3) = ps at hf4
          induction ps with
          | nil => simp
          | cons p r ih =>
            have h1 := hf4 p (by simp)
            have h2 := ih fun x hx => hf4 x (List.mem_cons_of_mem _ hx)
            rw [List.map_cons, List.map_cons, List.sum_cons, mk_len, List.length_cons]
            omega
        have h2 : ("" : Str).length = 0 := by decide +kernel
        have h3 : (foursOf l ((l.length + 2) / 3)).length = (l.length + 2) / 3 := by
          unfold foursOf
          rw [List.length_map, List.length_range]
        rw [h2]
        rw [List.length_map]
        omega
      · have ej : Txt.join ("" : Str) ((foursOf l ((l.length + 2) / 3)).map mk) = mk (sixC l) := by
          rw [← fours_all _ l rfl]
          refine mk_eq ?_
          show TL.tl _ = _
          rw [TL.join_eq, TL.tl_join]
          have e : TL.tl ("" : Str) = [] := by decide +kernel
          rw [e, List.map_map]
          have e2 : (foursOf l ((l.length + 2) / 3)).map (TL.tl ∘ mk) = foursOf l ((l.length + 2) / 3) := (List.map_congr_left (fun p _ => mk_codes p)).trans (List.map_id _)
          rw [e2]
          generalize foursOf l ((l.length + 2) / 3) = ps
          clear e2 hf4 hd
          induction ps with
          | nil => rfl
          | cons p r ih =>
            cases r with
            | nil => simp [TL.joinL]
            | cons p2 r2 =>
              show p ++ ([] ++ TL.joinL [] (p2 :: r2)) = _
              rw [ih]
              rfl
        rw [ej]
        exact q _ sm
end
end FL


namespace FL
open PySem PySem.Spec PyProof.Rows L2
/-! ### texts of numbers, marks -/
def SIGS : Str := " !\"#$ &'()*+,-./0123456789:;<=>?@ABCDEFGHIJKLMNOPQRSTUVWXYZ[\\]^_`abcdefghijklmnopqrstuvwxyz{|}~"
theorem sigs_len : SIGS.length = 95 := by decide +kernel
theorem sigs_at : ∀ n, n < 95 → n ≠ 5 → SIGS.cps[n]? = some (n + 32) := by decide +kernel
def numb (n : Nat) : Bool := decide (32 ≤ n ∧ n < 127) && !decide (n = 37)
theorem numb_iff {n : Nat} : numb n = true ↔ 32 ≤ n ∧ n < 127 ∧ n ≠ 37 := by
  unfold numb
  simp only [Bool.and_eq_true, decide_eq_true_eq, Bool.not_eq_true', decide_eq_false_iff_not]
  omega
theorem join0 : ∀ ps : List (List Nat), Txt.join ("" : Str) (ps.map mk) = mk ps.flatten := by
  intro ps
  refine mk_eq ?_
  show TL.tl _ = _
  rw [TL.join_eq, TL.tl_join]
  have e : TL.tl ("" : Str) = [] := by decide +kernel
  rw [e, List.map_map]
  have e2 : ps.map (TL.tl ∘ mk) = ps := (List.map_congr_left (fun p _ => mk_codes p)).trans (List.map_id _)
  rw [e2]
  clear e2
  induction ps with
  | nil => rfl
  | cons p r ih =>
    cases r with
    | nil => simp [TL.joinL]
    | cons p2 r2 =>
      show p ++ ([] ++ TL.joinL [] (p2 :: r2)) = _
      rw [ih]
      rfl
theorem sum0 {ps : List (List Nat)} {n : Nat} (h : ∀ p ∈ ps, p.length ≤ n) : ((ps.map mk).map (·.length)).sum ≤ ps.length * n := by
  induction ps with
  | nil => simp
  | cons p r ih =>
    have h1 := h p (by simp)
    have h2 := ih fun x hx => h x (List.mem_cons_of_mem _ hx)
    rw [List.map_cons, List.map_cons, List.sum_cons, mk_len, List.length_cons, Nat.add_mul, Nat.one_mul]
    omega
def markC (n : Nat) : List Nat := if n = 32 then [95] else if numb n = true ∧ (isLet n || isFig n) = true then [n] else 61 :: hex2 n
theorem markC_len (n : Nat) : (markC n).length ≤ 3 := by
  unfold markC
  split
  · decide
  · split
    · show 1 ≤ 3
      omega
    · exact Nat.le_refl 3
section
variable {P : Program} {w : World} {K : PySem.W.Frag} {mg : Str → Option Value} {base : Heap}
def spNumb : Sp := fun vs H Q _ => ∃ n : Nat, vs = [.int (n : Nat)] ∧ Q (.bl (numb n)) H
theorem scIsNumbered : FnScope ["number"] ["number"] (defScope sIsNumbered) := ⟨rfl, rfl, rfl, by decide +kernel, rfl, by decide +kernel, by decide +kernel⟩
theorem r_is_numbered (A : FnAt K mg "is_numbered" sIsNumbered) (m_len : mg "len" = none) {t1 t2 t3 : Tok} (m_SIGNS : mg "SIGNS" = some (.str SIGS t1)) (m_BLANK : mg "BLANK" = some (.int 32 t2)) (m_PERCENT : mg "PERCENT" = some (.int 37 t3)) : Ready P w K mg base 1 "is_numbered" ["number"] spNumb := by
  refine ready_of A (fun _ _ _ _ _ _ us hl => match us, hl with | [_], _ => rfl) fun f fd F => ?_
  refine F.ok scIsNumbered (fun vs H Q E h => ?_) (fun cdv A outer s H vs Q E hr h => ?_)
  · obtain ⟨n, rfl, _⟩ := h
    rfl
  · obtain ⟨n, rfl, q⟩ := h
    have sc := scIsNumbered
    refine ⟨_, pss_one (ps_ret (pe_and (pe_chain op_le op_lt (pe_glob (v := .int 32) rfl m_BLANK ⟨_, rfl⟩) (pv 0) (pe_op op_add (pe_glob (v := .int 32) rfl m_BLANK ⟨_, rfl⟩) (pe_callB call_len_str (by rfl) m_len PySem.boot_len (pa_cons (pe_glob (v := .str SIGS) rfl m_SIGNS ⟨_, rfl⟩) pa_nil))) (by with_unfolding_all rfl)) (pe_one (pe_cmpR op_ne (pv 0) (pe_glob (v := .int 37) rfl m_PERCENT ⟨_, rfl⟩) (nomark _))))), ?_⟩
    refine ⟨_, rfl, _, _, rfl, rfl, _, rfl, ?_⟩
    have hf : ∀ b : Bool, numb n = b → Q (.bl b) H := fun b e => e ▸ q
    by_cases h1 : (32 : Int) ≤ (n : Nat)
    · rw [decide_eq_true h1]
      refine iteT ⟨_, rfl, by rw [sigs_len]; decide, _, _, rfl, rfl, _, _, rfl, rfl, _, rfl, ?_⟩
      rw [sigs_len]
      by_cases h2 : ((n : Nat) : Int) < 32 + ((95 : Nat) : Int)
      · rw [show decide (((n : Nat) : Int) < 32 + ((95 : Nat) : Int)) = true from decide_eq_true h2]
        refine iteT ⟨_, rfl, rfl, ?_⟩
        refine hf _ ?_
        by_cases h3 : n = 37
        · rw [decide_eq_true (show V.int ((n : Nat) : Int) = V.int 37 by rw [h3]; rfl), h3]
          rfl
        · rw [decide_eq_false (show ¬ V.int ((n : Nat) : Int) = V.int 37 from fun z => h3 (by have := V.int.inj z; omega))]
          exact numb_iff.mpr ⟨by omega, by omega, h3⟩
      · rw [show decide (((n : Nat) : Int) < 32 + ((95 : Nat) : Int)) = false from decide_eq_false h2]
        refine iteF (hf _ ?_)
        cases e : numb n with
        | false => rfl
        | true => have := numb_iff.mp e; omega
    · rw [decide_eq_false h1]
      refine iteF ⟨_, rfl, iteF (hf _ ?_)⟩
      cases e : numb n with
      | false => rfl
      | true => have := numb_iff.mp e; omega
def spSignN : Sp := fun vs H Q _ => ∃ n : Nat, vs = [.int (n : Nat)] ∧ (n = 10 ∨ numb n = true) ∧ Q (.str (mk [n])) H
theorem scSignOf : FnScope ["number"] ["number"] (defScope sSignOf) := ⟨rfl, rfl, rfl, by decide +kernel, rfl, by decide +kernel, by decide +kernel⟩
theorem r_sign_of (A : FnAt K mg "_sign_of" sSignOf) {t1 t2 t3 : Tok} (m_SIGNS : mg "SIGNS" = some (.str SIGS t1)) (m_BLANK : mg "BLANK" = some (.int 32 t2)) (m_LINE_FEED : mg "LINE_FEED" = some (.int 10 t3)) : Ready P w K mg base 1 "_sign_of" ["number"] spSignN := by
  refine ready_of A (fun _ _ _ _ _ _ us hl => match us, hl with | [_], _ => rfl) fun f fd F => ?_
  refine F.ok scSignOf (fun vs H Q E h => ?_) (fun cdv A outer s H vs Q E hr h => ?_)
  · obtain ⟨n, rfl, _⟩ := h
    rfl
  · obtain ⟨n, rfl, hn, q⟩ := h
    have sc := scSignOf
    refine ⟨_, pss_cons (ps_if (pt_cmpR op_eq (pv 0) (pe_glob (v := .int 10) rfl m_LINE_FEED ⟨_, rfl⟩) (nomark _))
        (pss_one (ps_ret pe_str))
        pss_nil)
      (pss_one (ps_ret (pe_item_str (pe_glob (v := .str SIGS) rfl m_SIGNS ⟨_, rfl⟩) (pe_op op_sub (pv 0) (pe_glob (v := .int 32) rfl m_BLANK ⟨_, rfl⟩)) (fun _ _ => rfl)))), ?_⟩
    refine ⟨_, rfl, rfl, _, rfl, ite2 (fun h => ?_) (fun h => ?_)⟩
    · have e : n = 10 := by have := V.int.inj (of_decide_eq_true h); omega
      have e10 : ("\n" : Str) = mk [10] := by decide +kernel
      show Q (.str ("\n" : Str)) H
      rw [e10, ← e]
      exact q
    · have hne : n ≠ 10 := fun z => h (decide_eq_true (by rw [z]; rfl))
      have hb := numb_iff.mp (hn.resolve_left hne)
      refine ⟨_, rfl, _, _, rfl, rfl, ?_⟩
      dsimp only
      rw [show ((n : Nat) : Int) - 32 = ((n - 32 : Nat) : Int) by omega]
      refine ⟨SIGS, _, n, rfl, rfl, by omega, by omega, by rw [sigs_len]; omega, ?_, q⟩
      rw [Int.toNat_natCast, sigs_at (n - 32) (by omega) (by omega), show n - 32 + 32 = n by omega]
def spTextN : Sp := fun vs H Q _ => ∃ (a : Addr) (l : List Nat), vs = [.ref a] ∧ H a = some (.lst (iv l)) ∧ (∀ n ∈ l, n = 10 ∨ numb n = true) ∧ l.length ≤ 9000 ∧ ∀ H', Same H H' → Q (.str (mk l)) H'
theorem scTextOf : FnScope ["numbers", "number"] ["numbers"] (defScope sTextOf) := ⟨rfl, rfl, rfl, by decide +kernel, rfl, by decide +kernel, by decide +kernel⟩
theorem r_text_of (A : FnAt K mg "text_of" sTextOf) (R : Ready P w K mg base 1 "_sign_of" ["number"] spSignN) : Ready P w K mg base 2 "text_of" ["numbers"] spTextN := by
  obtain ⟨f1, fd1, g1, k1, b1, G1⟩ := R
  refine ready_of A (fun _ _ _ _ _ _ us hl => match us, hl with | [_], _ => rfl) fun f fd F => ?_
  refine F.ok scTextOf (fun vs H Q E h => ?_) (fun cdv A outer s H vs Q E hr h => ?_)
  · obtain ⟨a, l, rfl, _⟩ := h
    rfl
  · obtain ⟨a, l, rfl, ha, hb, hl, q⟩ := h
    have sc := scTextOf
    refine ⟨_, pss_one (ps_ret (pe_join pe_str (pe_lc (own := [("number", 1)]) (g := gName 1) (tt := tYes) (by rfl) sc.nd (pi_list (pv 0)) (blkOk_by (own := [("number", 1)]) (N := ["numbers", "number"]) (sc := defScope sTextOf) (by decide +kernel)) (fun _ _ _ _ _ => (pg_name (i := 1) sc.nd rfl (.inl rfl))) (fun _ _ _ _ _ => pts_nil) (fun _ _ _ _ _ => (pe_call G1 (hr.mono (by decide)) (by rfl) g1 k1 b1 .nil pass0 (pa_cons (pv 1) pa_nil)))))), ?_⟩
    refine ⟨⟨_, rfl⟩, _, rfl, a, rfl, ⟨_, SqL.of ha⟩, fun D hD => ?_⟩
    refine lc_it (walk_list (K := K) (a := a) (xs := iv l)) (fun i H' => Same H H' ∧ H' D = some (.lst ((((l.take i).map fun n => [n]).map mk).map V.str))) ⟨same_new hD, upd_same⟩ (fun i H' _ p => SqL.of (p.1 _ _ ha)) (fun i x H2 H3 hi hp hy => ?_) (fun H2 hp => ?_)
    · obtain ⟨rfl, hx⟩ := hy
      obtain ⟨sm, hd⟩ := hp
      rw [iv_len] at hi
      have hn := List.getElem?_eq_getElem hi
      have hbn := hb _ (List.getElem_mem hi)
      generalize l[i] = n at hn hbn
      rw [iv_at hn] at hx
      injection hx with hx
      subst hx
      refine ⟨rfl, ?_⟩
      unfold tYes
      refine iteT ?_
      refine ⟨_, rfl, n, rfl, hbn, _, hd, ?_, same_set sm hD, ?_⟩
      · rw [List.length_map, List.length_map, List.length_map]
        exact Nat.lt_of_le_of_lt (List.length_take_le _ _) (szl (by omega))
      · rw [upd_same, take_more hn, List.map_append, List.map_append, List.map_append]
        rfl
    · obtain ⟨sm, hd⟩ := hp
      rw [iv_len, List.take_length] at hd
      refine ⟨("" : Str), D, _, rfl, rfl, .inl (SqL.of hd), ?_, ?_⟩
      · have h1 := sum0 (ps := l.map fun n => [n]) (n := 1) fun p hp => by
          obtain ⟨n, _, rfl⟩ := List.mem_map.mp hp
          exact Nat.le_refl 1
        have h2 : ("" : Str).length = 0 := by decide +kernel
        rw [h2]
        simp only [List.length_map] at h1 ⊢
        omega
      · rw [join0]
        have e : (l.map fun n => [n]).flatten = l := by
          clear hd hb hl ha q
          induction l with
          | nil => rfl
          | cons a r ih =>
            rw [List.map_cons, List.flatten_cons, ih]
            rfl
        rw [e]
        exact q _ sm
def spSixteen : Sp := fun vs H Q _ => ∃ n : Nat, vs = [.int (n : Nat)] ∧ n < 256 ∧ Q (.str (mk (61 :: hex2 n))) H
theorem scBySixteen : FnScope ["octet"] ["octet"] (defScope sBySixteen) := ⟨rfl, rfl, rfl, by decide +kernel, rfl, by decide +kernel, by decide +kernel⟩
theorem r_by_sixteen (A : FnAt K mg "by_sixteen" sBySixteen) : Ready P w K mg base 1 "by_sixteen" ["octet"] spSixteen := by
  refine ready_of A (fun _ _ _ _ _ _ us hl => match us, hl with | [_], _ => rfl) fun f fd F => ?_
  refine F.ok scBySixteen (fun vs H Q E h => ?_) (fun cdv A outer s H vs Q E hr h => ?_)
  · obtain ⟨n, rfl, _⟩ := h
    rfl
  · obtain ⟨n, rfl, hn, q⟩ := h
    have sc := scBySixteen
    refine ⟨_, pss_one (ps_ret (pe_joined (.cons pe_str (.cons (pe_fmtX (pv 0)) .nil)))), ?_⟩
    have c1 := catX (rfl : Str.empty = mk []) e61
    refine ⟨_, rfl, szE c1 (by simp), ?_⟩
    have c2 := catX c1 (rfl : mk (hex2 n) = _)
    refine ⟨_, rfl, n, rfl, hn, _, rfl, szE c2 (by simp [hex2]), ?_⟩
    show Q (.str _) H
    rw [c2]
    exact q
def spMark : Sp := fun vs H Q _ => ∃ n : Nat, vs = [.int (n : Nat)] ∧ n < 256 ∧ ∀ H', Same H H' → Q (.str (mk (markC n))) H'
theorem scMarkOf : FnScope ["octet", "sign"] ["octet"] (defScope sMarkOf) := ⟨rfl, rfl, rfl, by decide +kernel, rfl, by decide +kernel, by decide +kernel⟩
theorem r_mark_of (A : FnAt K mg "_mark_of" sMarkOf) (R1 : Ready P w K mg base 1 "is_numbered" ["number"] spNumb) (R2 : Ready P w K mg base 2 "text_of" ["numbers"] spTextN) (R3 : Ready P w K mg base 1 "is_figure" ["sign"] (spSign isFig)) (R4 : Ready P w K mg base 1 "is_letter" ["sign"] (spSign isLet)) (R5 : Ready P w K mg base 1 "by_sixteen" ["octet"] spSixteen)
    {t1 : Tok} (m_BLANK : mg "BLANK" = some (.int 32 t1)) : Ready P w K mg base 3 "_mark_of" ["octet"] spMark := by
  obtain ⟨f1, fd1, g1, k1, b1, G1⟩ := R1
  obtain ⟨f2, fd2, g2, k2, b2, G2⟩ := R2
  obtain ⟨f3, fd3, g3, k3, b3, G3⟩ := R3
  obtain ⟨f4, fd4, g4, k4, b4, G4⟩ := R4
  obtain ⟨f5, fd5, g5, k5, b5, G5⟩ := R5
  refine ready_of A (fun _ _ _ _ _ _ us hl => match us, hl with | [_], _ => rfl) fun f fd F => ?_
  refine F.ok scMarkOf (fun vs H Q E h => ?_) (fun cdv A outer s H vs Q E hr h => ?_)
  · obtain ⟨n, rfl, _⟩ := h
    rfl
  · obtain ⟨n, rfl, hn, q⟩ := h
    have sc := scMarkOf
    refine ⟨_, pss_cons (ps_if (pt_cmpR op_eq (pv 0) (pe_glob (v := .int 32) rfl m_BLANK ⟨_, rfl⟩) (nomark _))
        (pss_one (ps_ret pe_str))
        pss_nil)
      (pss_cons (ps_if (pt_val (pe_call G1 (hr.mono (by decide)) (by rfl) g1 k1 b1 .nil pass0 (pa_cons (pv 0) pa_nil)))
        (pss_cons (ps_set (i := 1) sc.nd rfl (.inl rfl) (pe_call G2 (hr.mono (by decide)) (by rfl) g2 k2 b2 .nil pass0 (pa_cons (pe_lst (pa_cons (pv 0) pa_nil)) pa_nil)))
          (pss_one (ps_if (PW.pt (pw_or (pt_val (pe_call G4 (hr.mono (by decide)) (by rfl) g4 k4 b4 .nil pass0 (pa_cons (pv 1) pa_nil))) (pw_or1 (pt_val (pe_call G3 (hr.mono (by decide)) (by rfl) g3 k3 b3 .nil pass0 (pa_cons (pv 1) pa_nil))))))
            (pss_one (ps_ret (pv 1)))
            pss_nil)))
        pss_nil)
      (pss_one (ps_ret (pe_call G5 (hr.mono (by decide)) (by rfl) g5 k5 b5 .nil pass0 (pa_cons (pv 0) pa_nil))))), ?_⟩
    have hf : ∀ (l : List Nat) H', markC n = l → Same H H' → Q (.str (mk l)) H' := fun l H' e s => e ▸ q H' s
    refine ⟨_, rfl, rfl, _, rfl, ite2 (fun h => ?_) (fun h => ?_)⟩
    · have e : n = 32 := by have := V.int.inj (of_decide_eq_true h); omega
      have e95 : ("_" : Str) = mk [95] := by decide +kernel
      show Q (.str ("_" : Str)) H
      rw [e95]
      exact hf _ H (by rw [e]; rfl) (Same.refl H)
    · have hne : n ≠ 32 := fun z => h (decide_eq_true (by rw [z]; rfl))
      have hex : ¬ (numb n = true ∧ (isLet n || isFig n) = true) → ∀ H', Same H H' → Q (.str (mk (61 :: hex2 n))) H' := fun z H' s => hf _ H' (by unfold markC; rw [if_neg hne, if_neg z]) s
      refine ⟨_, rfl, n, rfl, ?_⟩
      refine ⟨_, rfl, ite2 (fun hb => ?_) (fun hb => ?_)⟩
      · refine ⟨_, rfl, (by show 1 ≤ sizeLine; decide), fun p np => ?_⟩
        refine ⟨p, [n], rfl, by rw [upd_same]; rfl, (fun m hm => by rw [List.mem_singleton.mp hm]; exact .inr hb), by show 1 ≤ 9000; omega, fun H1 s1 => ?_⟩
        have t1 := (same_new np).trans s1
        refine ⟨_, rfl, n, rfl, _, rfl, ite2 (fun h4 => ?_) (fun h4 => ?_)⟩
        · refine ⟨_, rfl, hf _ _ ?_ t1⟩
          unfold markC
          rw [if_neg hne, if_pos ⟨hb, by rw [h4]; rfl⟩]
        · refine ⟨_, rfl, n, rfl, _, rfl, ite2 (fun h3 => ?_) (fun h3 => ?_)⟩
          · refine ⟨_, rfl, hf _ _ ?_ t1⟩
            unfold markC
            rw [if_neg hne, if_pos ⟨hb, by rw [h3]; simp⟩]
          · refine ⟨_, rfl, n, rfl, hn, hex (fun z => ?_) _ t1⟩
            have := z.2
            rw [Bool.or_eq_true] at this
            exact this.elim h4 h3
      · exact ⟨_, rfl, n, rfl, hn, hex (fun z => hb z.1) _ (Same.refl H)⟩
def spMarks : Sp := fun vs H Q _ => ∃ (a : Addr) (l : List Nat), vs = [.ref a] ∧ H a = some (.lst (iv l)) ∧ (∀ n ∈ l, n < 256) ∧ l.length ≤ 9000 ∧ ∀ H', Same H H' → Q (.str (mk (l.flatMap markC))) H'
theorem scMarksOf : FnScope ["octets", "octet"] ["octets"] (defScope sMarksOf) := ⟨rfl, rfl, rfl, by decide +kernel, rfl, by decide +kernel, by decide +kernel⟩
theorem r_marks_of (A : FnAt K mg "_marks_of" sMarksOf) (R : Ready P w K mg base 3 "_mark_of" ["octet"] spMark) : Ready P w K mg base 4 "_marks_of" ["octets"] spMarks := by
  obtain ⟨f1, fd1, g1, k1, b1, G1⟩ := R
  refine ready_of A (fun _ _ _ _ _ _ us hl => match us, hl with | [_], _ => rfl) fun f fd F => ?_
  refine F.ok scMarksOf (fun vs H Q E h => ?_) (fun cdv A outer s H vs Q E hr h => ?_)
  · obtain ⟨a, l, rfl, _⟩ := h
    rfl
  · obtain ⟨a, l, rfl, ha, hb, hl, q⟩ := h
    have sc := scMarksOf
    refine ⟨_, pss_one (ps_ret (pe_join pe_str (pe_lc (own := [("octet", 1)]) (g := gName 1) (tt := tYes) (by rfl) sc.nd (pi_list (pv 0)) (blkOk_by (own := [("octet", 1)]) (N := ["octets", "octet"]) (sc := defScope sMarksOf) (by decide +kernel)) (fun _ _ _ _ _ => (pg_name (i := 1) sc.nd rfl (.inl rfl))) (fun _ _ _ _ _ => pts_nil) (fun _ _ _ _ _ => (pe_call G1 (hr.mono (by decide)) (by rfl) g1 k1 b1 .nil pass0 (pa_cons (pv 1) pa_nil)))))), ?_⟩
    refine ⟨⟨_, rfl⟩, _, rfl, a, rfl, ⟨_, SqL.of ha⟩, fun D hD => ?_⟩
    refine lc_it (walk_list (K := K) (a := a) (xs := iv l)) (fun i H' => Same H H' ∧ H' D = some (.lst ((((l.take i).map markC).map mk).map V.str))) ⟨same_new hD, upd_same⟩ (fun i H' _ p => SqL.of (p.1 _ _ ha)) (fun i x H2 H3 hi hp hy => ?_) (fun H2 hp => ?_)
    · obtain ⟨rfl, hx⟩ := hy
      obtain ⟨sm, hd⟩ := hp
      rw [iv_len] at hi
      have hn := List.getElem?_eq_getElem hi
      have hbn := hb _ (List.getElem_mem hi)
      generalize l[i] = n at hn hbn
      rw [iv_at hn] at hx
      injection hx with hx
      subst hx
      refine ⟨rfl, ?_⟩
      unfold tYes
      refine iteT ?_
      refine ⟨_, rfl, n, rfl, hbn, fun H4 s4 => ⟨_, s4 _ _ hd, ?_, same_set (sm.trans s4) hD, ?_⟩⟩
      · rw [List.length_map, List.length_map, List.length_map]
        exact Nat.lt_of_le_of_lt (List.length_take_le _ _) (szl (by omega))
      · rw [upd_same, take_more hn, List.map_append, List.map_append, List.map_append]
        rfl
    · obtain ⟨sm, hd⟩ := hp
      rw [iv_len, List.take_length] at hd
      refine ⟨("" : Str), D, _, rfl, rfl, .inl (SqL.of hd), ?_, ?_⟩
      · have h1 := sum0 (ps := l.map markC) (n := 3) fun p hp => by
          obtain ⟨n, _, rfl⟩ := List.mem_map.mp hp
          exact markC_len n
        have h2 : ("" : Str).length = 0 := by decide +kernel
        rw [h2]
        simp only [List.length_map] at h1 ⊢
        omega
      · rw [join0]
        exact q _ sm
end
end FL


namespace FL
open PySem PySem.Spec PyProof.Rows L2
/-! ### the suite's sixes, bit by bit -/
def parts8 : List Nat := [128, 64, 32, 16, 8, 4, 2, 1]
def bits8 (o : Nat) : List Nat := parts8.map fun p => o / p % 2
def bitsOf (l : List Nat) : List Nat := l.flatMap bits8
def val6 (bs : List Nat) : Nat := bs.foldl (fun n b => 2 * n + b) 0
def chunk (bs : List Nat) (i : Nat) : List Nat := ((bs.drop (6 * i)).take 6 ++ [0, 0, 0, 0]).take 6
def lawC (bs : List Nat) (k : Nat) : List Nat := (List.range k).map fun i => six (val6 (chunk bs i))
theorem bitsOf_len : ∀ l : List Nat, (bitsOf l).length = 8 * l.length
  | [] => rfl
  | a :: r => by
    unfold bitsOf
    rw [List.flatMap_cons, List.length_append]
    have := bitsOf_len r
    unfold bitsOf at this
    rw [this, List.length_cons]
    show 8 + _ = _
    omega
theorem b1 : ∀ a, a < 256 → val6 [a / 128 % 2, a / 64 % 2, a / 32 % 2, a / 16 % 2, a / 8 % 2, a / 4 % 2] = a / 4 := by decide +kernel
theorem b2 : ∀ a, a < 256 → val6 [a / 2 % 2, a / 1 % 2, 0, 0, 0, 0] = a % 4 * 16 := by decide +kernel
theorem b2b {a b : Nat} (ha : a < 256) (hb : b < 256) : val6 [a / 2 % 2, a / 1 % 2, b / 128 % 2, b / 64 % 2, b / 32 % 2, b / 16 % 2] = a % 4 * 16 + b / 16 := by
  show 2 * (2 * (2 * (2 * (2 * (2 * 0 + a / 2 % 2) + a / 1 % 2) + b / 128 % 2) + b / 64 % 2) + b / 32 % 2) + b / 16 % 2 = _
  omega
theorem b3 : ∀ b, b < 256 → val6 [b / 8 % 2, b / 4 % 2, b / 2 % 2, b / 1 % 2, 0, 0] = b % 16 * 4 := by decide +kernel
theorem b3b {b c : Nat} (hb : b < 256) (hc : c < 256) : val6 [b / 8 % 2, b / 4 % 2, b / 2 % 2, b / 1 % 2, c / 128 % 2, c / 64 % 2] = b % 16 * 4 + c / 64 := by
  show 2 * (2 * (2 * (2 * (2 * (2 * 0 + b / 8 % 2) + b / 4 % 2) + b / 2 % 2) + b / 1 % 2) + c / 128 % 2) + c / 64 % 2 = _
  omega
theorem b4 : ∀ c, c < 256 → val6 [c / 32 % 2, c / 16 % 2, c / 8 % 2, c / 4 % 2, c / 2 % 2, c / 1 % 2] = c % 64 := by decide +kernel
theorem lawC_six : ∀ (l : List Nat), (∀ n ∈ l, n < 256) → lawC (bitsOf l) ((8 * l.length + 5) / 6) ++ List.replicate ((4 - (8 * l.length + 5) / 6 % 4) % 4) 61 = sixC l
  | [], _ => rfl
  | [a], h => by
    have ha := h a (by simp)
    rw [show (8 * [a].length + 5) / 6 = 2 by simp]
    show [six (val6 [a / 128 % 2, a / 64 % 2, a / 32 % 2, a / 16 % 2, a / 8 % 2, a / 4 % 2]), six (val6 [a / 2 % 2, a / 1 % 2, 0, 0, 0, 0])] ++ [61, 61] = [six (a / 4), six (a % 4 * 16), 61, 61]
    rw [b1 a ha, b2 a ha]
    rfl
  | [a, b], h => by
    have ha := h a (by simp)
    have hb := h b (by simp)
    rw [show (8 * [a, b].length + 5) / 6 = 3 by simp]
    show [six (val6 [a / 128 % 2, a / 64 % 2, a / 32 % 2, a / 16 % 2, a / 8 % 2, a / 4 % 2]), six (val6 [a / 2 % 2, a / 1 % 2, b / 128 % 2, b / 64 % 2, b / 32 % 2, b / 16 % 2]), six (val6 [b / 8 % 2, b / 4 % 2, b / 2 % 2, b / 1 % 2, 0, 0])] ++ [61] = [six (a / 4), six (a % 4 * 16 + b / 16), six (b % 16 * 4), 61]
    rw [b1 a ha, b2b ha hb, b3 b hb]
    rfl
  | a :: b :: c :: r, h => by
    have ha := h a (by simp)
    have hb := h b (by simp)
    have hc := h c (by simp)
    have ih := lawC_six r fun n hn => h n (by simp [hn])
    have hk : (8 * (a :: b :: c :: r).length + 5) / 6 = 4 + (8 * r.length + 5) / 6 := by
      show (8 * (r.length + 1 + 1 + 1) + 5) / 6 = _
      omega
    rw [hk]
    generalize (8 * r.length + 5) / 6 = k at ih
    rw [show (4 + k) % 4 = k % 4 by omega]
    have hbits : bitsOf (a :: b :: c :: r) = (bits8 a ++ bits8 b ++ bits8 c) ++ bitsOf r := by
      unfold bitsOf
      rw [List.flatMap_cons, List.flatMap_cons, List.flatMap_cons]
      simp only [List.append_assoc]
    have hsh : ∀ i, chunk (bitsOf (a :: b :: c :: r)) (4 + i) = chunk (bitsOf r) i := fun i => by
      unfold chunk
      rw [hbits, show 6 * (4 + i) = (bits8 a ++ bits8 b ++ bits8 c).length + 6 * i by show _ = 24 + 6 * i; omega, List.drop_append]
      rw [List.drop_eq_nil_of_le (by omega), List.nil_append, Nat.add_sub_cancel_left]
    have e : lawC (bitsOf (a :: b :: c :: r)) (4 + k) = lawC (bitsOf (a :: b :: c :: r)) 4 ++ lawC (bitsOf r) k := by
      unfold lawC
      rw [List.range_add, List.map_append, List.map_map]
      congr 1
      exact List.map_congr_left fun i _ => by
        show six (val6 (chunk (bitsOf (a :: b :: c :: r)) (4 + i))) = _
        rw [hsh i]
    rw [e, List.append_assoc, ih]
    have e4 : lawC (bitsOf (a :: b :: c :: r)) 4 = four [a, b, c] := by
      rw [hbits]
      show [six (val6 [a / 128 % 2, a / 64 % 2, a / 32 % 2, a / 16 % 2, a / 8 % 2, a / 4 % 2]), six (val6 [a / 2 % 2, a / 1 % 2, b / 128 % 2, b / 64 % 2, b / 32 % 2, b / 16 % 2]), six (val6 [b / 8 % 2, b / 4 % 2, b / 2 % 2, b / 1 % 2, c / 128 % 2, c / 64 % 2]), six (val6 [c / 32 % 2, c / 16 % 2, c / 8 % 2, c / 4 % 2, c / 2 % 2, c / 1 % 2])] = _
      rw [b1 a ha, b2b ha hb, b3b hb hc, b4 c hc]
      rfl
    rw [e4]
    rfl
end FL


namespace FL
open PySem PySem.Spec PyProof.Rows L2
theorem sixC_len : ∀ l : List Nat, (sixC l).length ≤ 2 * l.length + 2
  | [] => by decide
  | [a] => by show 4 ≤ 4; omega
  | [a, b] => by show 4 ≤ 6; omega
  | a :: b :: c :: r => by
    have := sixC_len r
    show (four [a, b, c] ++ sixC r).length ≤ _
    rw [List.length_append]
    show 4 + _ ≤ 2 * (r.length + 1 + 1 + 1) + 2
    omega
theorem bits_le (l : List Nat) : ∀ b ∈ bitsOf l, b ≤ 1 := by
  intro b hb
  obtain ⟨o, _, hb⟩ := List.mem_flatMap.mp hb
  obtain ⟨p, _, rfl⟩ := List.mem_map.mp hb
  omega
theorem chunk_ok {bs : List Nat} (h : ∀ b ∈ bs, b ≤ 1) (i : Nat) : (chunk bs i).length ≤ 6 ∧ ∀ b ∈ chunk bs i, b ≤ 1 := by
  unfold chunk
  refine ⟨by rw [List.length_take]; omega, fun b hb => ?_⟩
  rcases List.mem_append.mp (List.mem_of_mem_take hb) with hb | hb
  · exact h b (List.mem_of_mem_drop (List.mem_of_mem_take hb))
  · simp only [List.mem_cons, List.not_mem_nil, or_false] at hb
    omega
theorem fold_lt : ∀ (bs : List Nat) (n : Nat), (∀ b ∈ bs, b ≤ 1) → bs.foldl (fun n b => 2 * n + b) n + 1 ≤ (n + 1) * 2 ^ bs.length
  | [], n, _ => by simp
  | b :: r, n, h => by
    have h1 := h b (by simp)
    have ih := fold_lt r (2 * n + b) fun x hx => h x (List.mem_cons_of_mem _ hx)
    rw [List.foldl_cons, List.length_cons, Nat.pow_succ]
    have : (2 * n + b + 1) * 2 ^ r.length ≤ (2 * (n + 1)) * 2 ^ r.length := Nat.mul_le_mul_right _ (by omega)
    have e : (n + 1) * (2 ^ r.length * 2) = 2 * (n + 1) * 2 ^ r.length := by
      rw [Nat.mul_comm (2 ^ r.length) 2, ← Nat.mul_assoc, Nat.mul_comm (n + 1) 2]
    omega
theorem val6_lt {bs : List Nat} (h : ∀ b ∈ bs, b ≤ 1) (hl : bs.length ≤ 6) : val6 bs < 64 := by
  have := fold_lt bs 0 h
  have h2 : 2 ^ bs.length ≤ 64 := Nat.pow_le_pow_right (by decide) hl (n := 2)
  unfold val6
  omega
def spSixesL : Sp := fun vs H Q _ => ∃ (a : Addr) (l : List Nat), vs = [.ref a] ∧ H a = some (.lst (iv l)) ∧ (∀ n ∈ l, n < 256) ∧ l.length ≤ 3000 ∧ ∀ H', Same H H' → Q (.str (mk (sixC l))) H'
section
variable {P : Program} {w : World} {K : PySem.W.Frag} {mg : Str → Option Value} {base : Heap}
theorem scLawSixes : FnScope ["_law_eights", "_law_letters", "_law_bits", "_law_octet", "_law_found", "_law_at", "_law_number", "_law_bit", "_law_part"] ["_law_eights"] (defScope sLawSixes) := ⟨rfl, rfl, rfl, by decide +kernel, rfl, by decide +kernel, by decide +kernel⟩
theorem r_law_sixes (A : FnAt K mg "_law_sixes" sLawSixes) (m_len : mg "len" = none) (m_range : mg "range" = none) : Ready P w K mg base 1 "_law_sixes" ["_law_eights"] spSixesL := by
  refine ready_of A (fun _ _ _ _ _ _ us hl => match us, hl with | [_], _ => rfl) fun f fd F => ?_
  refine F.ok scLawSixes (fun vs H Q E h => ?_) (fun cdv A outer s H vs Q E hr h => ?_)
  · obtain ⟨a, l, rfl, _⟩ := h
    rfl
  · obtain ⟨a, l, rfl, ha, hb, hl, q⟩ := h
    have sc := scLawSixes
    refine ⟨_, pss_cons (ps_set (i := 1) sc.nd rfl (.inl rfl) pe_str)
      (pss_cons (ps_set (i := 2) sc.nd rfl (.inl rfl) (pe_lst pa_nil))
      (pss_cons (ps_for PassesOwn.never rfl (pi_list (pv 0)) (pg_name (i := 3) sc.nd rfl (.inr rfl))
        (pss_one (ps_expr (pe_bm PySem.F.plainAttrs_list PySem.F.slot_list_extend PySem.F.type_list_extend mt_extend (pv 2) (pa_cons (pe_lc (own := [("_law_part", 8)]) (g := gName 8) (tt := tYes) (by rfl) sc.nd (pi_list (pe_lst (pa_cons pe_int (pa_cons pe_int (pa_cons pe_int (pa_cons pe_int (pa_cons pe_int (pa_cons pe_int (pa_cons pe_int (pa_cons pe_int pa_nil)))))))))) (blkOk_by (own := [("_law_part", 8)]) (N := ["_law_eights", "_law_letters", "_law_bits", "_law_octet", "_law_found", "_law_at", "_law_number", "_law_bit", "_law_part"]) (sc := defScope sLawSixes) (by decide +kernel)) (fun _ _ _ _ _ => (pg_name (i := 8) sc.nd rfl (.inl rfl))) (fun _ _ _ _ _ => pts_nil) (fun _ _ _ _ _ => (pe_op op_mod (pe_op op_fdiv (pv 3) (pv 8)) pe_int))) pa_nil)))))
      (pss_cons (ps_set (i := 4) sc.nd rfl (.inl rfl) pe_str)
      (pss_cons (ps_for PassesOwn.never rfl (pi_range3 (by rfl) m_range (pa_cons pe_int (pa_cons (pe_callB call_len_seq (by rfl) m_len PySem.boot_len (pa_cons (pv 2) pa_nil)) (pa_cons pe_int pa_nil)))) (pg_name (i := 5) sc.nd rfl (.inl rfl))
        (pss_cons (ps_set (i := 6) sc.nd rfl (.inl rfl) pe_int)
          (pss_cons (ps_for PassesOwn.never rfl (pi_list (pe_slice sl_list (pe_op op_cat (pe_slice sl_list (pv 2) (po_some (pv 5)) (po_some (pe_op op_add (pv 5) pe_int))) (pe_lst (pa_cons pe_int (pa_cons pe_int (pa_cons pe_int (pa_cons pe_int pa_nil)))))) po_none (po_some pe_int))) (pg_name (i := 7) sc.nd rfl (.inl rfl))
            (pss_one (ps_set (i := 6) sc.nd rfl (.inl rfl) (pe_op op_add (pe_op op_mul pe_int (pv 6)) (pv 7)))))
          (pss_one (ps_set (i := 4) sc.nd rfl (.inl rfl) (pe_op op_add_str (pv 4) (pe_item_str (pv 1) (pv 6) (fun _ _ => rfl))))))))
      (pss_one (ps_ret (pe_op op_add_str (pv 4) (pe_op op_mulS pe_str (pe_op op_mod (pe_un un_neg (pe_callB call_len_str (by rfl) m_len PySem.boot_len (pa_cons (pv 4) pa_nil))) pe_int))))))))), ?_⟩
    refine ⟨(by show 0 ≤ sizeLine; decide), fun pb nb => ?_⟩
    refine ⟨_, rfl, a, rfl, ⟨_, SqL.of (kn ha nb)⟩, ?_⟩
    refine for_it (walk_list (K := K) (a := a) (xs := iv l)) (fun i σ H' => ∃ (y3 : Option V), σ = [some (.ref a), some (.str SIXS), some (.ref pb), y3, none, none, none, none, none] ∧ Same H H' ∧ H' pb = some (.lst (iv (bitsOf (l.take i))))) ⟨none, rfl, same_new nb, upd_same⟩ (fun i σ H' _ hp => ?_) (fun i x σ H1 H2 hi hp hy => ?_) (fun σ H1 hp => ?_)
    · obtain ⟨y3, rfl, sm, _⟩ := hp
      exact SqL.of (sm _ _ ha)
    · obtain ⟨y3, rfl, sm, hpb⟩ := hp
      obtain ⟨rfl, hx⟩ := hy
      rw [iv_len] at hi
      have hn := List.getElem?_eq_getElem hi
      generalize l[i] = o at hn
      rw [iv_at hn] at hx
      injection hx with hx
      subst hx
      refine ⟨_, rfl, .inl ⟨rfl, _, SqL.of hpb⟩, (by show 8 ≤ sizeLine; decide), fun pp np => ?_⟩
      have hpp : (upd H2 pp (.lst [.int 128, .int 64, .int 32, .int 16, .int 8, .int 4, .int 2, .int 1])) pp = some (.lst (iv parts8)) := upd_same
      have s3 : Same H2 (upd H2 pp (.lst [.int 128, .int 64, .int 32, .int 16, .int 8, .int 4, .int 2, .int 1])) := same_new np
      generalize upd H2 pp (.lst [.int 128, .int 64, .int 32, .int 16, .int 8, .int 4, .int 2, .int 1]) = H3 at hpp s3 ⊢
      refine ⟨pp, rfl, ⟨_, SqL.of hpp⟩, fun D hD => ?_⟩
      refine lc_it (walk_list (K := K) (a := pp) (xs := iv parts8)) (fun j H' => Same H3 H' ∧ H' D = some (.lst (iv ((parts8.take j).map fun p => o / p % 2)))) ⟨same_new hD, upd_same⟩ (fun j H' _ p => SqL.of (p.1 _ _ hpp)) (fun j x H4 H5 hj hp hy => ?_) (fun H4 hp => ?_)
      · obtain ⟨rfl, hx⟩ := hy
        obtain ⟨s5, hd⟩ := hp
        rw [iv_len] at hj
        have hm := List.getElem?_eq_getElem hj
        have hpt : 1 ≤ parts8[j] ∧ parts8[j] ≤ 128 := (by decide : ∀ p ∈ parts8, 1 ≤ p ∧ p ≤ 128) _ (List.getElem_mem hj)
        generalize parts8[j] = pt at hm hpt
        rw [iv_at hm] at hx
        injection hx with hx
        subst hx
        refine ⟨rfl, ?_⟩
        unfold tYes
        refine iteT ?_
        refine ⟨_, rfl, _, rfl, _, _, rfl, rfl, ⟨by omega, by omega⟩, _, _, rfl, rfl, (by show (0 : Int) < 2; decide), _, hd, ?_, same_set s5 hD, ?_⟩
        · rw [iv_len, List.length_map]
          exact Nat.lt_of_le_of_lt (List.length_take_le _ _) (szl (by have : j < 8 := hj; omega))
        · rw [upd_same, take_more hm, List.map_append, iv_app]
          rfl
      · obtain ⟨s5, hd⟩ := hp
        have hd : H4 D = some (.lst (iv (bits8 o))) := hd
        have hpb4 := s5 _ _ (s3 _ _ hpb)
        have hbl := bitsOf_len (l.take i)
        have hti : (l.take i).length ≤ l.length := List.length_take_le' _ _
        refine ⟨pb, D, _, _, rfl, rfl, hpb4, hd, by rw [iv_len, iv_len, hbl, sizeLine_eq]; show _ + 8 ≤ _; omega, ?_⟩
        refine ⟨_, rfl, same_set (sm.trans (s3.trans s5)) nb, ?_⟩
        rw [upd_same, ← iv_app, take_more hn]
        unfold bitsOf
        rw [List.flatMap_append]
        rfl
    obtain ⟨y3, rfl, sm, hpb⟩ := hp
    have hpb : H1 pb = some (.lst (iv (bitsOf (l.take (iv l).length)))) := hpb
    rw [iv_len, List.take_length] at hpb
    have hbl := bitsOf_len l
    have hbits := bits_le l
    obtain ⟨bs, hbs⟩ : ∃ bs, bs = bitsOf l := ⟨_, rfl⟩
    have hfin := lawC_six l hb
    rw [← hbs] at hpb hbl hbits hfin
    have e0x : ("" : Str) = mk [] := by decide +kernel
    refine ⟨_, rfl, pb, _, rfl, .inl (SqL.of hpb), 0, ((bs.length : Nat) : Int), 6, (bs.length + 5) / 6, by rw [iv_len], rg_up (c := 6) (by omega) (by decide) (by decide), ?_⟩
    refine for_it (walk_rangeC (lo := 0) (c := 6) (n := (bs.length + 5) / 6)) (fun i σ H' => ∃ (y5 y6 y7 : Option V), σ = [some (.ref a), some (.str SIXS), some (.ref pb), y3, some (.str (mk (lawC bs i))), y5, y6, y7, none] ∧ Same H1 H') ⟨none, none, none, by rw [show lawC bs 0 = [] from rfl, ← e0x]; rfl, Same.refl H1⟩ (fun _ _ _ _ _ => trivial) (fun i x σ H2 H3 hi hp hy => ?_) (fun σ H2 hp => ?_)
    · obtain ⟨y5, y6, y7, rfl, s2⟩ := hp
      obtain ⟨rfl, hx⟩ := hy
      have hx' : x = .int ((6 * i : Nat) : Int) := by
        rw [hx]
        exact congrArg V.int (by omega)
      subst hx'
      have hpb2 := s2 _ _ hpb
      refine ⟨_, rfl, _, rfl, _, rfl, _, rfl, _, _, rfl, rfl, _, rfl, pb, _, rfl, SqL.of hpb2, fun p1 n1 => ?_⟩
      have ec : cutV (iv bs) (some ((6 * i : Nat) : Int)) (some (((6 * i : Nat) : Int) + 6)) = iv ((bs.drop (6 * i)).take 6) := by
        unfold cutV
        rw [show (((6 * i : Nat) : Int) + 6) = ((6 * i + 6 : Nat) : Int) by omega, HT.sIx_nat, HT.sIx_nat, iv_len, Nat.min_eq_left (show 6 * i ≤ bs.length by omega)]
        unfold iv
        rw [← List.map_drop, ← List.map_take]
        congr 1
        by_cases h : 6 * i + 6 ≤ bs.length
        · rw [Nat.min_eq_left h, show 6 * i + 6 - 6 * i = 6 by omega]
        · rw [Nat.min_eq_right (show bs.length ≤ 6 * i + 6 by omega), List.take_of_length_le (by rw [List.length_drop]; omega), List.take_of_length_le (by rw [List.length_drop]; omega)]
      rw [ec]
      refine ⟨(by show 4 ≤ sizeLine; decide), fun p2 n2 => ?_⟩
      have hl6 : ((bs.drop (6 * i)).take 6).length ≤ 6 := List.length_take_le _ _
      refine ⟨p1, p2, _, _, rfl, rfl, kn upd_same n2, upd_same, by rw [iv_len, sizeLine_eq]; show _ + 4 ≤ _; omega, fun p3 n3 => ?_⟩
      rw [show iv ((bs.drop (6 * i)).take 6) ++ [V.int 0, V.int 0, V.int 0, V.int 0] = iv ((bs.drop (6 * i)).take 6 ++ [0, 0, 0, 0]) by rw [iv_app]; rfl]
      refine ⟨_, rfl, p3, _, rfl, SqL.of upd_same, fun p4 n4 => ?_⟩
      have ec2 : cutV (iv ((bs.drop (6 * i)).take 6 ++ [0, 0, 0, 0])) none (some 6) = iv (chunk bs i) := by
        unfold cutV
        rw [show (6 : Int) = ((6 : Nat) : Int) from rfl, HT.sIx_none, HT.sIx_nat, iv_len]
        rw [List.drop_zero, Nat.sub_zero]
        unfold iv chunk
        rw [← List.map_take]
        congr 1
        rw [List.take_eq_take_iff]
        simp
      rw [ec2]
      obtain ⟨hcl, hc1⟩ := chunk_ok hbits i
      have hv := val6_lt hc1 hcl
      refine ⟨p4, rfl, ⟨_, SqL.of upd_same⟩, ?_⟩
      refine for_it (walk_list (K := K) (a := p4) (xs := iv (chunk bs i))) (fun j σ H' => ∃ (y7 : Option V), σ = [some (.ref a), some (.str SIXS), some (.ref pb), y3, some (.str (mk (lawC bs i))), some (.int ((6 * i : Nat) : Int)), some (.int ((((chunk bs i).take j).foldl (fun n b => 2 * n + b) 0 : Nat) : Int)), y7, none] ∧ Same H1 H' ∧ H' p4 = some (.lst (iv (chunk bs i)))) ⟨y7, ?_, s2.trans ((same_new n1).trans ((same_new n2).trans ((same_new n3).trans (same_new n4)))), upd_same⟩ (fun j σ H' _ hp => ?_) (fun j x σ H5 H6 hj hp hy => ?_) (fun σ H5 hp => ?_)
      · rfl
      · obtain ⟨y7, rfl, s5, h5⟩ := hp
        exact SqL.of h5
      · obtain ⟨y7, rfl, s5, h5⟩ := hp
        obtain ⟨rfl, hx⟩ := hy
        rw [iv_len] at hj
        have hn := List.getElem?_eq_getElem hj
        generalize (chunk bs i)[j] = b at hn
        rw [iv_at hn] at hx
        injection hx with hx
        subst hx
        refine ⟨_, rfl, _, _, rfl, rfl, .inl ⟨by decide, by decide⟩, _, rfl, _, _, rfl, rfl, some (.int (b : Nat)), ?_, s5, h5⟩
        rw [take_more hn, List.foldl_append]
        rfl
      · obtain ⟨y7, rfl, s5, h5⟩ := hp
        rw [iv_len, List.take_length]
        have hln : (lawC bs i).length = i := by
          unfold lawC
          rw [List.length_map, List.length_range]
        have c1 := catX (rfl : mk (lawC bs i) = _) (rfl : mk [six (val6 (chunk bs i))] = _)
        refine ⟨_, rfl, _, rfl, _, rfl, SIXS, _, six (val6 (chunk bs i)), rfl, rfl, by omega, (by show ((val6 (chunk bs i) : Nat) : Int) < 2 ^ 63; omega), (by rw [six_len]; show ((val6 (chunk bs i) : Nat) : Int) < _; omega), ?_, ?_⟩
        · show SIXS.cps[((val6 (chunk bs i) : Nat) : Int).toNat]? = _
          rw [Int.toNat_natCast]
          exact six_at _ hv
        refine ⟨_, _, rfl, rfl, (by rw [← len_append]; exact szE c1 (by rw [List.length_append, hln]; show i + 1 ≤ _; omega)), ?_⟩
        have c2 : mk (lawC bs i) ++ (⟨#[six (val6 (chunk bs i))]⟩ : Str) = mk (lawC bs (i + 1)) := by
          rw [show (⟨#[six (val6 (chunk bs i))]⟩ : Str) = mk [six (val6 (chunk bs i))] from rfl, c1]
          congr 1
          unfold lawC
          rw [List.range_succ, List.map_append]
          rfl
        rw [c2]
        exact ⟨_, _, _, rfl, s5⟩
    · obtain ⟨y5, y6, y7, rfl, s2⟩ := hp
      have hk : (bs.length + 5) / 6 = (8 * l.length + 5) / 6 := by rw [hbl]
      rw [← hk] at hfin
      have hln : (lawC bs ((bs.length + 5) / 6)).length = (bs.length + 5) / 6 := by
        unfold lawC
        rw [List.length_map, List.length_range]
      refine ⟨_, rfl, _, rfl, _, rfl, szX (by rw [hln]; omega), _, rfl, _, _, rfl, rfl, (by show (0 : Int) < 4; decide), ?_⟩
      rw [mk_len, hln]
      generalize (bs.length + 5) / 6 = k at hfin hln
      dsimp only
      rw [show (-((k : Nat) : Int)) % 4 = (((4 - k % 4) % 4 : Nat) : Int) by omega]
      refine ⟨61, (4 - k % 4) % 4, ?_, rfl, by omega, ?_⟩
      · exact congrArg V.str e61
      have c3 := catX (rfl : mk (lawC bs k) = _) (rfl : mk (List.replicate ((4 - k % 4) % 4) 61) = _)
      refine ⟨_, _, rfl, rfl, (by rw [← len_append]; exact szE c3 (by rw [hfin]; have := sixC_len l; omega)), ?_⟩
      rw [c3, hfin]
      exact q _ (sm.trans s2)
end
end FL


namespace FL
open PySem PySem.Spec PyProof.Rows L2
/-! ### signs and their octets -/
def octs (s : Nat) : List Nat := if s < 128 then [s] else if s < 2048 then [192 + s / 64, 128 + s % 64] else [224 + s / 4096, 128 + s % 4096 / 64, 128 + s % 64]
def octsOf (l : List Nat) : List Nat := l.flatMap octs
def GS (l : List Nat) : Prop := (∀ n ∈ l, 32 ≤ n ∧ n ≤ 65535) ∧ l.length ≤ 2000
def GO (l : List Nat) : Prop := (∀ n ∈ l, n < 256) ∧ l.length ≤ 9000
def sizeFrom (o : Nat) : Nat := if o < 128 then 1 else if o < 224 then 2 else 3
def valO : List Nat → Int
  | [a] => a
  | [a, b] => 64 * ((a : Int) - 192) + b - 128
  | [a, b, c] => 4096 * ((a : Int) - 224) + 64 * ((b : Int) - 128) + c - 128
  | _ => 0
def signR (t : List Nat) : Option Nat := if isSgnI (valO t) = true ∧ octs (valO t).toNat = t then some (valO t).toNat else none
theorem octs_pos (s : Nat) : 1 ≤ (octs s).length ∧ (octs s).length ≤ 3 := by
  unfold octs
  split
  · exact ⟨by simp, by simp⟩
  · split <;> exact ⟨by simp, by simp⟩
theorem octs_lt {s : Nat} (h : s ≤ 65535) : ∀ n ∈ octs s, n < 256 := by
  unfold octs
  intro n hn
  split at hn
  · simp only [List.mem_singleton] at hn; omega
  · split at hn
    · simp only [List.mem_cons, List.not_mem_nil, or_false] at hn; omega
    · simp only [List.mem_cons, List.not_mem_nil, or_false] at hn; omega
theorem val_octs {s : Nat} (h : s ≤ 65535) : valO (octs s) = s := by
  unfold octs
  split
  · rfl
  · split
    · show 64 * (((192 + s / 64 : Nat) : Int) - 192) + ((128 + s % 64 : Nat) : Int) - 128 = s
      omega
    · show 4096 * (((224 + s / 4096 : Nat) : Int) - 224) + 64 * (((128 + s % 4096 / 64 : Nat) : Int) - 128) + ((128 + s % 64 : Nat) : Int) - 128 = s
      omega
theorem signR_octs {s : Nat} (h1 : 32 ≤ s) (h2 : s ≤ 65535) : signR (octs s) = some s := by
  unfold signR
  rw [val_octs h2, Int.toNat_natCast, if_pos ⟨decide_eq_true (by omega), rfl⟩]
theorem signR_some {t : List Nat} {s : Nat} (h : signR t = some s) : 32 ≤ s ∧ s ≤ 65535 ∧ octs s = t := by
  unfold signR at h
  split at h
  · rename_i g
    injection h with h
    have := of_decide_eq_true g.1
    refine ⟨by omega, by omega, by rw [← h]; exact g.2⟩
  · cases h
theorem size_octs (s : Nat) (h : s ≤ 65535) : sizeFrom ((octs s).getD 0 0) = (octs s).length := by
  unfold octs
  split
  · rename_i g
    show sizeFrom s = 1
    unfold sizeFrom
    rw [if_pos g]
  · split
    · show sizeFrom (192 + s / 64) = 2
      unfold sizeFrom
      rw [if_neg (by omega), if_pos (by omega)]
    · show sizeFrom (224 + s / 4096) = 3
      unfold sizeFrom
      rw [if_neg (by omega), if_neg (by omega)]
theorem octsOf_len (l : List Nat) : (octsOf l).length ≤ 3 * l.length := by
  induction l with
  | nil => exact Nat.le_refl _
  | cons a r ih =>
    have := octs_pos a
    unfold octsOf at ih ⊢
    rw [List.flatMap_cons, List.length_append, List.length_cons]
    omega
theorem octsOf_lt {l : List Nat} (h : ∀ n ∈ l, 32 ≤ n ∧ n ≤ 65535) : ∀ n ∈ octsOf l, n < 256 := by
  intro n hn
  obtain ⟨s, hs, hn⟩ := List.mem_flatMap.mp hn
  exact octs_lt (h s hs).2 n hn
/-- the mirror of saying_of: of the octets from a place on, with so many turns -/
def sayR (l : List Nat) : Nat → Nat → Option (Except Nat (List Nat))
  | 0, p => if p < l.length then none else some (.ok [])
  | n + 1, p => match l[p]? with
    | none => some (.ok [])
    | some o => match signR ((l.drop p).take (sizeFrom o)) with
      | none => some (.error p)
      | some s => (sayR l n (p + ((l.drop p).take (sizeFrom o)).length)).map fun
        | .ok r => .ok (s :: r)
        | .error q => .error q
section
variable {P : Program} {w : World} {K : PySem.W.Frag} {mg : Str → Option Value} {base : Heap}
def spNewInts (f : Nat → List Nat) : Sp := fun vs H Q _ => ∃ s : Nat, vs = [.int (s : Int)] ∧ ∀ H' p, Same H H' → H p = none → H' p = some (.lst (iv (f s))) → Q (.ref p) H'
theorem scOctetsOfSign : FnScope ["sign"] ["sign"] (defScope sOctetsOfSign) := ⟨rfl, rfl, rfl, by decide +kernel, rfl, by decide +kernel, by decide +kernel⟩
theorem r_octets_of_sign (A : FnAt K mg "_octets_of_sign" sOctetsOfSign) : Ready P w K mg base 1 "_octets_of_sign" ["sign"] (spNewInts octs) := by
  refine ready_of A (fun _ _ _ _ _ _ us hl => match us, hl with | [_], _ => rfl) fun f fd F => ?_
  refine F.ok scOctetsOfSign (fun vs H Q E h => ?_) (fun cdv A outer s H vs Q E hr h => ?_)
  · obtain ⟨s, rfl, _⟩ := h
    rfl
  · obtain ⟨s, rfl, q⟩ := h
    have sc := scOctetsOfSign
    refine ⟨_, pss_cons (ps_if (pt_cmpR op_lt (pv 0) pe_int (nomark _))
        (pss_one (ps_ret (pe_lst (pa_cons (pv 0) pa_nil))))
        pss_nil)
      (pss_cons (ps_if (pt_cmpR op_lt (pv 0) pe_int (nomark _))
        (pss_one (ps_ret (pe_lst (pa_cons (pe_op op_add pe_int (pe_op op_fdiv (pv 0) pe_int)) (pa_cons (pe_op op_add pe_int (pe_op op_mod (pv 0) pe_int)) pa_nil)))))
        pss_nil)
      (pss_one (ps_ret (pe_lst (pa_cons (pe_op op_add pe_int (pe_op op_fdiv (pv 0) pe_int)) (pa_cons (pe_op op_add pe_int (pe_op op_fdiv (pe_op op_mod (pv 0) pe_int) pe_int)) (pa_cons (pe_op op_add pe_int (pe_op op_mod (pv 0) pe_int)) pa_nil))))))), ?_⟩
    refine ⟨_, rfl, _, _, rfl, rfl, _, rfl, ite2 (fun h => ?_) (fun h => ?_)⟩
    · have h1 : s < 128 := by have := of_decide_eq_true h; omega
      refine ⟨_, rfl, (by show 1 ≤ sizeLine; decide), fun p np => q _ p (same_new np) np ?_⟩
      rw [upd_same]
      unfold octs
      rw [if_pos h1]
      rfl
    · have h1 : ¬ s < 128 := fun z => h (decide_eq_true (by omega))
      refine ⟨_, rfl, _, _, rfl, rfl, _, rfl, ite2 (fun h => ?_) (fun h => ?_)⟩
      · have h2 : s < 2048 := by have := of_decide_eq_true h; omega
        refine ⟨_, rfl, _, _, rfl, rfl, ⟨by decide, by decide⟩, _, _, rfl, rfl, _, rfl, _, _, rfl, rfl, (by show (0 : Int) < 64; decide), _, _, rfl, rfl, (by show 2 ≤ sizeLine; decide), fun p np => q _ p (same_new np) np ?_⟩
        rw [upd_same]
        unfold octs
        rw [if_neg h1, if_pos h2]
        rfl
      · have h2 : ¬ s < 2048 := fun z => h (decide_eq_true (by omega))
        refine ⟨_, rfl, _, _, rfl, rfl, ⟨by decide, by decide⟩, _, _, rfl, rfl, _, rfl, _, _, rfl, rfl, (by show (0 : Int) < 4096; decide), _, _, rfl, rfl, ⟨by decide, by decide⟩, _, _, rfl, rfl, _, rfl, _, _, rfl, rfl, (by show (0 : Int) < 64; decide), _, _, rfl, rfl, (by show 3 ≤ sizeLine; decide), fun p np => q _ p (same_new np) np ?_⟩
        rw [upd_same]
        unfold octs
        rw [if_neg h1, if_neg h2]
        rfl
def spNat (f : Nat → Nat) : Sp := fun vs H Q _ => ∃ s : Nat, vs = [.int (s : Int)] ∧ Q (.int (f s : Nat)) H
theorem scSizeFrom : FnScope ["octet"] ["octet"] (defScope sSizeFrom) := ⟨rfl, rfl, rfl, by decide +kernel, rfl, by decide +kernel, by decide +kernel⟩
theorem r_size_from (A : FnAt K mg "_size_from" sSizeFrom) : Ready P w K mg base 1 "_size_from" ["octet"] (spNat sizeFrom) := by
  refine ready_of A (fun _ _ _ _ _ _ us hl => match us, hl with | [_], _ => rfl) fun f fd F => ?_
  refine F.ok scSizeFrom (fun vs H Q E h => ?_) (fun cdv A outer s H vs Q E hr h => ?_)
  · obtain ⟨s, rfl, _⟩ := h
    rfl
  · obtain ⟨s, rfl, q⟩ := h
    refine ⟨_, pss_cons (ps_if (pt_cmpR op_lt (pv 0) pe_int (nomark _))
        (pss_one (ps_ret pe_int))
        pss_nil)
      (pss_cons (ps_if (pt_cmpR op_lt (pv 0) pe_int (nomark _))
        (pss_one (ps_ret pe_int))
        pss_nil)
      (pss_one (ps_ret pe_int))), ?_⟩
    unfold sizeFrom at q
    refine ⟨_, rfl, _, _, rfl, rfl, _, rfl, ite2 (fun h => ?_) (fun h => ?_)⟩
    · rw [if_pos (by have := of_decide_eq_true h; omega)] at q
      exact q
    · rw [if_neg (fun z => h (decide_eq_true (by omega)))] at q
      refine ⟨_, rfl, _, _, rfl, rfl, _, rfl, ite2 (fun h => ?_) (fun h => ?_)⟩
      · rw [if_pos (by have := of_decide_eq_true h; omega)] at q
        exact q
      · rw [if_neg (fun z => h (decide_eq_true (by omega)))] at q
        exact q
def optV : Option Nat → V
  | none => .non
  | some s => .int (s : Nat)
def spSignOf (K : PySem.W.Frag) : Sp := fun vs H Q _ => ∃ a l, vs = [.ref a] ∧ H a = some (.lst (iv l)) ∧ 1 ≤ l.length ∧ l.length ≤ 3 ∧ (∀ n ∈ l, n < 256) ∧ ∀ H', Same H H' → Q (optV (signR l)) H'
theorem scSignOfOctets : FnScope ["octets", "sign"] ["octets"] (defScope sSignOfOctets) := ⟨rfl, rfl, rfl, by decide +kernel, rfl, by decide +kernel, by decide +kernel⟩
theorem r_sign_of_octets (A : FnAt K mg "_sign_of_octets" sSignOfOctets) (RO : Ready P w K mg base 1 "_octets_of_sign" ["sign"] (spNewInts octs)) (RS : Ready P w K mg base 2 "is_sign_sayings" ["value"] (spWhole K fun o => o.any isSgnI)) (m_len : mg "len" = none) :
    Ready P w K mg base 3 "_sign_of_octets" ["octets"] (spSignOf K) := by
  obtain ⟨f1, fd1, g1, k1, b1, G1⟩ := RO
  obtain ⟨f2, fd2, g2, k2, b2, G2⟩ := RS
  refine ready_of A (fun _ _ _ _ _ _ us hl => match us, hl with | [_], _ => rfl) fun f fd F => ?_
  refine F.ok scSignOfOctets (fun vs H Q E h => ?_) (fun cdv A outer s H vs Q E hr h => ?_)
  · obtain ⟨a, l, rfl, _⟩ := h
    rfl
  · obtain ⟨a, l, rfl, hH, hl1, hl3, hl, q⟩ := h
    have sc := scSignOfOctets
    refine ⟨_, pss_cons (ps_set (i := 1) sc.nd rfl (.inl rfl) (pe_ix ix_list (pv 0) pe_int (fun _ _ => rfl)))
      (pss_cons (ps_if (pt_cmpR op_eq (pe_callB call_len_seq (by rfl) m_len PySem.boot_len (pa_cons (pv 0) pa_nil)) pe_int (nomark _))
        (pss_one (ps_set (i := 1) sc.nd rfl (.inl rfl) (pe_op op_sub (pe_op op_add (pe_op op_mul pe_int (pe_op op_sub (pv 1) pe_int)) (pe_ix ix_list (pv 0) pe_int (fun _ _ => rfl))) pe_int)))
        (pss_one (ps_if (pt_cmpR op_eq (pe_callB call_len_seq (by rfl) m_len PySem.boot_len (pa_cons (pv 0) pa_nil)) pe_int (nomark _))
            (pss_one (ps_set (i := 1) sc.nd rfl (.inl rfl) (pe_op op_sub (pe_op op_add (pe_op op_add (pe_op op_mul pe_int (pe_op op_sub (pv 1) pe_int)) (pe_op op_mul pe_int (pe_op op_sub (pe_ix ix_list (pv 0) pe_int (fun _ _ => rfl)) pe_int))) (pe_ix ix_list (pv 0) pe_int (fun _ _ => rfl))) pe_int)))
            pss_nil)))
      (pss_cons (ps_if (PW.pt (pw_or (pt_not (pt_val (pe_call G2 (hr.mono (by decide)) (by rfl) g2 k2 b2 .nil pass0 (pa_cons (pv 1) pa_nil)))) (pw_or1 (pt_cmpR (op_neD hr.units) (pe_call G1 (hr.mono (by decide)) (by rfl) g1 k1 b1 .nil pass0 (pa_cons (pv 1) pa_nil)) (pv 0) (nomark _)))))
        (pss_one (ps_ret pe_non))
        pss_nil)
      (pss_one (ps_ret (pv 1))))), ?_⟩
    have tail : ∀ v : Int, v = valO l → ∃ v0, [some (V.ref a), some (V.int v)][1]? = some (some v0) ∧ spWhole K (fun o => o.any isSgnI) [v0] H (fun x H1 => ∃ k, x = .bl k ∧ (if (!k) = true then Q .non H1 else
        ∃ v0, [some (V.ref a), some (V.int v)][1]? = some (some v0) ∧ spNewInts octs [v0] H1 (fun x H2 => ∃ v1, [some (V.ref a), some (V.int v)][0]? = some (some v1) ∧ rNeD K x v1 H2 (fun z H3 => ∃ k, z = .bl k ∧ (if k = true then Q .non H3 else ∃ v2, [some (V.ref a), some (V.int v)][1]? = some (some v2) ∧ Q v2 H3))) E)) E := fun v hv => by
      refine ⟨_, rfl, _, _, rfl, Whole.int v, _, rfl, ?_⟩
      show (if (!isSgnI v) = true then _ else _)
      by_cases hs : isSgnI v = true
      · rw [hs]
        refine iteF ?_
        have hr2 := of_decide_eq_true hs
        have hv2 : v = ((v.toNat : Nat) : Int) := by omega
        refine ⟨_, rfl, v.toNat, by rw [← hv2], fun H1 p s1 np hp => ?_⟩
        refine ⟨_, rfl, _, _, dpl hp, dpl (s1 _ _ hH), shaped_ints _, shaped_ints _, _, rfl, ?_⟩
        rw [eqv_ints]
        by_cases he : octs v.toNat = l
        · rw [decide_eq_true he]
          refine iteF ⟨_, rfl, ?_⟩
          have := q H1 s1
          unfold signR at this
          rw [← hv, if_pos ⟨hs, he⟩] at this
          rw [hv2]
          exact this
        · rw [decide_eq_false he]
          refine iteT ?_
          have := q H1 s1
          unfold signR at this
          rw [← hv, if_neg (fun z => he z.2)] at this
          exact this
      · rw [eq_false_of_ne_true hs]
        refine iteT ?_
        have := q H (Same.refl H)
        unfold signR at this
        rw [← hv, if_neg (fun z => hs z.1)] at this
        exact this
    match l, hl1, hl3 with
    | [x], _, _ =>
      refine ⟨_, rfl, a, _, _, .int (x : Nat), rfl, rfl, SqL.of hH, rfl, ?_⟩
      refine ⟨_, rfl, a, _, rfl, .inl (SqL.of hH), rfl, _, rfl, iteF ?_⟩
      refine ⟨_, rfl, a, _, rfl, .inl (SqL.of hH), rfl, _, rfl, iteF ?_⟩
      exact tail x rfl
    | [x, y], _, _ =>
      refine ⟨_, rfl, a, _, _, .int (x : Nat), rfl, rfl, SqL.of hH, rfl, ?_⟩
      refine ⟨_, rfl, a, _, rfl, .inl (SqL.of hH), rfl, _, rfl, iteT ?_⟩
      refine ⟨_, rfl, _, _, rfl, rfl, _, _, rfl, rfl, .inl ⟨by decide, by decide⟩, _, rfl, a, _, _, .int (y : Nat), rfl, rfl, SqL.of hH, rfl, _, _, rfl, rfl, _, _, rfl, rfl, ?_⟩
      exact tail _ rfl
    | [x, y, z], _, _ =>
      refine ⟨_, rfl, a, _, _, .int (x : Nat), rfl, rfl, SqL.of hH, rfl, ?_⟩
      refine ⟨_, rfl, a, _, rfl, .inl (SqL.of hH), rfl, _, rfl, iteF ?_⟩
      refine ⟨_, rfl, a, _, rfl, .inl (SqL.of hH), rfl, _, rfl, iteT ?_⟩
      refine ⟨_, rfl, _, _, rfl, rfl, _, _, rfl, rfl, .inl ⟨by decide, by decide⟩, _, rfl, a, _, _, .int (y : Nat), rfl, rfl, SqL.of hH, rfl, _, _, rfl, rfl, _, _, rfl, rfl, .inl ⟨by decide, by decide⟩, _, _, rfl, rfl, _, rfl, a, _, _, .int (z : Nat), rfl, rfl, SqL.of hH, rfl, _, _, rfl, rfl, _, _, rfl, rfl, ?_⟩
      exact tail _ rfl
end
end FL


namespace FL
open PySem PySem.Spec PyProof.Rows L2
/-! ### a saying's octets by words -/
def stepW (wr : List Nat → List Nat) (rows : List (List Nat)) (o : List Nat) : List (List Nat) :=
  if rows ≠ [] ∧ (wr (rows.getLastD [] ++ o)).length ≤ 54 then rows.dropLast ++ [rows.getLastD [] ++ o] else rows ++ [o]
def rowsW (wr : List Nat → List Nat) (f : Nat → List Nat) (l : List Nat) : List (List Nat) := l.foldl (fun rows s => stepW wr rows (f s)) []
def wordC (wr : List Nat → List Nat) (c : Nat) (row : List Nat) : List Nat := [61, 63, c, 63] ++ wr row ++ [63, 61]
/-- a writer of octets -/
def spWr (wr : List Nat → List Nat) : Sp := fun vs H Q _ => ∃ (a : Addr) (l : List Nat), vs = [.ref a] ∧ H a = some (.lst (iv l)) ∧ (∀ n ∈ l, n < 256) ∧ l.length ≤ 9000 ∧ ∀ H', Same H H' → Q (.str (mk (wr l))) H'
theorem spSixes_wr : spSixes = spWr sixC := rfl
theorem spMarks_wr : spMarks = spWr (fun l => l.flatMap markC) := rfl
/-- rows at their places -/
structure RowsAt (H0 H : Hp) (As : List Addr) (rows : List (List Nat)) : Prop where
  len : As.length = rows.length
  nd : As.Nodup
  fresh : ∀ A ∈ As, H0 A = none
  at_ : ∀ (i : Nat) (A : Addr), As[i]? = some A → ∃ r, rows[i]? = some r ∧ H A = some (.lst (iv r))
theorem RowsAt.same {H0 H H1 : Hp} {As : List Addr} {rows : List (List Nat)} (R : RowsAt H0 H As rows) (s : Same H H1) : RowsAt H0 H1 As rows :=
  ⟨R.len, R.nd, R.fresh, fun i A h => let ⟨r, e, hA⟩ := R.at_ i A h; ⟨r, e, s _ _ hA⟩⟩
theorem RowsAt.other {H0 H : Hp} {As : List Addr} {rows : List (List Nat)} {p : Addr} {o : HO} (R : RowsAt H0 H As rows) (h : p ∉ As) : RowsAt H0 (upd H p o) As rows :=
  ⟨R.len, R.nd, R.fresh, fun i A e => let ⟨r, e2, hA⟩ := R.at_ i A e; ⟨r, e2, by
    have hne : A ≠ p := fun z => h (by rw [← z]; exact List.mem_of_getElem? e)
    rw [upd_ne hne]
    exact hA⟩⟩
theorem RowsAt.more {H0 H : Hp} {As : List Addr} {rows : List (List Nat)} {A : Addr} {o : List Nat} (R : RowsAt H0 H As rows) (hA : H A = some (.lst (iv o))) (nA : H0 A = none) (h : A ∉ As) : RowsAt H0 H (As ++ [A]) (rows ++ [o]) := by
  refine ⟨by simp [R.len], List.nodup_append.mpr ⟨R.nd, by simp, fun a ha b hb e => ?_⟩, fun B hB => ?_, fun i B e => ?_⟩
  · rw [List.mem_singleton.mp hb] at e
    exact h (e ▸ ha)
  · rcases List.mem_append.mp hB with hB | hB
    · exact R.fresh B hB
    · rw [List.mem_singleton.mp hB]
      exact nA
  · by_cases hi : i < As.length
    · rw [List.getElem?_append_left hi] at e
      obtain ⟨r, e2, h2⟩ := R.at_ i B e
      exact ⟨r, by rw [List.getElem?_append_left (by rw [← R.len]; exact hi)]; exact e2, h2⟩
    · rw [List.getElem?_append_right (by omega)] at e
      have hi2 : i = As.length := by
        have := (List.getElem?_eq_some_iff.mp e).1
        simp at this
        omega
      subst hi2
      rw [Nat.sub_self] at e
      injection e with e
      subst e
      exact ⟨o, by rw [List.getElem?_append_right (by rw [R.len]; exact Nat.le_refl _), R.len, Nat.sub_self]; rfl, hA⟩
/-- the last row made longer -/
theorem RowsAt.last {H0 H : Hp} {As : List Addr} {rows : List (List Nat)} {A : Addr} {o : List Nat} (R : RowsAt H0 H (As ++ [A]) (rows ++ [o])) {m : List Nat} : RowsAt H0 (upd H A (.lst (iv m))) (As ++ [A]) (rows ++ [m]) := by
  have hl : As.length = rows.length := by have := R.len; simp at this; exact this
  refine ⟨by simp [hl], R.nd, R.fresh, fun i B e => ?_⟩
  by_cases hi : i < As.length
  · obtain ⟨r, e2, h2⟩ := R.at_ i B e
    rw [List.getElem?_append_left hi] at e
    rw [List.getElem?_append_left (by omega)] at e2
    refine ⟨r, by rw [List.getElem?_append_left (by omega)]; exact e2, ?_⟩
    have hne : B ≠ A := fun z => by
      have := (List.nodup_append.mp R.nd).2.2 B (List.mem_of_getElem? e) A (by simp)
      exact this z
    rw [upd_ne hne]
    exact h2
  · have hi2 : i = As.length := by
      have := (List.getElem?_eq_some_iff.mp e).1
      simp at this
      omega
    subst hi2
    rw [List.getElem?_append_right (Nat.le_refl _), Nat.sub_self] at e
    injection e with e
    subst e
    exact ⟨m, by rw [hl, List.getElem?_append_right (Nat.le_refl _), Nat.sub_self]; rfl, upd_same⟩
end FL


namespace FL
open PySem PySem.Spec PyProof.Rows L2
theorem rows_data {H0 H : Hp} {K : PySem.W.Frag} : ∀ {As : List Addr} {rows : List (List Nat)}, As.length = rows.length → (∀ (i : Nat) (A : Addr), As[i]? = some A → ∃ r, rows[i]? = some r ∧ H A = some (.lst (iv r))) → DpAll K H (As.map V.ref) (rows.map fun r => PyData.list (idt r))
  | [], [], _, _ => .nil
  | A :: As, r :: rows, hl, h => by
    obtain ⟨r', e, hA⟩ := h 0 A rfl
    injection e with e
    subst e
    refine .cons (dpl hA) (rows_data (H0 := H0) (by simpa using hl) fun i B e => ?_)
    obtain ⟨r', e2, hB⟩ := h (i + 1) B e
    exact ⟨r', e2, hB⟩
  | [], _ :: _, hl, _ => by simp at hl
  | _ :: _, [], hl, _ => by simp at hl
theorem rows_sh (rows : List (List Nat)) : SeqAt.shaped (.list (rows.map fun r => PyData.list (idt r))) = true := by
  refine shaped_of ?_ ?_
  · rw [PyData.canLay0]
    refine canLayAll_of fun d hd => ?_
    obtain ⟨r, _, rfl⟩ := List.mem_map.mp hd
    exact (Bool.and_eq_true_iff.mp (shaped_ints r)).1
  · rw [PyData.depth]
    have : PyData.depthAll (rows.map fun r => PyData.list (idt r)) ≤ 1 := depthAll_of fun d hd => by
      obtain ⟨r, _, rfl⟩ := List.mem_map.mp hd
      rw [PyData.depth]
      have : PyData.depthAll (idt r) ≤ 0 := depthAll_of fun d hd => by
        obtain ⟨z, hz, rfl⟩ := List.mem_map.mp hd
        rw [PyData.depth]
        exact Nat.le_refl _
      omega
    omega
theorem octs_c2 (s : Nat) : octs s = [s] ∨ octs s = [192 + s / 64, 128 + s % 64] ∨ octs s = [224 + s / 4096, 128 + s % 4096 / 64, 128 + s % 64] := by
  unfold octs
  split
  · exact .inl rfl
  · split
    · exact .inr (.inl rfl)
    · exact .inr (.inr rfl)
theorem joinW {u : Str} {k : Nat} (hu : u = mk [k]) (ps : List (List Nat)) : Txt.join u (ps.map mk) = mk (TL.joinL [k] ps) := by
  refine mk_eq ?_
  show TL.tl _ = _
  rw [TL.join_eq, TL.tl_join]
  have e : TL.tl u = [k] := by
    show u.cps.toList = [k]
    rw [hu, mk_codes]
  rw [e, List.map_map]
  congr 1
  exact (List.map_congr_left (fun p _ => mk_codes p)).trans (List.map_id _)
theorem nil_sh : SeqAt.shaped (.list []) = true := rows_sh []
structure RowsOk (rows : List (List Nat)) (n : Nat) : Prop where
  lt : ∀ r ∈ rows, ∀ o ∈ r, o < 256
  len : ∀ r ∈ rows, r.length ≤ n
section
variable {P : Program} {w : World} {K : PySem.W.Frag} {mg : Str → Option Value} {base : Heap}
def spByWords (wr : List Nat → List Nat) (fW : Addr) : Sp := fun vs H Q _ => ∃ (a : Addr) (l : List Nat) (c : Nat), vs = [.ref a, .str (mk [c]), .ref fW] ∧ H a = some (.lst (iv l)) ∧ (∀ n ∈ l, 32 ≤ n ∧ n ≤ 65535) ∧ l.length ≤ 250 ∧
  ∀ H', Same H H' → Q (.str (mk (TL.joinL [32] ((rowsW wr octs l).map (wordC wr c))))) H'
end
end FL


namespace FL
open PySem PySem.Spec PyProof.Rows L2
/-- `=?` within a text -/
def hasQ (z : Str) : Bool := !(Builtin.Str.occurrences z ("=?" : Str) 0 z.length 1).isEmpty
/-- the value is the text itself -/
def ownT (l : List Nat) : Bool := l.all numb && (decide (mk l = Txt.stripChars (mk l) (" " : Str)) && !hasQ (mk l))
section
variable {P : Program} {w : World} {K : PySem.W.Frag} {mg : Str → Option Value} {base : Heap}
def spOwn : Sp := fun vs H Q _ => ∃ (a : Addr) (l : List Nat), vs = [.ref a] ∧ H a = some (.lst (iv l)) ∧ l.length ≤ 9000 ∧ ∀ H', Same H H' → (ownT l = true → Q (.str (mk l)) H') ∧ (ownT l = false → Q .non H')
end
end FL


namespace FL
open PySem PySem.Spec PyProof.Rows L2
theorem cutV_nat (xs : List V) (i j : Nat) : cutV xs (some (i : Nat)) (some (j : Nat)) = (xs.drop i).take (j - i) := by
  unfold cutV
  rw [HT.sIx_nat, HT.sIx_nat]
  by_cases h : i ≤ xs.length
  · rw [Nat.min_eq_left h]
    by_cases h2 : j ≤ xs.length
    · rw [Nat.min_eq_left h2]
    · rw [Nat.min_eq_right (by omega : xs.length ≤ j), List.take_of_length_le (by rw [List.length_drop]; exact Nat.le_refl _), List.take_of_length_le (by rw [List.length_drop]; omega)]
  · rw [Nat.min_eq_right (by omega : xs.length ≤ i), List.drop_eq_nil_of_le (Nat.le_refl xs.length), List.drop_eq_nil_of_le (by omega : xs.length ≤ i)]
    simp
theorem cutV_iv (l : List Nat) (i j : Nat) : cutV (iv l) (some (i : Nat)) (some (j : Nat)) = iv ((l.drop i).take (j - i)) := by
  rw [cutV_nat, ← iv_drop, ← iv_take]
section
variable {P : Program} {w : World} {K : PySem.W.Frag} {mg : Str → Option Value} {base : Heap}
/-- no list of such whole numbers -/
def NoInts (K : PySem.W.Frag) (f : Option Int → Bool) (H : Hp) (v : V) : Prop := (∃ t, TyX K H v t ∧ PySem.W.kitOne K t (.type "list") = some false) ∨
  (∃ a xs os, v = .ref a ∧ H a = some (.lst xs) ∧ xs.length ≤ 10000 ∧ Paired (Whole K H) xs os ∧ os.all f = false)
abbrev NoSay (K : PySem.W.Frag) := NoInts K fun o => o.any isSgnI
abbrev NoOct (K : PySem.W.Frag) := NoInts K fun o => o.any isOctI
theorem sp_all {f : Option Int → Bool} {H : Hp} {v : V} {Q : VK} {E : XK} (h : NoInts K f H v) (q : ∀ H', Same H H' → Q (.bl false) H') : spAll K f [v] H Q E := by
  rcases h with ⟨t, ht, hk⟩ | ⟨a, xs, os, rfl, hH, hl, hp, ha⟩
  · exact ⟨v, rfl, .inr ⟨t, ht, hk, q H (Same.refl H)⟩⟩
  · exact ⟨_, rfl, .inl ⟨a, xs, os, rfl, hH, hl, hp, fun H' s => by rw [ha]; exact q H' s⟩⟩
def spCheckSayX (K : PySem.W.Frag) (C : Addr) : Sp := fun vs H Q E => ∃ v, vs = [v] ∧ ((∃ a l, v = .ref a ∧ H a = some (.lst (iv l)) ∧ GS l ∧ ∀ H', Same H H' → Q .non H') ∨ (NoSay K H v ∧ Fails C "at" 0 H E))
def spOctetsOfX (K : PySem.W.Frag) (C : Addr) : Sp := fun vs H Q E => ∃ v, vs = [v] ∧ ((∃ a l, v = .ref a ∧ H a = some (.lst (iv l)) ∧ GS l ∧ ∀ H' p, Same H H' → H p = none → H' p = some (.lst (iv (octsOf l))) → Q (.ref p) H') ∨ (NoSay K H v ∧ Fails C "at" 0 H E))
def spSayingOfX (K : PySem.W.Frag) (C CN : Addr) : Sp := fun vs H Q E => ∃ v, vs = [v] ∧ ((∃ a l n R, v = .ref a ∧ H a = some (.lst (iv l)) ∧ GO l ∧ sayR l n 0 = some R ∧
    (∀ r, R = .ok r → ∀ H' p, Same H H' → H p = none → H' p = some (.lst (iv r)) → Q (.ref p) H') ∧ (∀ p : Nat, R = .error p → Fails C "at" p H E)) ∨ (NoOct K H v ∧ ∀ H', Same H H' → E (.ref CN) none H'))
def glueR (acc : List Nat) : Except Nat (List Nat) → Except Nat (List Nat)
  | .ok r => .ok (acc ++ r)
  | .error q => .error q
theorem scSayingOf : FnScope ["octets", "saying", "place", "taken", "sign"] ["octets"] (defScope sSayingOf) := ⟨rfl, rfl, rfl, by decide +kernel, rfl, by decide +kernel, by decide +kernel⟩
theorem x_saying_of {C CN : Addr} (MNoSaying : MkFld P w K mg base "NoSaying" C "at") (MNoOctets : MkN P w K mg base "NoOctets" CN) (A : FnAt K mg "saying_of" sSayingOf) (RI : Ready P w K mg base 3 "is_octets" ["value"] (spAll K fun o => o.any isOctI))
    (RF : Ready P w K mg base 1 "_size_from" ["octet"] (spNat sizeFrom)) (RS : Ready P w K mg base 3 "_sign_of_octets" ["octets"] (spSignOf K)) (m_len : mg "len" = none) :
    ReadyKX P w K mg base 4 "saying_of" ["octets"] (spSayingOfX K C CN) (fun fd => KBs K fd ["octets"]) := by
  obtain ⟨f1, fd1, g1, k1, b1, G1⟩ := RI
  obtain ⟨f2, fd2, g2, k2, b2, G2⟩ := RF
  obtain ⟨f3, fd3, g3, k3, b3, G3⟩ := RS
  refine readyKX_of A (fun _ _ _ _ _ _ us hl => match us, hl with | [_], _ => rfl) (fun f fd F => kb_of F fun _ _ _ _ _ _ us hl => match us, hl with | [_], _ => rfl) fun f fd F => ?_
  refine F.okX scSayingOf (fun vs H Q E h => ?_) (fun cdv A outer s H vs Q E hr h => ?_)
  · obtain ⟨v, rfl, _⟩ := h
    rfl
  · obtain ⟨v, rfl, h⟩ := h
    have sc := scSayingOf
    refine ⟨_, pss_cons (ps_if (pt_not (pt_val (pe_call G1 (hr.mono (by decide)) (by rfl) g1 k1 b1 .nil pass0 (pa_cons (pv 0) pa_nil))))
        (pss_one (ps_raise rfl (takes_of rfl rfl rfl rfl) (pmk_non MNoOctets (hr.mono (by decide)) (by rfl) (pa_cons pe_str pa_nil))))
        pss_nil)
      (pss_cons (ps_set (i := 1) sc.nd rfl (.inl rfl) (pe_lst pa_nil))
      (pss_cons (ps_set (i := 2) sc.nd rfl (.inl rfl) pe_int)
      (pss_cons (ps_while (passes_of rfl) (pt_cmpR op_lt (pv 2) (pe_callB call_len_seq (by rfl) m_len PySem.boot_len (pa_cons (pv 0) pa_nil)) (nomark _))
        (pss_cons (ps_set (i := 3) sc.nd rfl (.inl rfl) (pe_slice sl_list (pv 0) (po_some (pv 2)) (po_some (pe_op op_add (pv 2) (pe_call G2 (hr.mono (by decide)) (by rfl) g2 k2 b2 .nil pass0 (pa_cons (pe_ix ix_list (pv 0) (pv 2) (fun _ _ => rfl)) pa_nil))))))
          (pss_cons (ps_set (i := 4) sc.nd rfl (.inl rfl) (pe_call G3 (hr.mono (by decide)) (by rfl) g3 k3 b3 .nil pass0 (pa_cons (pv 3) pa_nil)))
          (pss_cons (ps_if (pt_cmpR op_isN (pv 4) pe_non (nomark _))
            (pss_one (ps_raise rfl (takes_of rfl rfl rfl rfl) (pmk_fld MNoSaying (hr.mono (by decide)) (by rfl) (pa_cons pe_str (pa_cons (pv 2) pa_nil)) [] (.inl rfl))))
            pss_nil)
          (pss_cons (ps_expr (pe_bm PySem.F.plainAttrs_list PySem.F.slot_list_append PySem.F.type_list_append mt_append (pv 1) (pa_cons (pv 4) pa_nil)))
          (pss_one (ps_aug (i := 2) sc.nd rfl (.inl rfl) (pe_callB call_len_seq (by rfl) m_len PySem.boot_len (pa_cons (pv 3) pa_nil)) ip_add)))))))
      (pss_one (ps_ret (pv 1)))))), ?_⟩
    rcases h with ⟨a, l, n, R, rfl, hH, hl, hR, q, qe⟩ | ⟨hno, qe⟩
    · refine ⟨_, rfl, _, rfl, .inl ⟨a, iv l, _, rfl, hH, by rw [iv_len]; have := hl.2; omega, whole_ints l, fun H1 s1 => ?_⟩⟩
      rw [all_oct hl.1]
      refine ⟨_, rfl, iteF ?_⟩
      refine ⟨by show 0 ≤ sizeLine; decide, fun sp np => ?_⟩
      have np0 : H sp = none := Same.free s1 np
      refine ⟨fun m σ H' => ∃ (p n : Nat) (acc : List Nat) (y3 y4 : Option V) (R' : Except Nat (List Nat)), σ = [some (.ref a), some (.ref sp), some (.int (p : Nat)), y3, y4] ∧ Same H H' ∧ H' sp = some (.lst (iv acc)) ∧ acc.length ≤ p ∧ p ≤ l.length ∧ m = l.length - p ∧
        sayR l n p = some R' ∧ R = glueR acc R', ⟨l.length, 0, n, [], none, none, R, rfl, s1.trans (same_new np), upd_same, Nat.le_refl _, Nat.zero_le _, rfl, hR, by cases R <;> rfl⟩, fun m σ H' hW => ?_⟩
      obtain ⟨p, n, acc, y3, y4, R', rfl, sm, hs, hap, hp, rfl, hR', hg⟩ := hW
      refine ⟨_, rfl, _, rfl, a, _, rfl, .inl (SqL.of (sm _ _ hH)), _, _, rfl, rfl, _, rfl, ?_⟩
      rw [iv_len]
      by_cases h1 : p < l.length
      · rw [decide_eq_true (by omega : (p : Int) < (l.length : Int))]
        obtain ⟨o, ho⟩ : ∃ o, l[p]? = some o := ⟨_, List.getElem?_eq_getElem h1⟩
        refine iteT ⟨fun σ' H'' => ∃ (p' n' : Nat) (acc' : List Nat) (y3 y4 : Option V) (R'' : Except Nat (List Nat)), σ' = [some (.ref a), some (.ref sp), some (.int (p' : Nat)), y3, y4] ∧ Same H H'' ∧ H'' sp = some (.lst (iv acc')) ∧ acc'.length ≤ p' ∧ p' ≤ l.length ∧ p < p' ∧
          sayR l n' p' = some R'' ∧ R = glueR acc' R'', fun σ' H'' hN => ?_, ?_⟩
        · obtain ⟨p', n', acc', y3', y4', R'', rfl, a1, a2, a3, a4, a5, a6, a7⟩ := hN
          exact ⟨l.length - p', by omega, p', n', acc', y3', y4', R'', rfl, a1, a2, a3, a4, rfl, a6, a7⟩
        · refine ⟨_, rfl, _, rfl, _, rfl, _, rfl, _, rfl, _, rfl, a, _, _, .int (o : Nat), rfl, rfl, SqL.of (sm _ _ hH), atI_nat (iv_at ho), o, rfl, _, _, rfl, rfl, _, rfl, a, _, rfl, SqL.of (sm _ _ hH), fun t nt => ?_⟩
          have e1 : ((p : Int) + (sizeFrom o : Nat)) = ((p + sizeFrom o : Nat) : Int) := rfl
          rw [e1, cutV_iv, Nat.add_sub_cancel_left]
          generalize hT : (l.drop p).take (sizeFrom o) = T
          have hsz : 1 ≤ sizeFrom o ∧ sizeFrom o ≤ 3 := by unfold sizeFrom; split <;> (try split) <;> omega
          have hT1 : T.length = min (sizeFrom o) (l.length - p) := by rw [← hT, List.length_take, List.length_drop]
          have nsp : sp ≠ t := ne_of_none hs nt
          have nt0 : H t = none := Same.free sm nt
          have hTb : ∀ x ∈ T, x < 256 := fun x hx => hl.1 x (by rw [← hT] at hx; exact List.mem_of_mem_drop (List.mem_of_mem_take hx))
          refine ⟨_, rfl, t, T, rfl, upd_same, by omega, by omega, hTb, fun H4 s4 => ?_⟩
          have hs4 : H4 sp = some (.lst (iv acc)) := s4 _ _ (by rw [upd_ne nsp]; exact hs)
          have ht4 : H4 t = some (.lst (iv T)) := s4 _ _ upd_same
          have sm4 : Same H H4 := (sm.trans (same_new nt)).trans s4
          have hstep : sayR l n p = match n with | 0 => none | n + 1 => (match signR T with
              | none => some (.error p)
              | some s => (sayR l n (p + T.length)).map fun
                | .ok r => .ok (s :: r)
                | .error q => .error q) := by
            cases n with
            | zero => unfold sayR; rw [if_pos h1]
            | succ n =>
              rw [sayR, ho]
              dsimp only
              rw [hT]
              try rfl
          rw [hstep] at hR'
          cases n with
          | zero => cases hR'
          | succ n =>
            dsimp only at hR'
            refine ⟨_, rfl, rfl, _, rfl, ?_⟩
            cases hsg : signR T with
            | none =>
              rw [hsg] at hR'
              dsimp only at hR'
              injection hR' with hR'
              subst hR'
              refine iteT ⟨_, rfl, ?_⟩
              exact mk_leaf rfl (Nat.le_refl 2) (fun d H2 s2 nn e => (qe p hg).later sm4 d H2 s2 nn e)
            | some sg =>
              rw [hsg] at hR'
              dsimp only at hR'
              obtain ⟨R2, hR2, hR3⟩ := Option.map_eq_some_iff.mp hR'
              refine iteF ?_
              refine ⟨_, rfl, .inl ⟨rfl, _, SqL.of hs4⟩, _, rfl, sp, _, _, rfl, rfl, hs4, by rw [iv_len]; have := hl.2; exact szl (by omega), ?_⟩
              have hst : t ≠ sp := nsp.symm
              refine ⟨_, rfl, _, rfl, t, _, rfl, .inl (SqL.of (by rw [upd_ne hst]; exact ht4)), _, _, rfl, rfl, ?_⟩
              refine ⟨p + T.length, n, acc ++ [sg], _, _, R2, by rw [iv_len]; rfl, same_set sm4 np0, by rw [upd_same, iv_app]; rfl, by rw [List.length_append, List.length_singleton]; omega, by omega, by omega, hR2, ?_⟩
              rw [hg, ← hR3]
              cases R2 with
              | ok r => show Except.ok (acc ++ (sg :: r)) = Except.ok ((acc ++ [sg]) ++ r); rw [List.append_assoc]; rfl
              | error e => rfl
      · rw [decide_eq_false (by omega : ¬ (p : Int) < (l.length : Int))]
        have hend : sayR l n p = some (.ok []) := by
          cases n with
          | zero => unfold sayR; rw [if_neg h1]
          | succ n => rw [sayR, List.getElem?_eq_none (by omega)]
        rw [hend] at hR'
        injection hR' with hR'
        subst hR'
        refine iteF ⟨_, rfl, q acc (by rw [hg]; show Except.ok (acc ++ []) = _; rw [List.append_nil]) H' sp sm np0 hs⟩
    · refine ⟨_, rfl, ?_⟩
      unfold tNil
      refine sp_all hno fun H' s => ⟨_, rfl, iteT ?_⟩
      exact ⟨⟨_, rfl⟩, qe H' s⟩
theorem sayR_octs {l : List Nat} (h : ∀ n ∈ l, 32 ≤ n ∧ n ≤ 65535) : ∀ (a b : List Nat), l = a ++ b → sayR (octsOf l) b.length (octsOf a).length = some (.ok b) := by
  intro a b e
  induction b generalizing a with
  | nil =>
    subst e
    rw [List.append_nil]
    rw [List.length_nil, sayR, if_neg (Nat.lt_irrefl _)]
  | cons x r ih =>
    have hx := h x (by rw [e]; simp)
    have hd : (octsOf l).drop (octsOf a).length = octs x ++ octsOf r := by
      rw [e]
      unfold octsOf
      rw [List.flatMap_append, List.drop_left, List.flatMap_cons]
    have hp := octs_pos x
    obtain ⟨o, t, ho⟩ : ∃ o t, octs x = o :: t := by
      cases hh : octs x with
      | nil => rw [hh] at hp; simp at hp
      | cons o t => exact ⟨o, t, rfl⟩
    have hat : (octsOf l)[(octsOf a).length]? = some o := by
      have : ((octsOf l).drop (octsOf a).length)[0]? = some o := by rw [hd, ho]; rfl
      rw [List.getElem?_drop] at this
      exact this
    have hsz : sizeFrom o = (octs x).length := by
      have := size_octs x hx.2
      rw [ho] at this ⊢
      exact this
    have htk : ((octsOf l).drop (octsOf a).length).take (sizeFrom o) = octs x := by rw [hd, hsz, List.take_left]
    rw [List.length_cons, sayR, hat]
    dsimp only
    rw [htk, signR_octs hx.1 hx.2]
    dsimp only
    have e2 : (octsOf a).length + (octs x).length = (octsOf (a ++ [x])).length := by
      unfold octsOf
      rw [List.flatMap_append, List.length_append, List.flatMap_cons, List.flatMap_nil, List.append_nil]
    rw [e2, ih (a ++ [x]) (by rw [e]; simp)]
    rfl
end
end FL


namespace FL
open PySem PySem.Spec PyProof.Rows L2
def marksC (l : List Nat) : List Nat := l.flatMap markC
theorem marksC_len (l : List Nat) : (marksC l).length ≤ 3 * l.length + 2 := by
  unfold marksC
  induction l with
  | nil => simp
  | cons a r ih =>
    have := markC_len a
    rw [List.flatMap_cons, List.length_append, List.length_cons]
    omega
theorem sixC_len3 (l : List Nat) : (sixC l).length ≤ 3 * l.length + 2 := by
  have := sixC_len l
  omega
/-- the value by words of a writer -/
def byC (wr : List Nat → List Nat) (c : Nat) (l : List Nat) : List Nat := TL.joinL [32] ((rowsW wr octs l).map (wordC wr c))
def codedC (l : List Nat) : List Nat := if ownT l = true then l else if (byC sixC 115 l).length < (byC marksC 109 l).length then byC sixC 115 l else byC marksC 109 l
section
variable {P : Program} {w : World} {K : PySem.W.Frag} {mg : Str → Option Value} {base : Heap}
def spCodedX (K : PySem.W.Frag) (C : Addr) : Sp := fun vs H Q E => ∃ v, vs = [v] ∧ ((∃ a l, v = .ref a ∧ H a = some (.lst (iv l)) ∧ GS l ∧ l.length ≤ 250 ∧ ((byC sixC 115 l).length ≤ 10000000 ∧ (byC marksC 109 l).length ≤ 10000000) ∧ ∀ H', Same H H' → Q (.str (mk (codedC l))) H') ∨ (NoSay K H v ∧ Fails C "at" 0 H E))
end
end FL


namespace FL
open PySem PySem.Spec PyProof.Rows L2
/-! ### enumerate of a text -/
/-- each sign with its place, in a new pair -/
def IteS (z : Str) : It :=
  ⟨fun i _ => i < z.cps.size, fun i H v H' => ∃ T c, v = .ref T ∧ H T = none ∧ H' = upd H T (.tup [.int (i : Nat), .str ⟨#[c]⟩]) ∧ z.cps[i]? = some c, fun i _ => z.cps.size ≤ i⟩
theorem turn_enumS {P : Program} {w : World} {K : PySem.W.Frag} {elts : List Expr} {kk : Nat} {tpos : Pos} (e it : Addr) (z : Str) (t : Tok) :
    Turn P w K (.Tuple elts kk tpos) (IteS z) [e, it] e (fun i h => (∃ old, IsEnum h e it ((i : Nat) : Int) old) ∧ h.IsStrIter it (strIterType z) z t i ∧ e ≠ it ∧ i ≤ z.cps.size) where
  mem := by simp
  obj := fun i h st b hb => by
    obtain ⟨⟨old, he⟩, ⟨o, ho, hc, hd⟩, _⟩ := st
    have e' : b = e ∨ b = it := by simpa using hb
    rcases e' with z | z
    · rw [z]; exact ⟨_, he, fun v q => nomatch q⟩
    · rw [z]; exact ⟨o, ho, fun v q => by rw [hd] at q; cases q⟩
  keep := fun i h h' st k => let ⟨⟨old, he⟩, hi, hne⟩ := st; ⟨⟨old, k e (by simp) _ he⟩, (let ⟨o, ho, r⟩ := hi; ⟨o, k it (by simp) o ho, r⟩), hne⟩
  item := by
    intro X hP hw hK hc i pins s σ H E I hf st hg
    subst hP hw hK
    obtain ⟨⟨old, he⟩, hit, hne, hle⟩ := st
    have hg : i < z.cps.size := hg
    have hel : e < s.heap.objs.size := Heap.lt_size he
    have hil : it < s.heap.objs.size := by obtain ⟨_, q, _⟩ := id hit; exact Heap.lt_size q
    have D := Draws.text (prog := X.prog) (w := X.w) (A := X.A.in1) (I.ok.hd hc) it z t
    refine wpAny_pyNext_enum_itemD D he hit hg hne (by simpa using hne) fun x h' tk hx ho hit' hT hsz hk => ?_
    obtain ⟨c, u, hcx, rfl⟩ := hx
    refine ⟨_, rfl, wpAny_letOwnedTupleGo_enum (s := { s with heap := h', toks := tk + 1 }) ho fun h'' he' sb => ?_⟩
    have hT2 : h''.get? s.heap.objs.size = some { cls := .type "tuple", data := .seq #[.int i tk, .str ⟨#[c]⟩ u] } := (sb.2 _ (Nat.ne_of_gt hel)).trans hT
    have new : ObjOk X.prog X.w (upd H s.heap.objs.size (.tup [.int (i : Nat), .str ⟨#[c]⟩])) h'' s.heap.objs.size (.tup [.int (i : Nat), .str ⟨#[c]⟩]) :=
      ⟨by show 2 ≤ sizeLine; decide, [.int i tk, .str ⟨#[c]⟩ u], .cons ⟨_, rfl⟩ (.cons ⟨_, rfl⟩ .nil), ⟨_, hT2, rfl, _, rfl⟩⟩
    have I1 : Inv X pins σ (upd H s.heap.objs.size (.tup [.int (i : Nat), .str ⟨#[c]⟩])) { s with heap := h'', toks := tk + 1 } :=
      I.turnedNew (ch := [e, it]) (fun b ob hb q => (sb.2 b (fun z => hb (by simp [z]))).trans (hk b ob (fun z => hb (by simp [z])) (fun z => hb (by simp [z])) q)) hf (Nat.le_refl _) new
    refine ⟨.ref s.heap.objs.size, _, I1, rfl, ⟨_, c, rfl, I.hok.fresh (Nat.le_refl _), rfl, hcx⟩, ⟨⟨.str ⟨#[c]⟩ u, ?_⟩, ?_, hne, hg⟩, fun b hb => ?_⟩
    · have e1 : ((i + 1 : Nat) : Int) = (i : Int) + 1 := by omega
      rw [e1]; exact he'
    · obtain ⟨o, ho2, r⟩ := hit'
      exact ⟨o, (sb.2 it (Ne.symm hne)).trans ho2, r⟩
    · have hb' : b < s.heap.objs.size := by
        have e' : b = e ∨ b = it := by simpa using hb
        rcases e' with z | z
        · rw [z]; exact hel
        · rw [z]; exact hil
      rw [upd_ne (Nat.ne_of_lt hb')]
      exact (hf b hb).1
  done := by
    intro X hP hw hK hc i pins s σ H E I hf st hg
    subst hP hw hK
    obtain ⟨⟨old, he⟩, hit, hne, hle⟩ := st
    have hg : z.cps.size ≤ i := hg
    have ei : i = z.cps.size := by omega
    subst ei
    obtain ⟨f0, f1, f2, f3, f4, f5⟩ := hf it (by simp)
    have D := Draws.text (prog := X.prog) (w := X.w) (A := X.A.in1) (I.ok.hd hc) it z t
    exact wpAny_pyNext_enum_endD D he hit fun h' eb => ⟨rfl, I.turned (t' := s.toks) (fun b o hb q => eb b o hb q) f0 f1 f3 f4 f5⟩
  self := fun A i s Q E st h => let ⟨⟨_, he⟩, _⟩ := st; wpAny_pyIter_enum he h
def iEnumS (ta : TA) : TI := fun σ H R => ta σ H fun vs H1 => ∃ z, vs = [.str z] ∧ R (IteS z) H1
theorem pi_enumS {X : Cx} {e : Expr} {ta : TA} {p pos tpos : Pos} {elts : List Expr} {kk : Nat} (hg : Gl X "enumerate") (hm : X.mg "enumerate" = none) (ha : PA X [e] ta) (hs : starEach [e] X.env = [(false, eval e X.env)] := by rfl) :
    PI X (.Tuple elts kk tpos) (.Call (.Name "enumerate" p) [e] [] pos) (iEnumS ta) := by
  refine ⟨fun pins s σ H R I h => ?_⟩
  refine Call_ (ld_blt I hg hm boot_enumerate (PyProof.Rows.callWith_type1 (thn (ha.run pos pins s σ H _ I h) fun us s1 ⟨vs, H1, I1, r1, q1⟩ => ?_) hs rfl))
  obtain ⟨z, ex, q⟩ := q1
  subst ex
  cases r1 with
  | cons r rr =>
    cases rr
    obtain ⟨t, rfl⟩ := r
    refine call_enumerate_str fun h' he hit hsz hk => wpAny_pyIter_enum he ?_
    have I2 : Inv X pins σ H1 { s1 with heap := h' } := I1.kept (t' := s1.toks) hk
    refine ⟨s1.heap.objs.size + 1, [s1.heap.objs.size + 1, s1.heap.objs.size], _, _, H1, rfl, I2, turn_enumS (s1.heap.objs.size + 1) s1.heap.objs.size z t, ⟨⟨.none, he⟩, hit, Nat.succ_ne_self _, Nat.zero_le _⟩, fun b hb => ?_, q⟩
    have e' : b = s1.heap.objs.size + 1 ∨ b = s1.heap.objs.size := by simpa using hb
    have hle : s1.heap.objs.size ≤ b := by
      rcases e' with z | z
      · rw [z]; exact Nat.le_add_right _ _
      · rw [z]; exact Nat.le_refl _
    exact I1.fpOk hle (I1.hok.fresh hle)
theorem walk_enumS {z : Str} : Walk (IteS z) z.cps.size (fun _ => True) (fun i H v H' => ∃ T c, v = .ref T ∧ H T = none ∧ H' = upd H T (.tup [.int (i : Nat), .str ⟨#[c]⟩]) ∧ z.cps[i]? = some c) :=
  ⟨fun _ _ hi _ => hi, fun _ _ => Nat.le_refl _, fun _ _ _ _ _ _ y => y⟩
end FL


namespace FL
open PySem PySem.Spec PyProof.Rows L2
/-! ### octets by a code: what is checked ahead -/
theorem ends_lf (x : Str) : Txt.endswith x ("\n" : Str) = decide (x.cps.toList.getLast? = some 10) := by
  rcases List.eq_nil_or_concat x.cps.toList with h | ⟨l, c, h⟩
  · have hx := len_cps x
    rw [h] at hx
    unfold Txt.endswith
    rw [decide_eq_false (by rw [← hx]; show ¬ 0 + 1 ≤ 0; omega), h]
    rfl
  · rw [List.concat_eq_append] at h
    have e : x = mk l ++ mk [c] := by rw [mk_app, ← h, mk_of]
    rw [e, PySem.W.KAf.ends_right (by rw [mk_len]; show ("\n" : Str).length ≤ 1; decide +kernel)]
    rw [show (mk l ++ mk [c]).cps.toList = l ++ [c] from by rw [mk_app, mk_codes]]
    rw [List.getLast?_append]
    unfold Txt.endswith
    rw [PySem.StrLaws.subAt_eq]
    have l1 : ("\n" : Str).length = 1 := by decide +kernel
    have c1 : ("\n" : Str).cps.toList = [10] := by decide +kernel
    rw [l1, c1, mk_len, mk_codes]
    show (decide (0 + 1 ≤ 1) && ([c] == [10])) = decide (some c = some 10)
    by_cases hc : c = 10
    · subst hc
      rfl
    · rw [decide_eq_false (show ¬ some c = some 10 by simpa using hc)]
      simp [hc]
def NoIntsC (K : PySem.W.Frag) (f : Option Int → Bool) (H : Hp) (v : V) : Prop := (∃ t, TyX K H v t ∧ PySem.W.kitOne K t (.type "list") = some false) ∨
  (∃ a xs os, v = .ref a ∧ H a = some (.lst xs) ∧ xs.length ≤ 10000 ∧ Paired (Whole K H) xs os ∧ os.all f = false)
abbrev NoOctC (K : PySem.W.Frag) := NoIntsC K fun o => o.any isOctI
theorem sp_allC {K : PySem.W.Frag} {f : Option Int → Bool} {H : Hp} {v : V} {Q : VK} {E : XK} (h : NoIntsC K f H v) (q : ∀ H', Same H H' → Q (.bl false) H') : spAll K f [v] H Q E := by
  rcases h with ⟨t, ht, hk⟩ | ⟨a, xs, os, rfl, hH, hl, hp, ha⟩
  · exact ⟨v, rfl, .inr ⟨t, ht, hk, q H (Same.refl H)⟩⟩
  · exact ⟨_, rfl, .inl ⟨a, xs, os, rfl, hH, hl, hp, fun H' s => by rw [ha]; exact q H' s⟩⟩
structure OctL (l : List Nat) : Prop where
  lt : ∀ n ∈ l, n < 256
  len : l.length ≤ 2000
section
variable {P : Program} {w : World} {K : PySem.W.Frag} {mg : Str → Option Value} {base : Heap}
def spCheckOctX (K : PySem.W.Frag) (CN : Addr) : Sp := fun vs H Q E => ∃ v, vs = [v] ∧ ((∃ a l, v = .ref a ∧ H a = some (.lst (iv l)) ∧ OctL l ∧ ∀ H', Same H H' → Q .non H') ∨ (NoOctC K H v ∧ ∀ H', Same H H' → E (.ref CN) none H'))
/-- the tables of writers and readers -/
def spCheckCodeX (K : PySem.W.Frag) (C WR : Addr) : Sp := fun vs H Q E => ∃ v, vs = [v] ∧ ((∃ (z : Str) (r : Option Value), v = .str z ∧ PySem.W.nsIn K WR z = some r ∧ (r.isSome = true → Q .non H) ∧ (r = none → Fails C "at" 0 H E)) ∨
  (∃ t, TyX K H v t ∧ PySem.W.kitOne K t (.type "str") = some false ∧ Fails C "at" 0 H E))
theorem scCheckCode : FnScope ["value"] ["value"] (defScope sCheckCode) := ⟨rfl, rfl, rfl, by decide +kernel, rfl, by decide +kernel, by decide +kernel⟩
theorem x_check_code {C WR : Addr} {es : Array DictEntry} {n : Nat} (MNoCode : MkFld P w K mg base "NoCode" C "at") (A : FnAt K mg "_check_code" sCheckCode) (D : KDict K w WR es n) (m_WRITERS : mg "WRITERS" = some (.ref WR)) (m_isinstance : mg "isinstance" = none) (m_str : mg "str" = none) :
    ReadyX P w K mg base 4 "_check_code" ["value"] (spCheckCodeX K C WR) := by
  refine readyX_of A (fun _ _ _ _ _ _ us hl => match us, hl with | [_], _ => rfl) fun f fd F => ?_
  refine F.okX scCheckCode (fun vs H Q E h => ?_) (fun cdv A outer s H vs Q E hr h => ?_)
  · obtain ⟨v, rfl, _⟩ := h
    rfl
  · obtain ⟨v, rfl, h⟩ := h
    have sc := scCheckCode
    refine ⟨_, pss_one (ps_if (PW.pt (pw_or (pt_not (pt_val (pe_callB call_isi (by rfl) m_isinstance (by decide +kernel) (pa_cons (pv 0) (pa_cons (pe_bltn (v := .ty "str") (by rfl) m_str (by decide +kernel) rfl) pa_nil))))) (pw_or1 (pt_cmpR (op_notIn_kd D) (pv 0) (pe_glob (v := .ref WR) rfl m_WRITERS rfl) (by rfl)))))
        (pss_one (ps_raise rfl (takes_of rfl rfl rfl rfl) (pmk_fld MNoCode (hr.mono (by decide)) (by rfl) (pa_cons pe_str pa_nil) [.int 0] (.inr rfl))))
        pss_nil), ?_⟩
    rcases h with ⟨z, r, rfl, hr2, qy, qn⟩ | ⟨t, ht, hk, qe⟩
    · refine ⟨_, rfl, _, _, .type "str", .type "str", true, rfl, ClsV.ty "str", .base (.str _), kit_ty (by decide +kernel), _, rfl, iteF ?_⟩
      refine ⟨_, rfl, _, r, rfl, rfl, hr2, _, rfl, ?_⟩
      cases r with
      | some x => exact iteF (qy rfl)
      | none => exact iteT (mk_leaf rfl (by decide) (qn rfl))
    · exact ⟨_, rfl, _, _, t, .type "str", false, rfl, ClsV.ty "str", ht, hk, _, rfl, iteT (iteT (mk_leaf rfl (by decide) qe))⟩
/-- octets by a code -/
def spWrC (wr : List Nat → List Nat) : Sp := fun vs H Q _ => ∃ (a : Addr) (l : List Nat), vs = [.ref a] ∧ H a = some (.lst (iv l)) ∧ OctL l ∧ ∀ H', Same H H' → Q (.str (mk (wr l))) H'
def spWrittenX (K : PySem.W.Frag) (CN : Addr) (code : Str) (wr : List Nat → List Nat) : Sp := fun vs H Q E => ∃ v, vs = [v, .str code] ∧ ((∃ a l, v = .ref a ∧ H a = some (.lst (iv l)) ∧ OctL l ∧ ∀ H', Same H H' → Q (.str (mk (wr l))) H') ∨ (NoOctC K H v ∧ ∀ H', Same H H' → E (.ref CN) none H'))
abbrev kbW (K : PySem.W.Frag) (fd : FuncData) : Prop := KBr K fd "octets" "code"
/-- octets read -/
abbrev RdC := List Nat → Except Nat (List Nat)
def readBy (rd : RdC) (l : List Nat) : Except Nat (List Nat) := match rd l with
  | .error p => .error p
  | .ok o => if l ≠ [] ∧ l.getLast? ≠ some 10 then .error l.length else .ok o
def spRdC (C : Addr) (rd : RdC) : Sp := fun vs H Q E => ∃ z : Str, vs = [.str z] ∧ z.length ≤ 10000 ∧ allSig z.cps.toList = true ∧ (∀ o, rd z.cps.toList = .ok o → ∀ H' p, Same H H' → H p = none → H' p = some (.lst (iv o)) → Q (.ref p) H') ∧ (∀ p : Nat, rd z.cps.toList = .error p → Fails C "at" p H E)
def spReadX (K : PySem.W.Frag) (C : Addr) (code : Str) (rd : RdC) : Sp := fun vs H Q E => ∃ v, vs = [v, .str code] ∧ ((∃ z : Str, v = .str z ∧ z.length ≤ 10000 ∧ allSig z.cps.toList = true ∧ (∀ o, readBy rd z.cps.toList = .ok o → ∀ H' p, Same H H' → H p = none → H' p = some (.lst (iv o)) → Q (.ref p) H') ∧ (∀ p : Nat, readBy rd z.cps.toList = .error p → Fails C "at" p H E)) ∨
  (((∃ z : Str, v = .str z ∧ z.length ≤ 10000 ∧ allSig z.cps.toList = false) ∨ (∃ t, TyX K H v t ∧ PySem.W.kitOne K t (.type "str") = some false)) ∧ Fails C "at" 0 H E))
theorem scReadBy : FnScope ["text", "code", "reader", "octets"] ["text", "code"] (defScope sReadBy) := ⟨rfl, rfl, rfl, by decide +kernel, rfl, by decide +kernel, by decide +kernel⟩
abbrev kbR (K : PySem.W.Frag) (fd : FuncData) : Prop := KBr K fd "text" "code"
theorem x_read_by {C WR RD fR : Addr} {fdR : FuncData} {psR : List Str} {kk : Nat} {code : Str} {rd : RdC} (MNoCode : MkFld P w K mg base "NoCode" C "at") (A : FnAt K mg "read_by" sReadBy) (R1 : Ready P w K mg base 2 "is_text" ["value"] (spLine K allSig)) (R2 : ReadyX P w K mg base 4 "_check_code" ["value"] (spCheckCodeX K C WR))
    (m_READERS : mg "READERS" = some (.ref RD)) (m_len : mg "len" = none) {es : Array DictEntry} {n : Nat} (D : KDict K w RD es n) {rw_ : Value} (hw : PySem.W.nsIn K WR code = some (some rw_)) (hs : PySem.W.nsIn K RD code = some (some (.ref fR)))
    (GR : FnOk P w K mg base (L2.CX P w) kk fR fdR psR (spRdC C rd)) (hk4 : kk ≤ 6) (kR : PySem.W.keepIn K (.ref fR) = true) (bR : L2.Binds K fdR psR []) :
    ReadyKX P w K mg base 7 "read_by" ["text", "code"] (spReadX K C code rd) (kbR K) := by
  obtain ⟨f1, fd1, g1, k1, b1, G1⟩ := R1
  obtain ⟨f2, fd2, g2, k2, b2, G2⟩ := R2
  refine readyKX_of A (fun _ _ _ _ _ _ us hl => match us, hl with | [_, _], _ => rfl) (fun f fd F => kbr_of F fun _ _ _ _ _ _ a b => rfl) fun f fd F => ?_
  refine F.okX scReadBy (fun vs H Q E h => ?_) (fun cdv A outer s H vs Q E hr h => ?_)
  · obtain ⟨v, rfl, _⟩ := h
    rfl
  · obtain ⟨v, rfl, h⟩ := h
    have sc := scReadBy
    refine ⟨_, pss_cons (ps_if (pt_not (pt_val (pe_call G1 (hr.mono (by decide)) (by rfl) g1 k1 b1 .nil pass0 (pa_cons (pv 0) pa_nil))))
        (pss_one (ps_raise rfl (takes_of rfl rfl rfl rfl) (pmk_fld MNoCode (hr.mono (by decide)) (by rfl) (pa_cons pe_str pa_nil) [.int 0] (.inr rfl))))
        pss_nil)
      (pss_cons (ps_expr (pe_call G2 (hr.mono (by decide)) (by rfl) g2 k2 b2 .nil (E := E) (passes_call (takes_of rfl rfl rfl rfl) (fun _ _ _ _ h => h)) (pa_cons (pv 1) pa_nil)))
      (pss_cons (ps_set (i := 2) sc.nd rfl (.inl rfl) (pe_ix ix_kdict (pe_glob (v := .ref RD) rfl m_READERS rfl) (pv 1) (fun _ _ => rfl)))
      (pss_cons (ps_set (i := 3) sc.nd rfl (.inl rfl) (pe_callL (i := 2) GR (hr.mono hk4) rfl (by first | exact .inl rfl | exact .inr (.inl rfl) | exact .inr (.inr rfl)) kR bR .nil (E := E) (passes_call (takes_of rfl rfl rfl rfl) (fun _ _ _ _ h => h)) (pa_cons (pv 0) pa_nil)))
      (pss_cons (ps_if (PW.pt (pw_and (pt_cmpR op_ne (pv 0) pe_str (nomark _)) (pw_and1 (pt_not (pt_val (pe_bm PySem.F.plainAttrs_str PySem.F.slot_str_endswith PySem.F.type_str_endswith mt_endswith (pv 0) (pa_cons pe_str pa_nil)))))))
        (pss_one (ps_raise rfl (takes_of rfl rfl rfl rfl) (pmk_fld MNoCode (hr.mono (by decide)) (by rfl) (pa_cons pe_str (pa_cons (pe_callB call_len_str (by rfl) m_len PySem.boot_len (pa_cons (pv 0) pa_nil)) pa_nil)) [] (.inl rfl))))
        pss_nil)
      (pss_one (ps_ret (pv 3))))))), ?_⟩
    rcases h with ⟨z, rfl, hz, hall, q, qe⟩ | ⟨hno, qe⟩
    · refine ⟨_, rfl, _, rfl, .inl ⟨z, rfl, hz, fun H1 s1 => ?_⟩⟩
      rw [hall]
      refine ⟨_, rfl, iteF ?_⟩
      refine ⟨_, rfl, _, rfl, .inl ⟨_, _, rfl, hw, fun _ => ?_, fun z => by cases z⟩⟩
      refine ⟨_, rfl, RD, code, .ref fR, rfl, rfl, ⟨es, n, .ref fR, D.at_, D.lit, hs, rfl⟩, ?_⟩
      unfold readBy at q qe
      refine ⟨rfl, _, rfl, z, rfl, hz, hall, fun o ho H2 p s2 np hp => ?_, fun p hp => ?_⟩
      · rw [ho] at q qe
        dsimp only at q qe
        have e10 : ("" : Str) = mk [] := by decide +kernel
        refine ⟨_, rfl, rfl, _, rfl, ?_⟩
        by_cases h0 : z.cps.toList = []
        · have ez : z = ("" : Str) := by rw [e10, ← h0, mk_of]
          refine iteNS (congrArg V.str ez) (iteF ?_)
          exact ⟨_, rfl, q o (by rw [if_neg (fun y => y.1 h0)]) H2 p (s1.trans s2) (Same.free s1 np) hp⟩
        · rw [decide_eq_false (fun y => h0 (by rw [V.str.inj y]; decide +kernel))]
          refine iteT ⟨_, rfl, rfl, _, _, rfl, rfl, ?_⟩
          rw [ends_lf]
          refine ⟨_, rfl, ?_⟩
          by_cases hl : z.cps.toList.getLast? = some 10
          · rw [decide_eq_true hl]
            refine iteF ⟨_, rfl, q o (by rw [if_neg (fun y => y.2 hl)]) H2 p (s1.trans s2) (Same.free s1 np) hp⟩
          · rw [decide_eq_false hl]
            refine iteT ⟨_, rfl, _, rfl, Nat.le_of_lt (szl hz), ?_⟩
            have hf := qe z.cps.toList.length (by rw [if_pos ⟨h0, hl⟩])
            rw [len_cps] at hf
            exact mk_leaf rfl (Nat.le_refl _) (Fails.later hf (s1.trans s2))
      · rw [hp] at qe
        exact Fails.later (qe p rfl) s1
    · rcases hno with ⟨z, rfl, hz, hall⟩ | ⟨t, ht, hk⟩
      · refine ⟨_, rfl, _, rfl, .inl ⟨z, rfl, hz, fun H1 s1 => ?_⟩⟩
        rw [hall]
        exact ⟨_, rfl, iteT (mk_leaf rfl (by decide) (Fails.later qe s1))⟩
      · exact ⟨_, rfl, _, rfl, .inr ⟨t, ht, hk, _, rfl, iteT (mk_leaf rfl (by decide) qe)⟩⟩
end
end FL


namespace FL
open PySem PySem.Spec PyProof.Rows L2
/-! ### octets by marks -/
def endsB (r : List Nat) : Bool := match r with
  | [] => true
  | o :: _ => decide (o = 10)
def unitC (o : Nat) (e : Bool) : List Nat := if o = 61 ∨ (o = 32 ∧ e = true) ∨ numb o = false then 61 :: hex2 o else [o]
/-- what is written behind n signs of a line -/
def tailM : List Nat → Nat → List Nat
  | [], n => if n = 0 then [] else [61, 10]
  | o :: r, n => if o = 10 then 10 :: tailM r 0
    else if 72 ≤ n + (unitC o (endsB r)).length then 61 :: 10 :: (unitC o (endsB r) ++ tailM r (unitC o (endsB r)).length)
    else unitC o (endsB r) ++ tailM r (n + (unitC o (endsB r)).length)
def marksL (l : List Nat) : List Nat := tailM l 0
theorem unitC_len (o : Nat) (e : Bool) : 1 ≤ (unitC o e).length ∧ (unitC o e).length ≤ 3 := by
  unfold unitC
  split
  · simp [hex2]
  · simp
theorem unitC_c (o : Nat) (e : Bool) : (unitC o e = 61 :: hex2 o) ∨ (unitC o e = [o] ∧ o ≠ 61 ∧ (o = 32 → e = false) ∧ numb o = true) := by
  unfold unitC
  by_cases h : o = 61 ∨ (o = 32 ∧ e = true) ∨ numb o = false
  · rw [if_pos h]
    exact .inl rfl
  · rw [if_neg h]
    refine .inr ⟨rfl, fun z => h (.inl z), fun z => ?_, ?_⟩
    · cases e with
      | false => rfl
      | true => exact absurd (.inr (.inl ⟨z, rfl⟩)) h
    · cases hn : numb o with
      | true => rfl
      | false => exact absurd (.inr (.inr hn)) h
theorem hexd_c : ∀ k, k < 16 → isSig (hexd k) = true ∧ hexd k ≠ 10 ∧ hexd k ≠ 32 ∧ hexd k ≠ 61 := by decide
theorem numb_sig {o : Nat} (h : numb o = true) : isSig o = true ∧ o ≠ 10 := by
  have := numb_iff.mp h
  unfold isSig
  refine ⟨?_, by omega⟩
  rw [decide_eq_true (show 32 ≤ o ∧ o ≤ 126 by omega), decide_eq_false this.2.2]
  simp
theorem unitC_sig {o : Nat} (ho : o < 256) (e : Bool) : ∀ c ∈ unitC o e, isSig c = true ∧ c ≠ 10 := by
  intro c hc
  rcases unitC_c o e with h | ⟨h, _, _, hn⟩
  · rw [h] at hc
    simp [hex2] at hc
    rcases hc with rfl | rfl | rfl
    · exact ⟨by decide, by decide⟩
    · have := hexd_c (o / 16) (by omega)
      exact ⟨this.1, this.2.1⟩
    · have := hexd_c (o % 16) (by omega)
      exact ⟨this.1, this.2.1⟩
  · rw [h] at hc
    rw [List.mem_singleton.mp hc]
    exact numb_sig hn
/-! its signs, its size, its end, its lines -/
theorem tailM_sig : ∀ (r : List Nat) (n : Nat), (∀ o ∈ r, o < 256) → ∀ c ∈ tailM r n, isSig c = true
  | [], n, _, c, hc => by
    unfold tailM at hc
    split at hc
    · cases hc
    · simp at hc
      rcases hc with rfl | rfl <;> decide
  | o :: r, n, hb, c, hc => by
    have hu := unitC_sig (hb o (List.mem_cons_self ..)) (endsB r)
    have ih := fun m => tailM_sig r m (fun x hx => hb x (List.mem_cons_of_mem _ hx))
    unfold tailM at hc
    split at hc
    · rcases List.mem_cons.mp hc with rfl | hc
      · decide
      · exact ih _ c hc
    · split at hc
      · rcases List.mem_cons.mp hc with rfl | hc
        · decide
        rcases List.mem_cons.mp hc with rfl | hc
        · decide
        rcases List.mem_append.mp hc with hc | hc
        · exact (hu c hc).1
        · exact ih _ c hc
      · rcases List.mem_append.mp hc with hc | hc
        · exact (hu c hc).1
        · exact ih _ c hc
theorem tailM_len : ∀ (r : List Nat) (n : Nat), (tailM r n).length ≤ 5 * r.length + 2
  | [], n => by
    unfold tailM
    split <;> simp
  | o :: r, n => by
    have hu := unitC_len o (endsB r)
    have ih := fun m => tailM_len r m
    unfold tailM
    split
    · have := ih 0
      simp
      omega
    · split
      · have := ih (unitC o (endsB r)).length
        simp
        omega
      · have := ih (n + (unitC o (endsB r)).length)
        simp
        omega
theorem tailM_last : ∀ (r : List Nat) (n : Nat), r ≠ [] ∨ n ≠ 0 → (tailM r n).getLast? = some 10
  | [], n, h => by
    unfold tailM
    rw [if_neg (h.resolve_left (fun z => z rfl))]
    rfl
  | o :: r, n, _ => by
    have hu := unitC_len o (endsB r)
    unfold tailM
    split
    · by_cases hr : r = []
      · subst hr
        rfl
      · rw [List.getLast?_cons, tailM_last r 0 (.inl hr)]
        rfl
    · split
      · rw [List.getLast?_cons, List.getLast?_cons, List.getLast?_append, tailM_last r _ (.inr (by omega))]
        rfl
      · rw [List.getLast?_append, tailM_last r _ (.inr (by omega))]
        rfl
theorem tailM_lines : ∀ (r : List Nat) (n : Nat), (∀ o ∈ r, o < 256) → n ≤ 71 → ∃ p ps, tailM r n = TL.joinL [10] (p :: ps) ∧ n + p.length ≤ 72 ∧ 10 ∉ p ∧ ∀ q ∈ ps, q.length ≤ 72 ∧ 10 ∉ q
  | [], n, _, hn => by
    unfold tailM
    by_cases h : n = 0
    · rw [if_pos h]
      exact ⟨[], [], rfl, by simp; omega, by simp, fun _ h => by cases h⟩
    · rw [if_neg h]
      exact ⟨[61], [[]], rfl, by simp; omega, by decide, fun q hq => by rw [List.mem_singleton.mp hq]; simp⟩
  | o :: r, n, hb, hn => by
    have hu := unitC_sig (hb o (List.mem_cons_self ..)) (endsB r)
    have hul := unitC_len o (endsB r)
    have ih := fun m hm => tailM_lines r m (fun x hx => hb x (List.mem_cons_of_mem _ hx)) hm
    have h10 : 10 ∉ unitC o (endsB r) := fun z => (hu 10 z).2 rfl
    have app : ∀ (u p : List Nat) (ps : List (List Nat)), u ++ TL.joinL [10] (p :: ps) = TL.joinL [10] ((u ++ p) :: ps) := fun u p ps => by
      cases ps <;> simp [TL.joinL]
    unfold tailM
    split
    · obtain ⟨p, ps, h1, h2, h3, h4⟩ := ih 0 (by omega)
      refine ⟨[], p :: ps, by rw [h1]; rfl, by simp; omega, by simp, fun q hq => ?_⟩
      rcases List.mem_cons.mp hq with rfl | hq
      · exact ⟨by omega, h3⟩
      · exact h4 q hq
    · split
      · obtain ⟨p, ps, h1, h2, h3, h4⟩ := ih (unitC o (endsB r)).length (by omega)
        refine ⟨[61], (unitC o (endsB r) ++ p) :: ps, ?_, by simp; omega, by decide, fun q hq => ?_⟩
        · rw [h1, app]
          rfl
        · rcases List.mem_cons.mp hq with rfl | hq
          · refine ⟨by rw [List.length_append]; omega, fun z => ?_⟩
            rcases List.mem_append.mp z with z | z
            · exact h10 z
            · exact h3 z
          · exact h4 q hq
      · rename_i hlt
        obtain ⟨p, ps, h1, h2, h3, h4⟩ := ih (n + (unitC o (endsB r)).length) (by omega)
        refine ⟨unitC o (endsB r) ++ p, ps, by rw [h1, app], by rw [List.length_append]; omega, fun z => ?_, h4⟩
        rcases List.mem_append.mp z with z | z
        · exact h10 z
        · exact h3 z
/-! ### marks read -/
def hexV (c : Nat) : Option Nat := if 48 ≤ c ∧ c ≤ 57 then some (c - 48) else if 65 ≤ c ∧ c ≤ 70 then some (c - 55) else if 97 ≤ c ∧ c ≤ 102 then some (c - 87) else none
def figV (s : List Nat) : Option Nat := match s with
  | [] => none
  | c :: _ => hexV c
def blk (s : List Nat) : Nat := (s.takeWhile fun c => decide (c = 32)).length
/-- s stands from the place p on -/
def readM : Nat → List Nat → Nat → List Nat → Except Nat (List Nat)
  | _, [], _, acc => .ok acc
  | 0, _ :: _, _, acc => .ok acc
  | n + 1, c :: r, p, acc => if c = 61 then
      (if (r.drop (blk r)).head? = some 10 then readM n (r.drop (blk r + 1)) (p + 1 + blk r + 1) acc
      else if 0 < blk r then .error (p + 1 + blk r)
      else match figV r with
        | none => .error (p + 1)
        | some x => match figV (r.drop 1) with
          | none => .error (p + 2)
          | some y => readM n (r.drop 2) (p + 3) (acc ++ [16 * x + y]))
    else if c = 32 then
      (if ((c :: r).drop (blk (c :: r))).head? = some 10 then readM n ((c :: r).drop (blk (c :: r))) (p + blk (c :: r)) acc
      else readM n ((c :: r).drop (blk (c :: r))) (p + blk (c :: r)) (acc ++ List.replicate (blk (c :: r)) 32))
    else readM n r (p + 1) (acc ++ [c])
def readMk (l : List Nat) : Except Nat (List Nat) := readM l.length l 0 []
theorem hexV_d : ∀ k, k < 16 → hexV (hexd k) = some k := by decide
theorem blk_no {c : Nat} {r : List Nat} (h : c ≠ 32) : blk (c :: r) = 0 := by
  unfold blk
  rw [List.takeWhile_cons, decide_eq_false h]
  rfl
theorem blk_yes (r : List Nat) : blk (32 :: r) = blk r + 1 := by
  unfold blk
  rw [List.takeWhile_cons, decide_eq_true rfl]
  rfl
/-- behind blanks that stand for themselves comes no line feed -/
theorem no_lf : ∀ (r : List Nat) (n : Nat), (∀ o ∈ r, o < 256) → endsB r = false → ((tailM r n).drop (blk (tailM r n))).head? ≠ some 10
  | [], _, _, h => by cases h
  | o :: r, n, hb, h => by
    have ho : o ≠ 10 := fun z => by rw [z] at h; cases h
    have hol := hb o (List.mem_cons_self ..)
    have key : ∀ m, ((unitC o (endsB r) ++ tailM r m).drop (blk (unitC o (endsB r) ++ tailM r m))).head? ≠ some 10 := fun m => by
      rcases unitC_c o (endsB r) with hu | ⟨hu, h61, h32, hn⟩
      · rw [hu, List.cons_append, blk_no (by decide)]
        simp
      · rw [hu, List.cons_append, List.nil_append]
        by_cases hb32 : o = 32
        · subst hb32
          rw [blk_yes, List.drop_succ_cons]
          exact no_lf r m (fun x hx => hb x (List.mem_cons_of_mem _ hx)) (h32 rfl)
        · rw [blk_no hb32]
          simpa using ho
    unfold tailM
    rw [if_neg ho]
    split
    · rw [blk_no (by decide)]
      simp
    · exact key _
theorem readM_nil (n p : Nat) (acc : List Nat) : readM n [] p acc = .ok acc := by cases n <;> rfl
theorem readM_soft (n p : Nat) (X acc : List Nat) : readM (n + 1) (61 :: 10 :: X) p acc = readM n X (p + 2) acc := by
  rw [readM, if_pos rfl, blk_no (by decide), if_pos (by rfl)]
  rfl
theorem readM_hex {o : Nat} (ho : o < 256) (n p : Nat) (X acc : List Nat) : readM (n + 1) (61 :: hexd (o / 16) :: hexd (o % 16) :: X) p acc = readM n X (p + 3) (acc ++ [o]) := by
  have hx1 := hexd_c (o / 16) (by omega)
  have e1 : figV (hexd (o / 16) :: hexd (o % 16) :: X) = some (o / 16) := hexV_d _ (by omega)
  have e2 : figV ((hexd (o / 16) :: hexd (o % 16) :: X).drop 1) = some (o % 16) := hexV_d _ (by omega)
  have e0 : ¬ ((hexd (o / 16) :: hexd (o % 16) :: X).drop 0).head? = some 10 := fun z => hx1.2.1 (Option.some.inj z)
  rw [readM, if_pos rfl, blk_no hx1.2.2.1, if_neg e0, if_neg (Nat.lt_irrefl 0), e1]
  dsimp only
  rw [e2]
  dsimp only
  rw [show 16 * (o / 16) + o % 16 = o by omega]
  rfl
theorem readM_more : ∀ (n : Nat) (s : List Nat) (p : Nat) (acc : List Nat), s.length ≤ n → ∀ m, s.length ≤ m → readM n s p acc = readM m s p acc
  | _, [], _, _, _, m, _ => by rw [readM_nil, readM_nil]
  | 0, _ :: _, _, _, h, _, _ => by simp at h
  | _ + 1, _ :: _, _, _, _, 0, h => by simp at h
  | n + 1, c :: r, p, acc, h1, m + 1, h2 => by
    have hr1 : r.length ≤ n := by simpa using h1
    have hr2 : r.length ≤ m := by simpa using h2
    have ih := fun (s : List Nat) (p : Nat) (acc : List Nat) (hs : s.length ≤ r.length) => readM_more n s p acc (by omega) m (by omega)
    have hd : ∀ k, (r.drop k).length ≤ r.length := fun k => by rw [List.length_drop]; omega
    unfold readM
    split
    · rw [ih _ _ _ (hd _)]
      split
      · rfl
      · split
        · rfl
        · cases figV r with
          | none => rfl
          | some x =>
            cases figV (r.drop 1) with
            | none => rfl
            | some y => exact ih _ _ _ (hd _)
    · split
      · rename_i h32
        subst h32
        rw [blk_yes, List.drop_succ_cons, ih _ _ _ (hd _), ih _ _ _ (hd _)]
      · exact ih _ _ _ (Nat.le_refl _)
/-- one blank at a time -/
theorem readM_blank {n p : Nat} {s acc : List Nat} (hn : s.length + 1 ≤ n) (h : (s.drop (blk s)).head? ≠ some 10) : readM n (32 :: s) p acc = readM n s (p + 1) (acc ++ [32]) := by
  match n, hn with
  | n + 1, hn =>
    have hsn : s.length ≤ n := by omega
    have hdl : ∀ k, (s.drop k).length ≤ n := fun k => by rw [List.length_drop]; omega
    have hL : readM (n + 1) (32 :: s) p acc = readM n (s.drop (blk s)) (p + (blk s + 1)) (acc ++ List.replicate (blk s + 1) 32) := by
      rw [readM, if_neg (by decide), if_pos rfl, blk_yes, List.drop_succ_cons, if_neg h]
    rw [hL]
    match s, h, hsn, hdl with
    | [], _, _, _ =>
      show readM n [] _ _ = readM (n + 1) [] _ _
      have e : acc ++ List.replicate (blk [] + 1) 32 = acc ++ [32] := rfl
      rw [e, readM_nil, readM_nil]
    | c :: r, h, hsn, hdl =>
      by_cases hc : c = 32
      · subst hc
        have hR : readM (n + 1) (32 :: r) (p + 1) (acc ++ [32]) = readM n (r.drop (blk r)) (p + 1 + (blk r + 1)) (acc ++ [32] ++ List.replicate (blk r + 1) 32) := by
          rw [blk_yes, List.drop_succ_cons] at h
          rw [readM, if_neg (by decide), if_pos rfl, blk_yes, List.drop_succ_cons, if_neg h]
        rw [hR, blk_yes, List.drop_succ_cons, show p + (blk r + 1 + 1) = p + 1 + (blk r + 1) by omega, List.append_assoc]
        rfl
      · rw [blk_no hc]
        show readM n (c :: r) (p + 1) (acc ++ [32]) = _
        exact readM_more _ _ _ _ hsn _ (by omega)
theorem readM_tail : ∀ (r : List Nat) (k n p : Nat) (acc : List Nat), (∀ o ∈ r, o < 256) → (tailM r k).length ≤ n → readM n (tailM r k) p acc = .ok (acc ++ r)
  | [], k, n, p, acc, _, hn => by
    unfold tailM at hn ⊢
    by_cases h : k = 0
    · rw [if_pos h, List.append_nil, readM_nil]
    · rw [if_neg h] at hn ⊢
      match n, hn with
      | n + 1, _ => rw [readM_soft, readM_nil, List.append_nil]
  | o :: r, k, n, p, acc, hb, hn => by
    have hol := hb o (List.mem_cons_self ..)
    have hbr := fun x hx => hb x (List.mem_cons_of_mem _ hx)
    -- a unit
    have unit : ∀ (m n p : Nat) (acc : List Nat), o ≠ 10 → (unitC o (endsB r) ++ tailM r m).length ≤ n → readM n (unitC o (endsB r) ++ tailM r m) p acc = .ok (acc ++ o :: r) := fun m n p acc ho hn => by
      have fin : ∀ n p, (tailM r m).length ≤ n → readM n (tailM r m) p (acc ++ [o]) = .ok (acc ++ o :: r) := fun n p h => by
        rw [readM_tail r m n p (acc ++ [o]) hbr h, List.append_assoc]
        rfl
      rcases unitC_c o (endsB r) with hu | ⟨hu, h61, h32, hnb⟩
      · rw [hu] at hn ⊢
        match n, hn with
        | n + 1, hn =>
          show readM (n + 1) (61 :: hexd (o / 16) :: hexd (o % 16) :: tailM r m) p acc = _
          rw [readM_hex hol]
          exact fin _ _ (by simp [hex2] at hn; omega)
      · rw [hu, List.cons_append, List.nil_append] at hn ⊢
        by_cases hb32 : o = 32
        · subst hb32
          rw [readM_blank (by simpa using hn) (no_lf r m hbr (h32 rfl))]
          exact fin _ _ (by simp at hn; omega)
        · match n, hn with
          | n + 1, hn =>
            rw [readM, if_neg h61, if_neg hb32]
            exact fin _ _ (by simpa using hn)
    unfold tailM at hn ⊢
    by_cases ho : o = 10
    · rw [if_pos ho] at hn ⊢
      match n, hn with
      | n + 1, hn =>
        rw [readM, if_neg (by decide), if_neg (by decide)]
        rw [readM_tail r 0 n (p + 1) (acc ++ [10]) hbr (by simpa using hn), ho, List.append_assoc]
        rfl
    · rw [if_neg ho] at hn ⊢
      by_cases hlong : 72 ≤ k + (unitC o (endsB r)).length
      · rw [if_pos hlong] at hn ⊢
        match n, hn with
        | n + 1, hn =>
          rw [readM_soft]
          exact unit _ _ _ _ ho (by simp at hn ⊢; omega)
      · rw [if_neg hlong] at hn ⊢
        exact unit _ _ _ _ ho hn
theorem readMk_marks {l : List Nat} (hb : ∀ x ∈ l, x < 256) : readMk (marksL l) = .ok l := by
  exact readM_tail l 0 (marksL l).length 0 [] hb (Nat.le_refl _)
theorem readByM {l : List Nat} (hb : ∀ x ∈ l, x < 256) : readBy readMk (marksL l) = .ok l := by
  unfold readBy
  rw [readMk_marks hb]
  dsimp only
  by_cases h0 : l = []
  · rw [if_neg (fun y => y.1 (by rw [h0]; rfl))]
  · rw [if_neg (fun y => y.2 (tailM_last l 0 (.inl h0)))]
end FL


namespace FL
open PySem PySem.Spec PyProof.Rows L2
/-! ### sixes read -/
def o4n (four : List Nat) : Nat := (four ++ List.replicate (4 - four.length) 0).foldl (fun n s => 64 * n + s) 0
def o4 (four : List Nat) : List Nat := ([o4n four / 65536, o4n four / 256 % 256, o4n four % 256]).take (four.length - 1)
def mayFill (four : List Nat) (filled : Nat) : Bool :=
  if four.length = 2 then decide (filled < 2) && decide (four.getD 1 0 % 16 = 0) else decide (four.length = 3) && (decide (filled < 1) && decide (four.getD 2 0 % 4 = 0))
structure St6 where
  oct : List Nat
  four : List Nat
  filled : Nat
def sixIx (c : Nat) : Nat := (SIXS.cps.toList.takeWhile fun x => !decide (x = c)).length
def step6 (st : St6) (c : Nat) : Option St6 :=
  if c = 32 ∨ c = 10 then some st
  else if c = 61 ∧ mayFill st.four st.filled = true then some ⟨st.oct, st.four, st.filled + 1⟩
  else if c ∈ SIXS.cps.toList ∧ st.filled = 0 then (if st.four.length = 4 then some ⟨st.oct ++ o4 st.four, [sixIx c], st.filled⟩ else some ⟨st.oct, st.four ++ [sixIx c], st.filled⟩)
  else none
def run6 : List Nat → Nat → St6 → Except Nat St6
  | [], _, st => .ok st
  | c :: r, p, st => match step6 st c with
    | none => .error p
    | some st' => run6 r (p + 1) st'
theorem run6_cons (c : Nat) (r : List Nat) (p : Nat) (st : St6) : run6 (c :: r) p st = match step6 st c with
    | none => .error p
    | some st' => run6 r (p + 1) st' := by rw [run6]
theorem run6_some {c : Nat} {st st' : St6} (h : step6 st c = some st') (r : List Nat) (p : Nat) : run6 (c :: r) p st = run6 r (p + 1) st' := by rw [run6_cons, h]
theorem run6_none {c : Nat} {st : St6} (h : step6 st c = none) (r : List Nat) (p : Nat) : run6 (c :: r) p st = .error p := by rw [run6_cons, h]
theorem run6_nil (p : Nat) (st : St6) : run6 [] p st = .ok st := rfl
def init6 : St6 := ⟨[], [], 0⟩
def end6 (n : Nat) (st : St6) : Except Nat (List Nat) := if st.four ≠ [] ∧ st.four.length + st.filled < 4 then .error n else .ok (st.oct ++ o4 st.four)
def read6 (l : List Nat) : Except Nat (List Nat) := match run6 l 0 init6 with
  | .error p => .error p
  | .ok st => end6 l.length st
theorem run6_app : ∀ (a b : List Nat) (p : Nat) (st : St6), run6 (a ++ b) p st = match run6 a p st with
    | .error e => .error e
    | .ok st' => run6 b (p + a.length) st'
  | [], b, p, st => by simp [run6]
  | c :: a, b, p, st => by
    rw [List.cons_append]
    cases h : step6 st c with
    | none => rw [run6_none h, run6_none h]
    | some st' =>
      rw [run6_some h, run6_some h, run6_app a b (p + 1) st', List.length_cons, show p + 1 + a.length = p + (a.length + 1) by omega]
/-- the refusal at a sign stays the whole's -/
theorem run6_stop {l : List Nat} {i c : Nat} {st : St6} (h : run6 (l.take i) 0 init6 = .ok st) (hc : l[i]? = some c) (hs : step6 st c = none) : read6 l = .error i := by
  have hi : i < l.length := by
    rcases Nat.lt_or_ge i l.length with h | h
    · exact h
    · rw [List.getElem?_eq_none h] at hc
      cases hc
  have e : l = l.take i ++ c :: l.drop (i + 1) := by
    have := List.getElem?_eq_getElem hi
    rw [this] at hc
    injection hc with hc
    rw [← hc, List.getElem_cons_drop, List.take_append_drop]
  have e2 : run6 l 0 init6 = .error i := by
    rw [e, run6_app, h]
    dsimp only
    rw [run6_none hs, List.length_take, Nat.zero_add, Nat.min_eq_left (Nat.le_of_lt hi)]
  unfold read6
  rw [e2]
theorem run6_next {l : List Nat} {i c : Nat} {st st' : St6} (h : run6 (l.take i) 0 init6 = .ok st) (hc : l[i]? = some c) (hs : step6 st c = some st') : run6 (l.take (i + 1)) 0 init6 = .ok st' := by
  rw [take_more hc, run6_app, h]
  dsimp only
  rw [run6_some hs]
  rfl
theorem sixIx_lt {c : Nat} (h : c ∈ SIXS.cps.toList) : sixIx c < 64 := by
  have hl : SIXS.cps.toList.length = 64 := by decide +kernel
  have : ∀ l : List Nat, c ∈ l → (l.takeWhile fun x => !decide (x = c)).length < l.length := fun l => by
    induction l with
    | nil => intro h; cases h
    | cons a r ih =>
      intro h
      rw [List.takeWhile_cons]
      by_cases e : a = c
      · rw [decide_eq_true e]
        simp
      · rw [decide_eq_false e]
        have := ih ((List.mem_cons.mp h).resolve_left (fun z => e z.symm))
        simp
        exact this
  rw [← hl]
  exact this _ h
theorem sixIx_six : ∀ n, n < 64 → sixIx (six n) = n := by decide +kernel
theorem six_mem : ∀ n, n < 64 → six n ∈ SIXS.cps.toList ∧ six n ≠ 32 ∧ six n ≠ 10 ∧ six n ≠ 61 := by decide +kernel
theorem not61 : 61 ∉ SIXS.cps.toList := by decide +kernel
theorem o4_len (four : List Nat) : (o4 four).length ≤ 3 := by
  unfold o4
  exact Nat.le_trans (List.length_take_le' _ _) (by simp)
/-- what stands after i signs -/
structure Ok6 (st : St6) (i : Nat) : Prop where
  f4 : st.four.length ≤ 4
  f64 : ∀ s ∈ st.four, s < 64
  ol : st.oct.length ≤ 3 * i
  fl : st.filled ≤ i
theorem ok6_step {st st' : St6} {c i : Nat} (o : Ok6 st i) (h : step6 st c = some st') : Ok6 st' (i + 1) := by
  obtain ⟨h1, h2, h3, h4⟩ := o
  unfold step6 at h
  by_cases a : c = 32 ∨ c = 10
  · rw [if_pos a] at h
    injection h with h
    subst h
    exact ⟨h1, h2, by omega, by omega⟩
  · rw [if_neg a] at h
    by_cases b : c = 61 ∧ mayFill st.four st.filled = true
    · rw [if_pos b] at h
      injection h with h
      subst h
      exact ⟨h1, h2, by show st.oct.length ≤ _; omega, by show st.filled + 1 ≤ _; omega⟩
    · rw [if_neg b] at h
      by_cases d : c ∈ SIXS.cps.toList ∧ st.filled = 0
      · rw [if_pos d] at h
        have hx := sixIx_lt d.1
        by_cases e : st.four.length = 4
        · rw [if_pos e] at h
          injection h with h
          subst h
          refine ⟨by show 1 ≤ 4; omega, fun s hs => ?_, ?_, by show st.filled ≤ _; omega⟩
          · rw [List.mem_singleton.mp hs]
            exact hx
          · show (st.oct ++ o4 st.four).length ≤ _
            have := o4_len st.four
            rw [List.length_append]
            omega
        · rw [if_neg e] at h
          injection h with h
          subst h
          refine ⟨?_, fun s hs => ?_, by show st.oct.length ≤ _; omega, by show st.filled ≤ _; omega⟩
          · show (st.four ++ [sixIx c]).length ≤ 4
            rw [List.length_append, List.length_singleton]
            omega
          · rcases List.mem_append.mp hs with hs | hs
            · exact h2 s hs
            · rw [List.mem_singleton.mp hs]
              exact hx
      · rw [if_neg d] at h
        cases h
/-! ### sixes in lines -/
def lineAt (s : List Nat) (i : Nat) : List Nat := (s.drop (72 * i)).take 72 ++ [10]
def linesX (s : List Nat) : List Nat := ((List.range ((s.length + 71) / 72)).map (lineAt s)).flatten
def lines6 (l : List Nat) : List Nat := linesX (sixC l)
theorem linesX_nil : linesX [] = [] := rfl
theorem linesX_step {s : List Nat} (h : s ≠ []) : linesX s = s.take 72 ++ [10] ++ linesX (s.drop 72) := by
  unfold linesX
  have hl : 1 ≤ s.length := by
    cases s with
    | nil => exact absurd rfl h
    | cons a r => simp
  have e : (s.length + 71) / 72 = ((s.drop 72).length + 71) / 72 + 1 := by
    rw [List.length_drop]
    omega
  rw [e, List.range_succ_eq_map, List.map_cons, List.flatten_cons, List.map_map]
  have e2 : (lineAt s) ∘ Nat.succ = lineAt (s.drop 72) := by
    funext i
    show lineAt s (i + 1) = _
    unfold lineAt
    rw [List.drop_drop]
    congr 3
    omega
  rw [e2]
  unfold lineAt
  simp
/-- reading passes line feeds by -/
theorem run6_lines : ∀ (n : Nat) (s : List Nat), s.length ≤ n → ∀ (p : Nat) (st st' : St6), run6 s p st = .ok st' → ∀ q, run6 (linesX s) q st = .ok st'
  | 0, s, h, p, st, st', hr, q => by
    have : s = [] := List.eq_nil_of_length_eq_zero (by omega)
    subst this
    exact hr
  | n + 1, s, h, p, st, st', hr, q => by
    by_cases h0 : s = []
    · subst h0
      exact hr
    · have hl : 1 ≤ s.length := by
        cases s with
        | nil => exact absurd rfl h0
        | cons a r => simp
      have e : s = s.take 72 ++ s.drop 72 := (List.take_append_drop 72 s).symm
      rw [e, run6_app] at hr
      have hpl : ∀ (a : List Nat) (p q : Nat) (st st1 : St6), run6 a p st = .ok st1 → run6 a q st = .ok st1 := fun a => by
        induction a with
        | nil => exact fun p q st st1 h => h
        | cons c r ih =>
          intro p q st st1 h
          cases hs : step6 st c with
          | none => rw [run6_none hs] at h; cases h
          | some st2 =>
            rw [run6_some hs] at h ⊢
            exact ih _ _ _ _ h
      cases hm : run6 (s.take 72) p st with
      | error x => rw [hm] at hr; cases hr
      | ok stm =>
        rw [hm] at hr
        rw [linesX_step h0, run6_app, run6_app, hpl _ p q _ _ hm]
        dsimp only
        have hs10 : step6 stm 10 = some stm := by
          unfold step6
          rw [if_pos (.inr rfl)]
        rw [run6_some hs10, run6_nil]
        exact run6_lines n (s.drop 72) (by rw [List.length_drop]; omega) _ _ _ hr _
theorem step6_six {n : Nat} (h : n < 64) (oc four : List Nat) : step6 ⟨oc, four, 0⟩ (six n) = if four.length = 4 then some ⟨oc ++ o4 four, [n], 0⟩ else some ⟨oc, four ++ [n], 0⟩ := by
  obtain ⟨h1, h2, h3, h4⟩ := six_mem n h
  unfold step6
  rw [if_neg (by omega), if_neg (fun z => h4 z.1), if_pos ⟨h1, rfl⟩, sixIx_six n h]
def Full (four : List Nat) : Prop := four = [] ∨ four.length = 4
theorem run6_first {n : Nat} (h : n < 64) {oc four : List Nat} (hf : Full four) (r : List Nat) (p : Nat) : run6 (six n :: r) p ⟨oc, four, 0⟩ = run6 r (p + 1) ⟨oc ++ o4 four, [n], 0⟩ := by
  refine run6_some ?_ r p
  rw [step6_six h]
  rcases hf with hf | hf
  · subst hf
    rw [if_neg (by simp), show o4 [] = [] from rfl, List.append_nil]
    rfl
  · rw [if_pos hf]
theorem run6_more {n : Nat} (h : n < 64) {oc four : List Nat} (hf : four.length ≠ 4) (r : List Nat) (p : Nat) : run6 (six n :: r) p ⟨oc, four, 0⟩ = run6 r (p + 1) ⟨oc, four ++ [n], 0⟩ := by
  exact run6_some (by rw [step6_six h, if_neg hf]) r p
theorem o4_abc {a b c : Nat} (ha : a < 256) (hb : b < 256) (hc : c < 256) : o4 [a / 4, a % 4 * 16 + b / 16, b % 16 * 4 + c / 64, c % 64] = [a, b, c] := by
  have e : o4n [a / 4, a % 4 * 16 + b / 16, b % 16 * 4 + c / 64, c % 64] = 65536 * a + 256 * b + c := by
    show 64 * (64 * (64 * (64 * 0 + a / 4) + (a % 4 * 16 + b / 16)) + (b % 16 * 4 + c / 64)) + c % 64 = _
    omega
  unfold o4
  rw [e]
  show [_, _, _] = _
  rw [show (65536 * a + 256 * b + c) / 65536 = a by omega, show (65536 * a + 256 * b + c) / 256 % 256 = b by omega, show (65536 * a + 256 * b + c) % 256 = c by omega]
theorem o4_ab {a b : Nat} (ha : a < 256) (hb : b < 256) : o4 [a / 4, a % 4 * 16 + b / 16, b % 16 * 4] = [a, b] := by
  have e : o4n [a / 4, a % 4 * 16 + b / 16, b % 16 * 4] = 65536 * a + 256 * b := by
    show 64 * (64 * (64 * (64 * 0 + a / 4) + (a % 4 * 16 + b / 16)) + (b % 16 * 4)) + 0 = _
    omega
  unfold o4
  rw [e]
  show [_, _] = _
  rw [show (65536 * a + 256 * b) / 65536 = a by omega, show (65536 * a + 256 * b) / 256 % 256 = b by omega]
theorem o4_a {a : Nat} (ha : a < 256) : o4 [a / 4, a % 4 * 16] = [a] := by
  have e : o4n [a / 4, a % 4 * 16] = 65536 * a := by
    show 64 * (64 * (64 * (64 * 0 + a / 4) + (a % 4 * 16)) + 0) + 0 = _
    omega
  unfold o4
  rw [e]
  show [_] = _
  rw [show (65536 * a) / 65536 = a by omega]
/-- sixes are read to their octets -/
theorem run6_sixC : ∀ (n : Nat) (l : List Nat), l.length ≤ n → (∀ x ∈ l, x < 256) → ∀ (p : Nat) (oc fo : List Nat), Full fo → ∃ st, run6 (sixC l) p ⟨oc, fo, 0⟩ = .ok st ∧ st.oct ++ o4 st.four = oc ++ o4 fo ++ l ∧ (l ≠ [] → st.four.length + st.filled = 4) ∧ (l = [] → st = ⟨oc, fo, 0⟩)
  | _, [], _, _, p, oc, fo, hf => ⟨_, by rw [show sixC [] = [] from by simp [sixC]]; rfl, by simp, fun z => absurd rfl z, fun _ => rfl⟩
  | 0, a :: r, h, _, _, _, _, _ => by simp at h
  | n + 1, [a], h, hb, p, oc, fo, hf => by
    have ha := hb a (by simp)
    have e : sixC [a] = [six (a / 4), six (a % 4 * 16), 61, 61] := by simp [sixC, FL.four]
    have hm0 : mayFill [a / 4, a % 4 * 16] 0 = true := by
      simp [mayFill]
    have hm1 : mayFill [a / 4, a % 4 * 16] 1 = true := by
      simp [mayFill]
    refine ⟨⟨oc ++ o4 fo, [a / 4, a % 4 * 16], 2⟩, ?_, ?_, fun _ => rfl, fun z => by cases z⟩
    · rw [e, run6_first (by omega) hf, run6_more (by omega) (by simp)]
      show run6 [61, 61] _ ⟨_, [a / 4, a % 4 * 16], 0⟩ = _
      have s1 : step6 ⟨oc ++ o4 fo, [a / 4, a % 4 * 16], 0⟩ 61 = some ⟨oc ++ o4 fo, [a / 4, a % 4 * 16], 1⟩ := by
        unfold step6
        rw [if_neg (by omega), if_pos ⟨rfl, hm0⟩]
      have s2 : step6 ⟨oc ++ o4 fo, [a / 4, a % 4 * 16], 1⟩ 61 = some ⟨oc ++ o4 fo, [a / 4, a % 4 * 16], 2⟩ := by
        unfold step6
        rw [if_neg (by omega), if_pos ⟨rfl, hm1⟩]
      rw [run6_some s1, run6_some s2]
      rfl
    · show oc ++ o4 fo ++ o4 [a / 4, a % 4 * 16] = _
      rw [o4_a ha]
  | n + 1, [a, b], h, hb, p, oc, fo, hf => by
    have ha := hb a (by simp)
    have hb2 := hb b (by simp)
    have e : sixC [a, b] = [six (a / 4), six (a % 4 * 16 + b / 16), six (b % 16 * 4), 61] := by simp [sixC, FL.four]
    have hm0 : mayFill [a / 4, a % 4 * 16 + b / 16, b % 16 * 4] 0 = true := by
      simp [mayFill]
    refine ⟨⟨oc ++ o4 fo, [a / 4, a % 4 * 16 + b / 16, b % 16 * 4], 1⟩, ?_, ?_, fun _ => rfl, fun z => by cases z⟩
    · rw [e, run6_first (by omega) hf, run6_more (by omega) (by simp), run6_more (by omega) (by simp)]
      show run6 [61] _ ⟨_, [a / 4, a % 4 * 16 + b / 16, b % 16 * 4], 0⟩ = _
      have s1 : step6 ⟨oc ++ o4 fo, [a / 4, a % 4 * 16 + b / 16, b % 16 * 4], 0⟩ 61 = some ⟨oc ++ o4 fo, [a / 4, a % 4 * 16 + b / 16, b % 16 * 4], 1⟩ := by
        unfold step6
        rw [if_neg (by omega), if_pos ⟨rfl, hm0⟩]
      rw [run6_some s1]
      rfl
    · show oc ++ o4 fo ++ o4 [a / 4, a % 4 * 16 + b / 16, b % 16 * 4] = _
      rw [o4_ab ha hb2]
  | n + 1, a :: b :: c :: r, h, hb, p, oc, fo, hf => by
    have ha := hb a (by simp)
    have hb2 := hb b (by simp)
    have hc := hb c (by simp)
    have hr : ∀ x ∈ r, x < 256 := fun x hx => hb x (by simp [hx])
    have e : sixC (a :: b :: c :: r) = six (a / 4) :: six (a % 4 * 16 + b / 16) :: six (b % 16 * 4 + c / 64) :: six (c % 64) :: sixC r := by simp [sixC, FL.four]
    rw [e, run6_first (by omega) hf, run6_more (by omega) (by simp), run6_more (by omega) (by simp), run6_more (by omega) (by simp)]
    obtain ⟨st, h1, h2, h3, h4⟩ := run6_sixC n r (by simp at h; omega) hr (p + 1 + 1 + 1 + 1) (oc ++ o4 fo) [a / 4, a % 4 * 16 + b / 16, b % 16 * 4 + c / 64, c % 64] (.inr rfl)
    refine ⟨st, h1, ?_, fun _ => ?_, fun z => by cases z⟩
    · rw [h2, o4_abc ha hb2 hc]
      simp
    · by_cases hr0 : r = []
      · rw [h4 hr0]
        rfl
      · exact h3 hr0
theorem read6_lines6 {l : List Nat} (hb : ∀ x ∈ l, x < 256) : read6 (lines6 l) = .ok l := by
  obtain ⟨st, h1, h2, h3, h4⟩ := run6_sixC l.length l (Nat.le_refl _) hb 0 [] [] (.inl rfl)
  have h5 := run6_lines _ (sixC l) (Nat.le_refl _) 0 _ _ h1 0
  unfold read6 lines6
  rw [show init6 = ⟨[], [], 0⟩ from rfl, h5]
  dsimp only
  unfold end6
  rw [if_neg (fun z => ?_), h2]
  · rfl
  · by_cases h0 : l = []
    · rw [h4 h0] at z
      exact z.1 rfl
    · have := h3 h0
      omega
end FL


namespace FL
open PySem PySem.Spec PyProof.Rows L2
section
variable {P : Program} {w : World} {K : PySem.W.Frag} {mg : Str → Option Value} {base : Heap}
def spMayFill : Sp := fun vs H Q _ => ∃ (a : Addr) (four : List Nat) (n : Nat), vs = [.ref a, .int (n : Nat)] ∧ H a = some (.lst (iv four)) ∧ four.length ≤ 4 ∧ Q (.bl (mayFill four n)) H
theorem scMayFill : FnScope ["four", "filled"] ["four", "filled"] (defScope sMayFill) := ⟨rfl, rfl, rfl, by decide +kernel, rfl, by decide +kernel, by decide +kernel⟩
theorem r_may_fill (A : FnAt K mg "_may_fill" sMayFill) (m_len : mg "len" = none) : Ready P w K mg base 1 "_may_fill" ["four", "filled"] spMayFill := by
  refine ready_of A (fun _ _ _ _ _ _ us hl => match us, hl with | [_, _], _ => rfl) fun f fd F => ?_
  refine F.ok scMayFill (fun vs H Q E h => ?_) (fun cdv A outer s H vs Q E hr h => ?_)
  · obtain ⟨a, four, n, rfl, _⟩ := h
    rfl
  · obtain ⟨a, four, n, rfl, ha, h4, q⟩ := h
    have sc := scMayFill
    refine ⟨_, pss_cons (ps_if (pt_cmpR op_eq (pe_callB call_len_seq (by rfl) m_len PySem.boot_len (pa_cons (pv 0) pa_nil)) pe_int (nomark _))
        (pss_one (ps_ret (pe_and (pe_cmpR op_lt (pv 1) pe_int (nomark _)) (pe_one (pe_cmpR op_eq (pe_op op_mod (pe_ix ix_list (pv 0) pe_int (fun _ _ => rfl)) pe_int) pe_int (nomark _))))))
        pss_nil)
      (pss_one (ps_ret (pe_and (pe_cmpR op_eq (pe_callB call_len_seq (by rfl) m_len PySem.boot_len (pa_cons (pv 0) pa_nil)) pe_int (nomark _)) (pe_and (pe_cmpR op_lt (pv 1) pe_int (nomark _)) (pe_one (pe_cmpR op_eq (pe_op op_mod (pe_ix ix_list (pv 0) pe_int (fun _ _ => rfl)) pe_int) pe_int (nomark _))))))), ?_⟩
    have hf : ∀ b : Bool, mayFill four n = b → Q (.bl b) H := fun b e => e ▸ q
    have eqi : ∀ (x : Nat) (y : Nat), decide (V.int (x : Nat) = V.int ((y : Nat) : Int)) = decide (x = y) := fun x y => by
      by_cases e : x = y
      · rw [e, decide_eq_true rfl, decide_eq_true rfl]
      · rw [decide_eq_false e, decide_eq_false (fun z => e (by have := V.int.inj z; omega))]
    have ltd : ∀ (x y : Nat), decide (((x : Nat) : Int) < ((y : Nat) : Int)) = decide (x < y) := fun x y => by
      by_cases e : x < y
      · rw [decide_eq_true e, decide_eq_true (by omega)]
      · rw [decide_eq_false e, decide_eq_false (by omega)]
    refine ⟨_, rfl, a, _, rfl, .inl (SqL.of ha), rfl, _, rfl, ?_⟩
    rw [iv_len, show (2 : Int) = ((2 : Nat) : Int) from rfl, eqi]
    by_cases h2 : four.length = 2
    · rw [decide_eq_true h2]
      have hm : mayFill four n = (decide (n < 2) && decide (four.getD 1 0 % 16 = 0)) := by
        unfold mayFill
        rw [if_pos h2]
      refine iteT ⟨_, rfl, _, _, rfl, rfl, _, rfl, ?_⟩
      rw [ltd]
      by_cases hn : n < 2
      · rw [decide_eq_true hn] at hm ⊢
        obtain ⟨x, hx⟩ : ∃ x, four[1]? = some x := ⟨_, List.getElem?_eq_getElem (by omega)⟩
        refine iteT ⟨_, rfl, a, _, 1, .int (x : Nat), rfl, rfl, SqL.of ha, atI_nat (j := 1) (iv_at hx), _, _, rfl, rfl, (by show (0 : Int) < 16; decide), rfl, ?_⟩
        refine hf _ ?_
        dsimp only
        rw [hm, Bool.true_and]
        have e : four.getD 1 0 = x := by rw [List.getD_eq_getElem?_getD, hx]; rfl
        rw [e]
        exact (eqi (x % 16) 0).symm
      · rw [decide_eq_false hn] at hm ⊢
        exact iteF (hf _ (by rw [hm]; rfl))
    · rw [decide_eq_false h2]
      have hm : mayFill four n = (decide (four.length = 3) && (decide (n < 1) && decide (four.getD 2 0 % 4 = 0))) := by
        unfold mayFill
        rw [if_neg h2]
      refine iteF ⟨_, rfl, a, _, rfl, .inl (SqL.of ha), rfl, _, rfl, ?_⟩
      rw [iv_len, show (3 : Int) = ((3 : Nat) : Int) from rfl, eqi]
      by_cases h3 : four.length = 3
      · rw [decide_eq_true h3] at hm ⊢
        refine iteT ⟨_, rfl, _, _, rfl, rfl, _, rfl, ?_⟩
        rw [show (1 : Int) = ((1 : Nat) : Int) from rfl, ltd]
        by_cases hn : n < 1
        · rw [decide_eq_true hn] at hm ⊢
          obtain ⟨x, hx⟩ : ∃ x, four[2]? = some x := ⟨_, List.getElem?_eq_getElem (by omega)⟩
          refine iteT ⟨_, rfl, a, _, 2, .int (x : Nat), rfl, rfl, SqL.of ha, atI_nat (j := 2) (iv_at hx), _, _, rfl, rfl, (by show (0 : Int) < 4; decide), rfl, ?_⟩
          refine hf _ ?_
          dsimp only
          rw [hm, Bool.true_and, Bool.true_and]
          have e : four.getD 2 0 = x := by rw [List.getD_eq_getElem?_getD, hx]; rfl
          rw [e]
          exact (eqi (x % 4) 0).symm
        · rw [decide_eq_false hn] at hm ⊢
          exact iteF (hf _ (by rw [hm]; rfl))
      · rw [decide_eq_false h3] at hm ⊢
        exact iteF (hf _ (by rw [hm]; rfl))
def spO4 : Sp := fun vs H Q _ => ∃ (a : Addr) (four : List Nat), vs = [.ref a] ∧ H a = some (.lst (iv four)) ∧ four.length ≤ 4 ∧ (∀ s ∈ four, s < 64) ∧ ∀ H' p, Same H H' → H p = none → H' p = some (.lst (iv (o4 four))) → Q (.ref p) H'
theorem scOctetsOfFour : FnScope ["four", "number", "six", "octets"] ["four"] (defScope sOctetsOfFour) := ⟨rfl, rfl, rfl, by decide +kernel, rfl, by decide +kernel, by decide +kernel⟩
theorem rep_zero (k : Nat) : (List.replicate ((k : Nat) : Int).toNat [V.int 0]).flatten = iv (List.replicate k 0) := by
  rw [Int.toNat_natCast]
  induction k with
  | zero => rfl
  | succ k ih =>
    rw [List.replicate_succ, List.flatten_cons, ih, List.replicate_succ]
    rfl
theorem cut_takeC (l : List Nat) (j : Nat) : cutV (iv l) none (some (j : Nat)) = iv (l.take j) := by
  unfold cutV
  rw [HT.sIx_none, HT.sIx_nat, iv_len, List.drop_zero, Nat.sub_zero]
  unfold iv
  rw [← List.map_take]
  congr 1
  by_cases h : j ≤ l.length
  · rw [Nat.min_eq_left h]
  · rw [Nat.min_eq_right (by omega), List.take_of_length_le (Nat.le_refl _), List.take_of_length_le (by omega)]
theorem r_octets_of_four (A : FnAt K mg "_octets_of_four" sOctetsOfFour) (m_len : mg "len" = none) (m_max : mg "max" = none) : Ready P w K mg base 1 "_octets_of_four" ["four"] spO4 := by
  refine ready_of A (fun _ _ _ _ _ _ us hl => match us, hl with | [_], _ => rfl) fun f fd F => ?_
  refine F.ok scOctetsOfFour (fun vs H Q E h => ?_) (fun cdv A outer s H vs Q E hr h => ?_)
  · obtain ⟨a, four, rfl, _⟩ := h
    rfl
  · obtain ⟨a, four, rfl, ha, h4, h64, q⟩ := h
    have sc := scOctetsOfFour
    refine ⟨_, pss_cons (ps_set (i := 1) sc.nd rfl (.inl rfl) pe_int)
      (pss_cons (ps_for PassesOwn.never rfl (pi_list (pe_op op_cat (pv 0) (pe_op op_rep (pe_lst (pa_cons pe_int pa_nil)) (pe_op op_sub pe_int (pe_callB call_len_seq (by rfl) m_len PySem.boot_len (pa_cons (pv 0) pa_nil)))))) (pg_name (i := 2) sc.nd rfl (.inl rfl))
        (pss_one (ps_set (i := 1) sc.nd rfl (.inl rfl) (pe_op op_add (pe_op op_mul pe_int (pv 1)) (pv 2)))))
      (pss_cons (ps_set (i := 3) sc.nd rfl (.inl rfl) (pe_lst (pa_cons (pe_op op_fdiv (pv 1) pe_int) (pa_cons (pe_op op_mod (pe_op op_fdiv (pv 1) pe_int) pe_int) (pa_cons (pe_op op_mod (pv 1) pe_int) pa_nil)))))
      (pss_one (ps_ret (pe_slice sl_list (pv 3) po_none (po_some (pe_callB (call_max2 rfl) (by rfl) m_max (by decide +kernel) (pa_cons pe_int (pa_cons (pe_op op_sub (pe_callB call_len_seq (by rfl) m_len PySem.boot_len (pa_cons (pv 0) pa_nil)) pe_int) pa_nil))))))))), ?_⟩
    refine ⟨_, rfl, (by show 1 ≤ sizeLine; decide), fun p1 n1 => ?_⟩
    refine ⟨_, rfl, a, _, rfl, .inl (SqL.of (kn ha n1)), _, _, rfl, rfl, ?_⟩
    rw [iv_len]
    refine ⟨p1, ((4 - four.length : Nat) : Int), _, rfl, congrArg V.int (show (4 : Int) - ((four.length : Nat) : Int) = _ by omega), upd_same, by omega, by omega, by show 1 * ((4 - four.length : Nat) : Int).toNat ≤ sizeLine; rw [sizeLine_eq]; omega, fun p2 n2 => ?_⟩
    rw [rep_zero]
    refine ⟨a, p2, _, _, rfl, rfl, kn (kn ha n1) n2, upd_same, by rw [iv_len, iv_len, List.length_replicate, sizeLine_eq]; omega, fun p3 n3 => ?_⟩
    rw [← iv_app]
    have s3 : Same H (upd (upd (upd H p1 (.lst [.int 0])) p2 (.lst (iv (List.replicate (4 - four.length) 0)))) p3 (.lst (iv (four ++ List.replicate (4 - four.length) 0)))) := (same_new n1).trans ((same_new n2).trans (same_new n3))
    have h3 : (upd (upd (upd H p1 (.lst [.int 0])) p2 (.lst (iv (List.replicate (4 - four.length) 0)))) p3 (.lst (iv (four ++ List.replicate (4 - four.length) 0)))) p3 = some (.lst (iv (four ++ List.replicate (4 - four.length) 0))) := upd_same
    generalize upd (upd (upd H p1 (.lst [.int 0])) p2 (.lst (iv (List.replicate (4 - four.length) 0)))) p3 (.lst (iv (four ++ List.replicate (4 - four.length) 0))) = H3 at s3 h3 ⊢
    obtain ⟨L, hL⟩ : ∃ L, L = four ++ List.replicate (4 - four.length) 0 := ⟨_, rfl⟩
    have hn4 : o4n four = L.foldl (fun n s => 64 * n + s) 0 := by rw [hL]; rfl
    rw [← hL] at h3
    refine ⟨p3, rfl, ⟨_, SqL.of h3⟩, ?_⟩
    refine for_it (walk_list (K := K) (a := p3) (xs := iv L)) (fun i σ H' => ∃ (y2 : Option V), σ = [some (.ref a), some (.int (((L.take i).foldl (fun n s => 64 * n + s) 0 : Nat) : Int)), y2, none] ∧ H' = H3) ⟨none, rfl, rfl⟩ (fun i σ H' _ hp => ?_) (fun i x σ H1 H2 hi hp hy => ?_) (fun σ H1 hp => ?_)
    · obtain ⟨y2, rfl, rfl⟩ := hp
      exact SqL.of h3
    · obtain ⟨y2, rfl, rfl⟩ := hp
      obtain ⟨rfl, hx⟩ := hy
      rw [iv_len] at hi
      have hn := List.getElem?_eq_getElem hi
      generalize L[i] = s0 at hn
      rw [iv_at hn] at hx
      injection hx with hx
      subst hx
      refine ⟨_, rfl, _, _, rfl, rfl, .inl ⟨by decide, by decide⟩, _, rfl, _, _, rfl, rfl, some (.int (s0 : Nat)), ?_, rfl⟩
      rw [take_more hn, List.foldl_append]
      rfl
    · obtain ⟨y2, rfl, rfl⟩ := hp
      rw [iv_len, List.take_length, ← hn4]
      refine ⟨_, rfl, _, _, rfl, rfl, ⟨by decide, by decide⟩, _, rfl, _, _, rfl, rfl, ⟨by decide, by decide⟩, _, _, rfl, rfl, (by show (0 : Int) < 256; decide), _, rfl, _, _, rfl, rfl, (by show (0 : Int) < 256; decide), (by show 3 ≤ sizeLine; decide), fun p4 n4 => ?_⟩
      have e3 : [V.int (((o4n four : Nat) : Int) / 65536), V.int (((o4n four : Nat) : Int) / 256 % 256), V.int (((o4n four : Nat) : Int) % 256)] = iv [o4n four / 65536, o4n four / 256 % 256, o4n four % 256] := by
        show _ = [V.int ((o4n four / 65536 : Nat) : Int), V.int ((o4n four / 256 % 256 : Nat) : Int), V.int ((o4n four % 256 : Nat) : Int)]
        rw [show ((o4n four / 65536 : Nat) : Int) = ((o4n four : Nat) : Int) / 65536 by omega, show ((o4n four / 256 % 256 : Nat) : Int) = ((o4n four : Nat) : Int) / 256 % 256 by omega, show ((o4n four % 256 : Nat) : Int) = ((o4n four : Nat) : Int) % 256 by omega]
      have s4 : Same H1 (upd H1 p4 (.lst (iv [o4n four / 65536, o4n four / 256 % 256, o4n four % 256]))) := same_new n4
      refine ⟨_, rfl, _, rfl, a, _, rfl, .inl (SqL.of (kn (s3 _ _ ha) n4)), _, _, rfl, rfl, _, _, rfl, ?_⟩
      rw [iv_len]
      have em : (if ((four.length : Nat) : Int) - 1 > 0 then ((four.length : Nat) : Int) - 1 else 0) = ((four.length - 1 : Nat) : Int) := by split <;> omega
      rw [em]
      have h5 : (upd H1 p4 (.lst (iv [o4n four / 65536, o4n four / 256 % 256, o4n four % 256]))) p4 = some (.lst (iv [o4n four / 65536, o4n four / 256 % 256, o4n four % 256])) := upd_same
      refine ⟨_, rfl, p4, _, rfl, SqL.of h5, fun p5 n5 => ?_⟩
      rw [cut_takeC]
      refine q _ p5 ((s3.trans s4).trans (same_new n5)) (Same.free (s3.trans s4) n5) ?_
      rw [upd_same]
      rfl
end
end FL


namespace FL
open PySem PySem.Spec PyProof.Rows L2
theorem sgn_is {c d : Nat} {x : Str} (hx : x = ⟨#[d]⟩) : decide (V.str ⟨#[c]⟩ = V.str x) = decide (c = d) := by
  rw [hx]
  exact decide_eq_decide.mpr str_one
theorem tw_lenC {d : Nat} : ∀ {l : List Nat} {i : Nat}, l[i]? = some d → (∀ k, k < i → l[k]? ≠ some d) → (l.takeWhile fun x => !decide (x = d)).length = i
  | [], i, h, _ => by simp at h
  | c :: r, 0, h, _ => by
    have hc : c = d := by simpa using h
    rw [List.takeWhile_cons, decide_eq_true hc]
    rfl
  | c :: r, i + 1, h, hk => by
    have hc : c ≠ d := fun e => hk 0 (by omega) (by rw [e]; rfl)
    have ih := tw_lenC (l := r) (i := i) (by simpa using h) (fun k hlt => by have := hk (k + 1) (by omega); simpa using this)
    rw [List.takeWhile_cons, if_pos (by rw [decide_eq_false hc]; rfl), List.length_cons, ih]
/-- the first place of a sign in a text -/
theorem occ_one {x : Str} {d : Nat} (h : d ∈ x.cps.toList) : ∃ rest, Builtin.Str.occurrences x ⟨#[d]⟩ 0 x.length 1 = (x.cps.toList.takeWhile fun y => !decide (y = d)).length :: rest := by
  have hf := PySem.StrLaws.found_one x d
  rw [decide_eq_true h] at hf
  cases e : Builtin.Str.occurrences x ⟨#[d]⟩ 0 x.length 1 with
  | nil =>
    rw [e] at hf
    cases hf
  | cons k rest =>
    have hfd : Txt.find x (⟨#[d]⟩ : Str) = (k : Int) := by
      unfold Txt.find
      rw [e]
    rcases PyProof.Rows.find_whole x (⟨#[d]⟩ : Str) with ⟨h1, _⟩ | ⟨i, h1, h2, h3⟩
    · rw [hfd] at h1
      omega
    · have hki : k = i := by rw [hfd] at h1; omega
      subst hki
      have at_ : ∀ j, PySem.StrLaws.At x (⟨#[d]⟩ : Str) x.length j ↔ x.cps.toList[j]? = some d := fun j => by
        constructor
        · exact fun z => (PySem.StrLaws.subAt_one x d j).mp ⟨z.1, z.2⟩
        · exact fun z => ⟨((PySem.StrLaws.subAt_one x d j).mpr z).1, ((PySem.StrLaws.subAt_one x d j).mpr z).2⟩
      rw [tw_lenC ((at_ k).mp h2) fun j hj z => h3 j hj ((at_ j).mpr z)]
      exact ⟨rest, rfl⟩
theorem occ_six {c : Nat} (h : c ∈ SIXS.cps.toList) : ∃ rest, Builtin.Str.occurrences SIXS ⟨#[c]⟩ 0 SIXS.length 1 = sixIx c :: rest := occ_one h
theorem cutS_codes (z : Str) {i j : Nat} (h1 : i ≤ z.length) : (cutS z (some (i : Nat)) (some (j : Nat))).cps.toList = (z.cps.toList.drop i).take (j - i) := by
  unfold cutS
  rw [HT.sIx_nat, HT.sIx_nat, Nat.min_eq_left h1]
  show (List.take _ (List.drop _ _)) = _
  have hl := len_cps z
  by_cases h2 : j ≤ z.length
  · rw [Nat.min_eq_left h2]
  · rw [Nat.min_eq_right (by omega), List.take_of_length_le (by rw [List.length_drop]; omega), List.take_of_length_le (by rw [List.length_drop]; omega)]
def linesOf (s : List Nat) (k : Nat) : List (List Nat) := (List.range k).map (lineAt s)
theorem lineAt_len (s : List Nat) (i : Nat) : (lineAt s i).length ≤ 73 := by
  unfold lineAt
  rw [List.length_append, List.length_singleton]
  have := List.length_take_le 72 (s.drop (72 * i))
  omega
theorem join0C : ∀ ps : List (List Nat), Txt.join ("" : Str) (ps.map mk) = mk ps.flatten := by
  intro ps
  refine mk_eq ?_
  show TL.tl _ = _
  rw [TL.join_eq, TL.tl_join]
  have e : TL.tl ("" : Str) = [] := by decide +kernel
  rw [e, List.map_map]
  have e2 : ps.map (TL.tl ∘ mk) = ps := (List.map_congr_left (fun p _ => mk_codes p)).trans (List.map_id _)
  rw [e2]
  induction ps with
  | nil => rfl
  | cons p r ih =>
    cases r with
    | nil => simp [TL.joinL]
    | cons p2 r2 =>
      show p ++ ([] ++ TL.joinL [] (p2 :: r2)) = _
      rw [List.nil_append, ih ((List.map_congr_left (fun p _ => mk_codes p)).trans (List.map_id _))]
      rfl
theorem sum0C {ps : List (List Nat)} {n : Nat} (h : ∀ p ∈ ps, p.length ≤ n) : ((ps.map mk).map (·.length)).sum ≤ ps.length * n := by
  induction ps with
  | nil => simp
  | cons p r ih =>
    have h1 := h p (by simp)
    have h2 := ih fun x hx => h x (List.mem_cons_of_mem _ hx)
    rw [List.map_cons, List.map_cons, List.sum_cons, mk_len, List.length_cons, Nat.add_mul]
    omega
theorem sixC_lenC : ∀ l : List Nat, (sixC l).length ≤ 2 * l.length + 2
  | [] => by simp [sixC]
  | [a] => by simp [sixC, FL.four]
  | [a, b] => by simp [sixC, FL.four]
  | a :: b :: c :: r => by
    have := sixC_lenC r
    have e : sixC (a :: b :: c :: r) = FL.four [a, b, c] ++ sixC r := by simp [sixC]
    rw [e, List.length_append, four_len (by simp) (by simp)]
    simp
    omega
section
variable {P : Program} {w : World} {K : PySem.W.Frag} {mg : Str → Option Value} {base : Heap}
theorem scWriteSixes : FnScope ["octets", "signs", "begin"] ["octets"] (defScope sWriteSixes) := ⟨rfl, rfl, rfl, by decide +kernel, rfl, by decide +kernel, by decide +kernel⟩
theorem r_write_sixes (A : FnAt K mg "_write_sixes" sWriteSixes) (R : Ready P w K mg base 2 "sixes_of" ["octets"] spSixes) (m_len : mg "len" = none) (m_range : mg "range" = none) {t1 : Tok} (m_WIDTH : mg "WIDTH" = some (.int 72 t1)) : Ready P w K mg base 3 "_write_sixes" ["octets"] (spWrC lines6) := by
  obtain ⟨f1, fd1, g1, k1, b1, G1⟩ := R
  refine ready_of A (fun _ _ _ _ _ _ us hl => match us, hl with | [_], _ => rfl) fun f fd F => ?_
  refine F.ok scWriteSixes (fun vs H Q E h => ?_) (fun cdv A outer s H vs Q E hr h => ?_)
  · obtain ⟨a, l, rfl, _⟩ := h
    rfl
  · obtain ⟨a, l, rfl, ha, hb, q⟩ := h
    have sc := scWriteSixes
    refine ⟨_, pss_cons (ps_set (i := 1) sc.nd rfl (.inr rfl) (pe_call G1 (hr.mono (by decide)) (by rfl) g1 k1 b1 .nil pass0 (pa_cons (pv 0) pa_nil)))
      (pss_one (ps_ret (pe_join pe_str (pe_lc (own := [("begin", 2)]) (g := gName 2) (tt := tYes) (by rfl) sc.nd (pi_range3 (by rfl) m_range (pa_cons pe_int (pa_cons (pe_callB call_len_str (by rfl) m_len PySem.boot_len (pa_cons (pv 1) pa_nil)) (pa_cons (pe_glob (v := .int 72) rfl m_WIDTH ⟨_, rfl⟩) pa_nil)))) (blkOk_by (own := [("begin", 2)]) (N := ["octets", "signs", "begin"]) (sc := defScope sWriteSixes) (by decide +kernel)) (fun _ _ _ _ _ => (pg_name (i := 2) sc.nd rfl (.inl rfl))) (fun _ _ _ _ _ => pts_nil) (fun _ _ _ _ _ => (pe_op op_add_str (pe_slice sl_str (pv 1) (po_some (pv 2)) (po_some (pe_op op_add (pv 2) (pe_glob (v := .int 72) rfl m_WIDTH ⟨_, rfl⟩)))) pe_str)))))), ?_⟩
    have hbl := hb.len
    refine ⟨_, rfl, a, l, rfl, ha, hb.lt, by omega, fun H1 s1 => ?_⟩
    have hsl := sixC_lenC l
    obtain ⟨sg, hsg⟩ : ∃ sg, sg = sixC l := ⟨_, rfl⟩
    have hfin : mk (lines6 l) = mk (linesOf sg ((sg.length + 71) / 72)).flatten := by rw [hsg]; rfl
    rw [← hsg] at hsl ⊢
    refine ⟨⟨_, rfl⟩, _, rfl, _, rfl, szX (by omega), 0, ((sg.length : Nat) : Int), 72, (sg.length + 71) / 72, by rw [mk_len], rg_up (c := 72) (by omega) (by decide) (by decide), fun D hD => ?_⟩
    refine lc_it (walk_rangeC (lo := 0) (c := 72) (n := (sg.length + 71) / 72)) (fun i H' => Same H1 H' ∧ H' D = some (.lst (((linesOf sg i).map mk).map V.str))) ⟨same_new hD, upd_same⟩ (fun _ _ _ _ => trivial) (fun i x H2 H3 hi hp hy => ?_) (fun H2 hp => ?_)
    · obtain ⟨rfl, hx⟩ := hy
      obtain ⟨sm, hd⟩ := hp
      have hx' : x = .int ((72 * i : Nat) : Int) := by
        rw [hx]
        exact congrArg V.int (by omega)
      subst hx'
      refine ⟨rfl, ?_⟩
      unfold tYes
      refine iteT ?_
      have ec : cutS (mk sg) (some ((72 * i : Nat) : Int)) (some (((72 * i : Nat) : Int) + 72)) = mk ((sg.drop (72 * i)).take 72) := mk_eq (by
        rw [show (((72 * i : Nat) : Int) + 72) = ((72 * i + 72 : Nat) : Int) by omega, cutS_codes _ (by rw [mk_len]; omega), mk_codes, show 72 * i + 72 - 72 * i = 72 by omega])
      have e10 : ("\n" : Str) = mk [10] := by decide +kernel
      have hc := catX (rfl : mk ((sg.drop (72 * i)).take 72) = _) e10
      refine ⟨_, rfl, _, rfl, _, rfl, _, rfl, _, _, rfl, rfl, _, rfl, mk sg, rfl, szX (by omega), ?_⟩
      rw [ec]
      refine ⟨_, _, rfl, rfl, (by rw [← len_append]; exact szE hc (by have := List.length_take_le 72 (sg.drop (72 * i)); simp; omega)), ?_⟩
      rw [hc]
      refine ⟨_, hd, ?_, same_set sm hD, ?_⟩
      · rw [List.length_map, List.length_map]
        unfold linesOf
        rw [List.length_map, List.length_range]
        exact szl (by omega)
      · rw [upd_same]
        unfold linesOf
        rw [List.range_succ, List.map_append, List.map_append, List.map_append]
        rfl
    · obtain ⟨sm, hd⟩ := hp
      refine ⟨("" : Str), D, _, rfl, rfl, .inl (SqL.of hd), ?_, ?_⟩
      · have h1 := sum0C (ps := linesOf sg ((sg.length + 71) / 72)) (n := 73) fun p hp => by
          obtain ⟨i, _, rfl⟩ := List.mem_map.mp hp
          exact lineAt_len _ _
        have h2 : ("" : Str).length = 0 := by decide +kernel
        have h3 : (linesOf sg ((sg.length + 71) / 72)).length = (sg.length + 71) / 72 := by
          unfold linesOf
          rw [List.length_map, List.length_range]
        rw [h2]
        simp only [List.length_map] at h1 ⊢
        rw [h3] at h1
        omega
      · rw [join0C, ← hfin]
        exact q _ (s1.trans sm)
theorem scReadSixes : FnScope ["text", "octets", "four", "filled", "place", "sign"] ["text"] (defScope sReadSixes) := ⟨rfl, rfl, rfl, by decide +kernel, rfl, by decide +kernel, by decide +kernel⟩
theorem x_read_sixes {C : Addr} (MNoCode : MkFld P w K mg base "NoCode" C "at") (A : FnAt K mg "_read_sixes" sReadSixes) (R1 : Ready P w K mg base 1 "_may_fill" ["four", "filled"] spMayFill) (R2 : Ready P w K mg base 1 "_octets_of_four" ["four"] spO4)
    (m_enumerate : mg "enumerate" = none) (m_len : mg "len" = none) {t1 : Tok} (m_SIXES : mg "SIXES" = some (.str SIXS t1)) : ReadyX P w K mg base 4 "_read_sixes" ["text"] (spRdC C read6) := by
  obtain ⟨f1, fd1, g1, k1, b1, G1⟩ := R1
  obtain ⟨f2, fd2, g2, k2, b2, G2⟩ := R2
  refine readyX_of A (fun _ _ _ _ _ _ us hl => match us, hl with | [_], _ => rfl) fun f fd F => ?_
  refine F.okX scReadSixes (fun vs H Q E h => ?_) (fun cdv A outer s H vs Q E hr h => ?_)
  · obtain ⟨z, rfl, _⟩ := h
    rfl
  · obtain ⟨z, rfl, hz, hsg, q, qe⟩ := h
    have sc := scReadSixes
    refine ⟨_, pss_cons (ps_set (i := 1) sc.nd rfl (.inl rfl) (pe_lst pa_nil))
      (pss_cons (ps_set (i := 2) sc.nd rfl (.inl rfl) (pe_lst pa_nil))
      (pss_cons (ps_set (i := 3) sc.nd rfl (.inl rfl) pe_int)
      (pss_cons (ps_for (passes_of rfl) rfl (pi_enumS (by rfl) m_enumerate (pa_cons (pv 0) pa_nil)) (pg_tup rfl (pgs_cons (pg_name (i := 4) sc.nd rfl (.inl rfl)) (pgs_cons (pg_name (i := 5) sc.nd rfl (.inl rfl)) pgs_nil)))
        (pss_cons (ps_if (PW.pt (pw_or (pt_cmpR op_eq (pv 5) pe_str (nomark _)) (pw_or1 (pt_cmpR op_eq (pv 5) pe_str (nomark _)))))
            (pss_one ps_continue)
            pss_nil)
          (pss_one (ps_if (PW.pt (pw_and (pt_cmpR op_eq (pv 5) pe_str (nomark _)) (pw_and1 (pt_val (pe_call G1 (hr.mono (by decide)) (by rfl) g1 k1 b1 .nil pass0 (pa_cons (pv 2) (pa_cons (pv 3) pa_nil)))))))
            (pss_one (ps_aug (i := 3) sc.nd rfl (.inl rfl) pe_int ip_add))
            (pss_one (ps_if (PW.pt (pw_and (pt_cmpR op_in_sign (pv 5) (pe_glob (v := .str SIXS) rfl m_SIXES ⟨_, rfl⟩) (by rfl)) (pw_and1 (pt_cmpR op_eq (pv 3) pe_int (nomark _)))))
                (pss_cons (ps_if (pt_cmpR op_eq (pe_callB call_len_seq (by rfl) m_len PySem.boot_len (pa_cons (pv 2) pa_nil)) pe_int (nomark _))
                    (pss_cons (ps_expr (pe_bm PySem.F.plainAttrs_list PySem.F.slot_list_extend PySem.F.type_list_extend mt_extend (pv 1) (pa_cons (pe_call G2 (hr.mono (by decide)) (by rfl) g2 k2 b2 .nil pass0 (pa_cons (pv 2) pa_nil)) pa_nil)))
                      (pss_one (ps_set (i := 2) sc.nd rfl (.inl rfl) (pe_lst pa_nil))))
                    pss_nil)
                  (pss_one (ps_expr (pe_bm PySem.F.plainAttrs_list PySem.F.slot_list_append PySem.F.type_list_append mt_append (pv 2) (pa_cons (pe_bm PySem.F.plainAttrs_str PySem.F.slot_str_index PySem.F.type_str_index mt_sindex (pe_glob (v := .str SIXS) rfl m_SIXES ⟨_, rfl⟩) (pa_cons (pv 5) pa_nil)) pa_nil)))))
                (pss_one (ps_raise rfl (takes_of rfl rfl rfl rfl) (pmk_fld MNoCode (hr.mono (by decide)) (by rfl) (pa_cons pe_str (pa_cons (pv 4) pa_nil)) [] (.inl rfl))))))))))
      (pss_cons (ps_if (PW.pt (pw_and (pt_cmpR (op_neD hr.units) (pv 2) (pe_lst pa_nil) (nomark _)) (pw_and1 (pt_cmpR op_lt (pe_op op_add (pe_callB call_len_seq (by rfl) m_len PySem.boot_len (pa_cons (pv 2) pa_nil)) (pv 3)) pe_int (nomark _)))))
        (pss_one (ps_raise rfl (takes_of rfl rfl rfl rfl) (pmk_fld MNoCode (hr.mono (by decide)) (by rfl) (pa_cons pe_str (pa_cons (pe_callB call_len_str (by rfl) m_len PySem.boot_len (pa_cons (pv 0) pa_nil)) pa_nil)) [] (.inl rfl))))
        pss_nil)
      (pss_one (ps_ret (pe_op op_cat (pv 1) (pe_call G2 (hr.mono (by decide)) (by rfl) g2 k2 b2 .nil pass0 (pa_cons (pv 2) pa_nil))))))))), ?_⟩
    refine ⟨(by show 0 ≤ sizeLine; decide), fun po npo => ⟨(by show 0 ≤ sizeLine; decide), fun f0 nf0 => ?_⟩⟩
    have npo0 : H po = none := npo
    have nf00 : H f0 = none := Same.free (same_new npo) nf0
    have hpf : po ≠ f0 := fun e => by rw [← e, upd_same] at nf0; cases nf0
    refine ⟨_, rfl, z, rfl, ?_⟩
    refine for_it walk_enumS (fun i σ H' => ∃ (y4 y5 : Option V) (pf : Addr) (st : St6), σ = [some (.str z), some (.ref po), some (.ref pf), some (.int (st.filled : Nat)), y4, y5] ∧ Same H H' ∧ H' po = some (.lst (iv st.oct)) ∧ H' pf = some (.lst (iv st.four)) ∧ pf ≠ po ∧ H pf = none ∧ run6 (z.cps.toList.take i) 0 init6 = .ok st ∧ Ok6 st i)
      ⟨none, none, f0, init6, rfl, (same_new npo).trans (same_new nf0), by rw [upd_ne hpf]; exact upd_same, upd_same, hpf.symm, nf00, by rw [List.take_zero]; rfl, ⟨by decide, (fun s h => by cases h), Nat.le_refl _, Nat.le_refl _⟩⟩ (fun _ _ _ _ _ => trivial) (fun i x σ H1 H2 hi hp hy => ?_) (fun σ H1 hp => ?_)
    · obtain ⟨y4, y5, pf, st, rfl, sm, hpo, hpfv, hne, npf, hrun, ok⟩ := hp
      obtain ⟨T, c, rfl, nT, rfl, hc⟩ := hy
      have hcl : z.cps.toList[i]? = some c := cps_at hc
      have sT : Same H1 (upd H1 T (.tup [.int (i : Nat), .str ⟨#[c]⟩])) := same_new nT
      have hT : (upd H1 T (.tup [.int (i : Nat), .str ⟨#[c]⟩])) T = some (.tup [.int (i : Nat), .str ⟨#[c]⟩]) := upd_same
      generalize upd H1 T (.tup [.int (i : Nat), .str ⟨#[c]⟩]) = H2 at sT hT ⊢
      have sm2 := sm.trans sT
      have hpo2 := sT _ _ hpo
      have hpf2 := sT _ _ hpfv
      have hil : i < z.length := hi
      have ol := ok.ol
      refine ⟨T, _, rfl, SqT.of hT, rfl, _, _, rfl, _, _, rfl, rfl, ?_⟩
      have e32 : (" " : Str) = ⟨#[32]⟩ := by decide +kernel
      have e10 : ("\n" : Str) = ⟨#[10]⟩ := by decide +kernel
      have e61 : ("=" : Str) = ⟨#[61]⟩ := by decide +kernel
      have cont : ∀ (H3 : Hp) (pf' : Addr) (st' : St6), Same H H3 → step6 st c = some st' → H3 po = some (.lst (iv st'.oct)) → H3 pf' = some (.lst (iv st'.four)) → pf' ≠ po → H pf' = none → ∃ (y4 y5 : Option V) (pf'' : Addr) (st'' : St6), [some (V.str z), some (.ref po), some (.ref pf'), some (.int (st'.filled : Nat)), some (.int (i : Nat)), some (.str ⟨#[c]⟩)] = [some (.str z), some (.ref po), some (.ref pf''), some (.int (st''.filled : Nat)), y4, y5] ∧ Same H H3 ∧ H3 po = some (.lst (iv st''.oct)) ∧ H3 pf'' = some (.lst (iv st''.four)) ∧ pf'' ≠ po ∧ H pf'' = none ∧ run6 (z.cps.toList.take (i + 1)) 0 init6 = .ok st'' ∧ Ok6 st'' (i + 1) :=
        fun H3 pf' st' s3 hs h1 h2 h3 h4 => ⟨_, _, pf', st', rfl, s3, h1, h2, h3, h4, run6_next hrun hcl hs, ok6_step ok hs⟩
      have stop : step6 st c = none → ∀ H3, Same H H3 → Fails C "at" (i : Nat) H3 E := fun hs H3 s3 => Fails.later (qe i (run6_stop hrun hcl hs)) s3
      refine ⟨_, rfl, rfl, _, rfl, ?_⟩
      rw [show decide (V.str ⟨#[c]⟩ = V.str (" " : Str)) = decide (c = 32) from sgn_is e32]
      by_cases h32 : c = 32
      · rw [decide_eq_true h32]
        refine iteT (iteT ?_)
        exact cont H2 pf st sm2 (by unfold step6; rw [if_pos (.inl h32)]) hpo2 hpf2 hne npf
      rw [decide_eq_false h32]
      refine iteF ⟨_, rfl, rfl, _, rfl, ?_⟩
      rw [show decide (V.str ⟨#[c]⟩ = V.str ("\n" : Str)) = decide (c = 10) from sgn_is e10]
      by_cases h10 : c = 10
      · rw [decide_eq_true h10]
        refine iteT ?_
        exact cont H2 pf st sm2 (by unfold step6; rw [if_pos (.inr h10)]) hpo2 hpf2 hne npf
      rw [decide_eq_false h10]
      refine iteF ?_
      have hstep : step6 st c = if c = 61 ∧ mayFill st.four st.filled = true then some ⟨st.oct, st.four, st.filled + 1⟩
          else if c ∈ SIXS.cps.toList ∧ st.filled = 0 then (if st.four.length = 4 then some ⟨st.oct ++ o4 st.four, [sixIx c], st.filled⟩ else some ⟨st.oct, st.four ++ [sixIx c], st.filled⟩)
          else none := by
        unfold step6
        rw [if_neg (fun y => y.elim h32 h10)]
      by_cases h61 : c = 61
      · refine ⟨_, rfl, rfl, _, rfl, ?_⟩
        rw [show decide (V.str ⟨#[c]⟩ = V.str ("=" : Str)) = decide (c = 61) from sgn_is e61, decide_eq_true h61]
        refine iteT ⟨_, rfl, _, rfl, pf, st.four, st.filled, rfl, hpf2, ok.f4, _, rfl, ?_⟩
        cases hm : mayFill st.four st.filled with
        | true =>
          refine iteT ⟨_, rfl, _, _, rfl, rfl, ?_⟩
          exact cont H2 pf ⟨st.oct, st.four, st.filled + 1⟩ sm2 (by rw [hstep, if_pos ⟨h61, hm⟩]) hpo2 hpf2 hne npf
        | false =>
          have hs : step6 st c = none := by
            rw [hstep, if_neg (fun y => by rw [hm] at y; cases y.2), if_neg (fun y => not61 (h61 ▸ y.1))]
          refine iteF ⟨_, rfl, c, SIXS, rfl, rfl, _, rfl, ?_⟩
          rw [decide_eq_false (fun y => not61 (h61 ▸ y))]
          exact iteF (iteF ⟨_, rfl, mk_leaf rfl (Nat.le_refl _) (stop hs H2 sm2)⟩)
      refine ⟨_, rfl, rfl, _, rfl, ?_⟩
      rw [show decide (V.str ⟨#[c]⟩ = V.str ("=" : Str)) = decide (c = 61) from sgn_is e61, decide_eq_false h61]
      refine iteF (iteF ⟨_, rfl, c, SIXS, rfl, rfl, _, rfl, ?_⟩)
      rw [if_neg (fun y => h61 y.1)] at hstep
      by_cases hin : c ∈ SIXS.cps.toList
      case neg =>
        rw [if_neg (fun y => hin y.1)] at hstep
        rw [decide_eq_false hin]
        exact iteF (iteF ⟨_, rfl, mk_leaf rfl (Nat.le_refl _) (stop hstep H2 sm2)⟩)
      rw [decide_eq_true hin]
      refine iteT ⟨_, rfl, rfl, _, rfl, ?_⟩
      by_cases hfl : st.filled = 0
      case neg =>
        rw [if_neg (fun y => hfl y.2)] at hstep
        rw [decide_eq_false (show ¬ V.int ((st.filled : Nat) : Int) = V.int 0 from fun y => hfl (by have := V.int.inj y; omega))]
        exact iteF ⟨_, rfl, mk_leaf rfl (Nat.le_refl _) (stop hstep H2 sm2)⟩
      rw [decide_eq_true (show V.int ((st.filled : Nat) : Int) = V.int 0 by rw [hfl]; rfl)]
      rw [if_pos ⟨hin, hfl⟩] at hstep
      obtain ⟨restO, hocc⟩ := occ_six hin
      refine iteT ⟨_, rfl, pf, _, rfl, .inl (SqL.of hpf2), rfl, _, rfl, ?_⟩
      rw [iv_len]
      by_cases h4 : st.four.length = 4
      · rw [if_pos h4] at hstep
        rw [decide_eq_true (show V.int ((st.four.length : Nat) : Int) = V.int 4 by rw [h4]; rfl)]
        refine iteT ⟨_, rfl, .inl ⟨rfl, _, SqL.of hpo2⟩, _, rfl, pf, st.four, rfl, hpf2, ok.f4, ok.f64, fun H4 p4 s4 n4 hp4 => ?_⟩
        have h3 := o4_len st.four
        refine ⟨po, p4, _, _, rfl, rfl, s4 _ _ hpo2, hp4, by rw [iv_len, iv_len, sizeLine_eq]; omega, ?_⟩
        rw [← iv_app]
        have s5 : Same H (upd H4 po (.lst (iv (st.oct ++ o4 st.four)))) := same_set (sm2.trans s4) npo0
        have hpo5 : (upd H4 po (.lst (iv (st.oct ++ o4 st.four)))) po = some (.lst (iv (st.oct ++ o4 st.four))) := upd_same
        generalize upd H4 po (.lst (iv (st.oct ++ o4 st.four))) = H5 at s5 hpo5 ⊢
        refine ⟨(by show 0 ≤ sizeLine; decide), fun pf' npf' => ?_⟩
        have hne' : pf' ≠ po := fun e => by rw [e, hpo5] at npf'; cases npf'
        have hpf' : (upd H5 pf' (.lst [])) pf' = some (.lst []) := upd_same
        refine ⟨_, rfl, .inl ⟨rfl, _, SqL.of hpf'⟩, rfl, _, rfl, SIXS, _, sixIx c, restO, rfl, rfl, hocc, ?_⟩
        refine ⟨pf', _, _, rfl, rfl, hpf', by show 0 < sizeLine; decide, ?_⟩
        refine cont _ pf' ⟨st.oct ++ o4 st.four, [sixIx c], st.filled⟩ ?_ hstep ?_ upd_same hne' (Same.free s5 npf')
        · exact same_set (s5.trans (same_new npf')) (Same.free s5 npf')
        · rw [upd_ne hne'.symm, upd_ne hne'.symm]
          exact hpo5
      · rw [if_neg h4] at hstep
        rw [decide_eq_false (show ¬ V.int ((st.four.length : Nat) : Int) = V.int 4 from fun y => h4 (by have := V.int.inj y; omega))]
        refine iteF ?_
        refine ⟨_, rfl, .inl ⟨rfl, _, SqL.of hpf2⟩, rfl, _, rfl, SIXS, _, sixIx c, restO, rfl, rfl, hocc, ?_⟩
        have := ok.f4
        refine ⟨pf, _, _, rfl, rfl, hpf2, by rw [iv_len]; exact szl (by omega), ?_⟩
        refine cont _ pf ⟨st.oct, st.four ++ [sixIx c], st.filled⟩ (same_set sm2 npf) hstep ?_ ?_ hne npf
        · rw [upd_ne hne.symm]
          exact hpo2
        · rw [upd_same, show [V.int (sixIx c : Nat)] = iv [sixIx c] from rfl, ← iv_app]
    · obtain ⟨y4, y5, pf, st, rfl, sm, hpo, hpfv, hne, npf, hrun, ok⟩ := hp
      have ht : z.cps.toList.take z.cps.size = z.cps.toList := List.take_of_length_le (by simp)
      rw [ht] at hrun
      have hread : read6 z.cps.toList = end6 z.cps.toList.length st := by
        unfold read6
        rw [hrun]
      unfold end6 at hread
      have ol := ok.ol
      have hzl : z.cps.size = z.length := rfl
      rw [hzl] at ol
      have f4 := ok.f4
      have good : ¬ (st.four ≠ [] ∧ st.four.length + st.filled < 4) → ∀ H3, Same H1 H3 → ∃ v, [some (V.str z), some (.ref po), some (.ref pf), some (.int (st.filled : Nat)), y4, y5][1]? = some (some v) ∧ ∃ u, [some (V.str z), some (.ref po), some (.ref pf), some (.int (st.filled : Nat)), y4, y5][2]? = some (some u) ∧ ∃ (a : Addr) (four : List Nat), [u] = [.ref a] ∧ H3 a = some (.lst (iv four)) ∧ four.length ≤ 4 ∧ (∀ s ∈ four, s < 64) ∧ ∀ H' p, Same H3 H' → H3 p = none → H' p = some (.lst (iv (o4 four))) → ∃ (p1 q1 : Addr) (xs ys : List V), v = .ref p1 ∧ V.ref p = .ref q1 ∧ H' p1 = some (.lst xs) ∧ H' q1 = some (.lst ys) ∧ xs.length + ys.length ≤ sizeLine ∧ ∀ l', H' l' = none → Q (.ref l') (upd H' l' (.lst (xs ++ ys))) := fun hn H3 s3 => by
        rw [if_neg hn] at hread
        refine ⟨_, rfl, _, rfl, pf, st.four, rfl, s3 _ _ hpfv, f4, ok.f64, fun H4 p s4 np hp => ?_⟩
        have h3 := o4_len st.four
        refine ⟨po, p, _, _, rfl, rfl, s4 _ _ (s3 _ _ hpo), hp, by rw [iv_len, iv_len, sizeLine_eq]; omega, fun l' nl => ?_⟩
        have sall := (sm.trans s3).trans s4
        exact q _ hread _ l' (sall.trans (same_new nl)) (Same.free sall nl) (by rw [upd_same, ← iv_app])
      refine ⟨_, rfl, (by show 0 ≤ sizeLine; decide), fun pe npe => ?_⟩
      have sE : Same H1 (upd H1 pe (.lst [])) := same_new npe
      have hE : (upd H1 pe (.lst [])) pe = some (.lst []) := upd_same
      generalize upd H1 pe (.lst []) = HE at sE hE ⊢
      have hpfE := sE _ _ hpfv
      refine ⟨_, _, .lst (SqL.of hpfE) (dp_ints st.four), .lst (SqL.of hE) .nil, shaped_ints _, shaped_ints [], _, rfl, ?_⟩
      rw [show (PyData.eqv (.list (idt st.four)) (.list [])) = decide (st.four = []) from eqv_ints st.four []]
      by_cases h0 : st.four = []
      · rw [decide_eq_true h0]
        exact iteF (iteF (good (fun y => y.1 h0) HE sE))
      · rw [decide_eq_false h0]
        refine iteT ⟨_, rfl, pf, _, rfl, .inl (SqL.of hpfE), _, rfl, _, _, rfl, rfl, _, _, rfl, rfl, _, rfl, ?_⟩
        rw [iv_len]
        by_cases hlt : st.four.length + st.filled < 4
        · rw [decide_eq_true (by omega : ((st.four.length : Nat) : Int) + ((st.filled : Nat) : Int) < 4)]
          rw [if_pos ⟨h0, hlt⟩] at hread
          have hf := qe _ hread
          rw [len_cps] at hf
          exact iteT ⟨_, rfl, _, rfl, Nat.le_of_lt (szl hz), mk_leaf rfl (Nat.le_refl _) (Fails.later hf (sm.trans sE))⟩
        · rw [decide_eq_false (by omega : ¬ ((st.four.length : Nat) : Int) + ((st.filled : Nat) : Int) < 4)]
          exact iteF (good (fun y => hlt y.2) HE sE)
end
end FL


namespace FL
open PySem PySem.Spec PyProof.Rows L2
/-- both ways of an if meet -/
theorem ite_key {c : Prop} [Decidable c] {A : Prop} {N : L2.St → Hp → Prop} {σ : L2.St} {H : Hp} (J : L2.St → Hp → Prop) (key : ∀ σ' H', J σ' H' → N σ' H') (hA : (∀ σ' H', J σ' H' → N σ' H') → c → A) (hB : ¬ c → J σ H) : if c then A else N σ H := by
  by_cases h : c
  · rw [if_pos h]
    exact hA key h
  · rw [if_neg h]
    exact key _ _ (hB h)
theorem and_key {c : Prop} [Decidable c] {A B : Prop} {N : L2.St → Hp → Prop} {σ : L2.St} {H : Hp} (J : L2.St → Hp → Prop) (key : ∀ σ' H', J σ' H' → N σ' H') (hA : (∀ σ' H', J σ' H' → N σ' H') → c → A) (hB : ¬ c → J σ H) : if c then A else if false = true then B else N σ H := by
  by_cases h : c
  · rw [if_pos h]
    exact hA key h
  · rw [if_neg h, if_neg Bool.false_ne_true]
    exact key _ _ (hB h)
end FL


namespace FL
open PySem PySem.Spec PyProof.Rows L2
/-! ### drawn octets -/
theorem cut_takeR (l : List Nat) (j : Nat) : cutV (iv l) none (some (j : Nat)) = iv (l.take j) := by
  unfold cutV
  rw [HT.sIx_none, HT.sIx_nat, iv_len, List.drop_zero, Nat.sub_zero]
  unfold iv
  rw [← List.map_take]
  congr 1
  by_cases h : j ≤ l.length
  · rw [Nat.min_eq_left h]
  · rw [Nat.min_eq_right (by omega), List.take_of_length_le (Nat.le_refl _), List.take_of_length_le (by omega)]
theorem cut_dropR (l : List Nat) (i : Nat) : cutV (iv l) (some (i : Nat)) none = iv (l.drop i) := by
  unfold cutV
  rw [HT.sIx_nat]
  show ((iv l).drop (min i (iv l).length)).take ((iv l).length - min i (iv l).length) = _
  by_cases h : i ≤ (iv l).length
  · rw [Nat.min_eq_left h, List.take_of_length_le (by rw [List.length_drop]; exact Nat.le_refl _), ← iv_drop]
  · rw [Nat.min_eq_right (by omega : (iv l).length ≤ i), List.drop_eq_nil_of_le (Nat.le_refl (iv l).length), List.drop_eq_nil_of_le (by rw [iv_len] at h; omega : l.length ≤ i)]
    simp [iv]
theorem rep_intR (k n : Nat) : (List.replicate ((k : Nat) : Int).toNat [V.int (n : Nat)]).flatten = iv (List.replicate k n) := by
  rw [Int.toNat_natCast]
  induction k with
  | zero => rfl
  | succ k ih =>
    rw [List.replicate_succ, List.flatten_cons, ih, List.replicate_succ]
    rfl
/-- drawn from a since H; at fp stands o -/
structure DR (a : Addr) (H : Hp) (fp : Addr) (o : HO) (Hc : Hp) : Prop where
  d : Drawn a H Hc
  f : Hc fp = some o
  n : fp ≠ a
  h : H fp = none
theorem Src.neR {H : Hp} {a q : Addr} (s : Src H a) (n : H q = none) : q ≠ a := fun e => by
  obtain ⟨x, y, z, h⟩ := s
  rw [e, h] at n
  cases n
theorem Src.newR {H : Hp} {a q : Addr} {o : HO} (s : Src H a) (n : H q = none) : Src (upd H q o) a := ((Drawn.refl s).same (same_new n)).src
theorem DR.free {a fp q : Addr} {H Hc : Hp} {o : HO} (s : DR a H fp o Hc) (n : Hc q = none) : H q = none ∧ q ≠ a ∧ q ≠ fp := by
  have h1 := s.d.src.neR n
  refine ⟨?_, h1, fun e => by rw [e, s.f] at n; cases n⟩
  cases hh : H q with
  | none => rfl
  | some o => rw [s.d.old q o h1 hh] at n; cases n
theorem DR.same {a fp : Addr} {H Hc H' : Hp} {o : HO} (s : DR a H fp o Hc) (k : Same Hc H') : DR a H fp o H' := ⟨s.d.same k, k _ _ s.f, s.n, s.h⟩
theorem DR.draw {a fp : Addr} {H Hc H' : Hp} {o : HO} (s : DR a H fp o Hc) (dr : Drawn a Hc H') : DR a H fp o H' := ⟨s.d.trans dr, dr.old _ _ s.n s.f, s.n, s.h⟩
theorem DR.other {a fp q : Addr} {H Hc : Hp} {o x : HO} (s : DR a H fp o Hc) (hq : H q = none) (hqa : q ≠ a) (hqf : q ≠ fp) : DR a H fp o (upd Hc q x) :=
  ⟨drawn_set s.d hq hqa.symm, by rw [upd_ne hqf.symm]; exact s.f, s.n, s.h⟩
theorem DR.set {a fp : Addr} {H Hc : Hp} {o x : HO} (s : DR a H fp o Hc) : DR a H fp x (upd Hc fp x) := ⟨drawn_set s.d s.h s.n.symm, upd_same, s.n, s.h⟩
theorem DR.new {a fp q : Addr} {H Hc : Hp} {o x : HO} (s : DR a H fp o Hc) (n : Hc q = none) : DR a H q x (upd Hc q x) := ⟨(s.d.same (same_new n)), upd_same, (s.free n).2.1, (s.free n).1⟩
def IsOc (v : V) : Prop := ∃ n : Nat, v = .int (n : Nat) ∧ n < 256
theorem pickNR {r : Nat} {ms : List Nat} (h : r < ms.length) : atI (ms.map fun m => V.int (m : Nat)) (r : Int) = some (.int (ms[r]'h : Nat)) :=
  atI_nat (by rw [List.getElem?_map, List.getElem?_eq_getElem h]; rfl)
theorem pickPR {p : V → Prop} {xs : List V} {r : Nat} (h : r < xs.length) (hp : ∀ v ∈ xs, p v) : ∃ v, atI xs (r : Int) = some v ∧ p v :=
  ⟨xs[r]'h, atI_nat (List.getElem?_eq_getElem h), hp _ (List.getElem_mem h)⟩
structure OcR (l : List Nat) : Prop where
  lt : ∀ n ∈ l, n < 256
  len : l.length ≤ 200
def longs (i : Nat) : List Nat := (List.range i).map fun k => 97 + k % 26
section
variable {P : Program} {w : World} {K : PySem.W.Frag} {mg : Str → Option Value} {base : Heap}
def spLawRow : Sp := fun vs H Q _ => ∃ (a : Addr) (m : Nat), vs = [.ref a, .int (m : Nat)] ∧ 1 ≤ m ∧ m ≤ 250 ∧ Src H a ∧ ∀ H' p (l : List Nat), Drawn a H H' → H p = none → H' p = some (.lst (iv l)) → OcR l → Q (.ref p) H'
end
end FL


namespace FL
open PySem PySem.Spec PyProof.Rows L2
theorem cut_back (l : List Nat) (k : Nat) (h : 1 ≤ k) : cutV (iv l) none (some (-(k : Int))) = iv (l.take (l.length - k)) := by
  unfold cutV
  have e : HT.sIx (iv l).length (iv l).length (some (-(k : Int))) = l.length - k := by
    show (if -(k : Int) < 0 then (-(k : Int) + ((iv l).length : Int)).toNat else _) = _
    rw [if_pos (by omega), iv_len]
    omega
  rw [e, HT.sIx_none, List.drop_zero, Nat.sub_zero]
  unfold iv
  rw [← List.map_take]
/-! ### sixes' lines are texts -/
theorem six_sig : ∀ n, n < 64 → isSig (six n) = true := by decide +kernel
theorem four_sig {l : List Nat} (hb : ∀ x ∈ l, x < 256) : ∀ c ∈ FL.four l, isSig c = true := by
  match l, hb with
  | [], _ => simp [FL.four]
  | [a], hb =>
    have := hb a (by simp)
    intro c hc
    simp [FL.four] at hc
    rcases hc with rfl | rfl | rfl
    · exact six_sig _ (by omega)
    · exact six_sig _ (by omega)
    · decide
  | [a, b], hb =>
    have := hb a (by simp)
    have := hb b (by simp)
    intro c hc
    simp [FL.four] at hc
    rcases hc with rfl | rfl | rfl | rfl
    · exact six_sig _ (by omega)
    · exact six_sig _ (by omega)
    · exact six_sig _ (by omega)
    · decide
  | [a, b, d], hb =>
    have := hb a (by simp)
    have := hb b (by simp)
    have := hb d (by simp)
    intro c hc
    simp [FL.four] at hc
    rcases hc with rfl | rfl | rfl | rfl
    · exact six_sig _ (by omega)
    · exact six_sig _ (by omega)
    · exact six_sig _ (by omega)
    · exact six_sig _ (by omega)
  | a :: b :: d :: e :: r, _ => simp [FL.four]
theorem sixC_sig : ∀ (n : Nat) (l : List Nat), l.length ≤ n → (∀ x ∈ l, x < 256) → ∀ c ∈ sixC l, isSig c = true
  | n, [], _, _ => by simp [sixC]
  | 0, a :: r, h, _ => by simp at h
  | n + 1, a :: r, h, hb => by
    rw [sixC_step (by simp)]
    intro c hc
    rcases List.mem_append.mp hc with hc | hc
    · exact four_sig (fun x hx => hb x (List.mem_of_mem_take hx)) c hc
    · exact sixC_sig n _ (by rw [List.length_drop]; simp at h ⊢; omega) (fun x hx => hb x (List.mem_of_mem_drop hx)) c hc
theorem lines6_sig {l : List Nat} (hb : ∀ x ∈ l, x < 256) : allSig (lines6 l) = true := by
  refine List.all_eq_true.mpr fun c hc => ?_
  unfold lines6 linesX at hc
  obtain ⟨p, hp, hc⟩ := List.mem_flatten.mp hc
  obtain ⟨i, _, rfl⟩ := List.mem_map.mp hp
  unfold lineAt at hc
  rcases List.mem_append.mp hc with hc | hc
  · exact sixC_sig _ l (Nat.le_refl _) hb c (List.mem_of_mem_drop (List.mem_of_mem_take hc))
  · rw [List.mem_singleton.mp hc]
    decide
theorem flat_len {ps : List (List Nat)} {n : Nat} (h : ∀ p ∈ ps, p.length ≤ n) : ps.flatten.length ≤ ps.length * n := by
  induction ps with
  | nil => simp
  | cons p r ih =>
    have h1 := h p (by simp)
    have h2 := ih fun x hx => h x (List.mem_cons_of_mem _ hx)
    rw [List.flatten_cons, List.length_append, List.length_cons, Nat.add_mul]
    omega
theorem lines6_len (l : List Nat) : (lines6 l).length ≤ 4 * l.length + 150 := by
  have h1 := sixC_lenC l
  have h2 := flat_len (ps := (List.range (((sixC l).length + 71) / 72)).map (lineAt (sixC l))) (n := 73) fun p hp => by
    obtain ⟨i, _, rfl⟩ := List.mem_map.mp hp
    exact lineAt_len _ _
  rw [List.length_map, List.length_range] at h2
  unfold lines6 linesX
  omega
theorem linesX_last : ∀ (n : Nat) (s : List Nat), s.length ≤ n → s ≠ [] → (linesX s).getLast? = some 10
  | 0, s, h, h0 => absurd (List.eq_nil_of_length_eq_zero (by omega)) h0
  | n + 1, s, h, h0 => by
    have hl : 1 ≤ s.length := by
      cases s with
      | nil => exact absurd rfl h0
      | cons a r => simp
    rw [linesX_step h0]
    by_cases hd : s.drop 72 = []
    · rw [hd, linesX_nil, List.append_nil, List.getLast?_append]
      rfl
    · rw [List.getLast?_append, linesX_last n _ (by rw [List.length_drop]; omega) hd]
      rfl
theorem readBy6 {l : List Nat} (hb : ∀ x ∈ l, x < 256) : readBy read6 (lines6 l) = .ok l := by
  unfold readBy
  rw [read6_lines6 hb]
  dsimp only
  by_cases h0 : sixC l = []
  · rw [if_neg (fun y => y.1 (by unfold lines6; rw [h0]; rfl))]
  · rw [if_neg (fun y => y.2 (linesX_last _ _ (Nat.le_refl _) h0))]
end FL


namespace FL
open PySem PySem.Spec PyProof.Rows L2
def SXTN : Str := "0123456789ABCDEF"
/-! ### marks written -/
theorem endsB_drop {l : List Nat} {i : Nat} : endsB (l.drop (i + 1)) = (decide (i + 1 = l.length) || decide (l.length < i + 1) || decide (l[i + 1]? = some 10)) := by
  by_cases h : i + 1 < l.length
  · rw [decide_eq_false (by omega), decide_eq_false (by omega), List.drop_eq_getElem_cons h, List.getElem?_eq_getElem h]
    show decide (l[i + 1] = 10) = _
    by_cases e : l[i + 1] = 10
    · rw [decide_eq_true e, e]
      rfl
    · rw [decide_eq_false e]
      simp [e]
  · rw [List.drop_eq_nil_of_le (by omega)]
    by_cases e : i + 1 = l.length
    · rw [decide_eq_true e]
      rfl
    · rw [decide_eq_false e, decide_eq_true (by omega)]
      rfl
/-- both ways of `a or b` meet in a name -/
theorem or_key {b : Bool} {N : V → Hp → Prop} {B : Prop} {H : Hp} (J : Bool → Prop) (key : ∀ e, J e → N (.bl e) H) (hT : b = true → J true) (hF : ¬ b = true → (∀ e, J e → N (.bl e) H) → B) : if b = true then N (.bl true) H else B := by
  by_cases h : b = true
  · rw [if_pos h]
    exact key true (hT h)
  · rw [if_neg h]
    exact hF h key
section
variable {P : Program} {w : World} {K : PySem.W.Frag} {mg : Str → Option Value} {base : Heap}
def spUnit : Sp := fun vs H Q _ => ∃ (a : Addr) (l : List Nat) (i : Nat), vs = [.ref a, .int (i : Nat)] ∧ H a = some (.lst (iv l)) ∧ OctL l ∧ ∃ o, l[i]? = some o ∧ ∀ H', Same H H' → Q (.str (mk (unitC o (endsB (l.drop (i + 1)))))) H'
theorem scUnitAt : FnScope ["octets", "place", "octet", "ends"] ["octets", "place"] (defScope sUnitAt) := ⟨rfl, rfl, rfl, by decide +kernel, rfl, by decide +kernel, by decide +kernel⟩
theorem r_unit_at (A : FnAt K mg "_unit_at" sUnitAt) (R1 : Ready P w K mg base 1 "is_numbered" ["number"] spNumb) (R2 : Ready P w K mg base 1 "by_sixteen" ["octet"] spSixteen) (R3 : Ready P w K mg base 2 "text_of" ["numbers"] spTextN)
    (m_len : mg "len" = none) {t1 t2 t3 : Tok} (m_BLANK : mg "BLANK" = some (.int 32 t1)) (m_EQUALS : mg "EQUALS" = some (.int 61 t2)) (m_LINE_FEED : mg "LINE_FEED" = some (.int 10 t3)) : Ready P w K mg base 3 "_unit_at" ["octets", "place"] spUnit := by
  obtain ⟨f1, fd1, g1, k1, b1, G1⟩ := R1
  obtain ⟨f2, fd2, g2, k2, b2, G2⟩ := R2
  obtain ⟨f3, fd3, g3, k3, b3, G3⟩ := R3
  refine ready_of A (fun _ _ _ _ _ _ us hl => match us, hl with | [_, _], _ => rfl) fun f fd F => ?_
  refine F.ok scUnitAt (fun vs H Q E h => ?_) (fun cdv A outer s H vs Q E hr h => ?_)
  · obtain ⟨a, l, i, rfl, _⟩ := h
    rfl
  · obtain ⟨a, l, i, rfl, ha, hb, o, ho, q⟩ := h
    have sc := scUnitAt
    refine ⟨_, pss_cons (ps_set (i := 2) sc.nd rfl (.inl rfl) (pe_ix ix_list (pv 0) (pv 1) (fun _ _ => rfl)))
      (pss_cons (ps_set (i := 3) sc.nd rfl (.inl rfl) (pe_or (pe_cmpR op_eq (pe_op op_add (pv 1) pe_int) (pe_callB call_len_seq (by rfl) m_len PySem.boot_len (pa_cons (pv 0) pa_nil)) (nomark _)) (pe_one (pe_cmpR op_eq (pe_ix ix_list (pv 0) (pe_op op_add (pv 1) pe_int) (fun _ _ => rfl)) (pe_glob (v := .int 10) rfl m_LINE_FEED ⟨_, rfl⟩) (nomark _)))))
      (pss_cons (ps_if (PW.pt (pw_or (pt_cmpR op_eq (pv 2) (pe_glob (v := .int 61) rfl m_EQUALS ⟨_, rfl⟩) (nomark _)) (pw_or (PW.pt (pw_and (pt_cmpR op_eq (pv 2) (pe_glob (v := .int 32) rfl m_BLANK ⟨_, rfl⟩) (nomark _)) (pw_and1 (pt_val (pv 3))))) (pw_or1 (pt_not (pt_val (pe_call G1 (hr.mono (by decide)) (by rfl) g1 k1 b1 .nil pass0 (pa_cons (pv 2) pa_nil))))))))
        (pss_one (ps_ret (pe_call G2 (hr.mono (by decide)) (by rfl) g2 k2 b2 .nil pass0 (pa_cons (pv 2) pa_nil))))
        pss_nil)
      (pss_one (ps_ret (pe_call G3 (hr.mono (by decide)) (by rfl) g3 k3 b3 .nil pass0 (pa_cons (pe_lst (pa_cons (pv 2) pa_nil)) pa_nil)))))), ?_⟩
    have hil : i < l.length := by
      rcases Nat.lt_or_ge i l.length with h | h
      · exact h
      · rw [List.getElem?_eq_none h] at ho
        cases ho
    have hol := hb.lt o (List.mem_of_getElem? ho)
    have eqi : ∀ (x : Nat) (y : Nat), decide (V.int (x : Nat) = V.int ((y : Nat) : Int)) = decide (x = y) := fun x y => by
      by_cases e : x = y
      · rw [e, decide_eq_true rfl, decide_eq_true rfl]
      · rw [decide_eq_false e, decide_eq_false (fun z => e (by have := V.int.inj z; omega))]
    have he := endsB_drop (l := l) (i := i)
    rw [decide_eq_false (show ¬ l.length < i + 1 by omega), Bool.or_false] at he
    refine ⟨_, rfl, _, rfl, a, _, _, .int (o : Nat), rfl, rfl, SqL.of ha, atI_nat (iv_at ho), ?_⟩
    refine ⟨_, rfl, _, _, rfl, rfl, _, rfl, a, _, rfl, .inl (SqL.of ha), rfl, _, rfl, ?_⟩
    rw [iv_len]
    refine or_key (N := fun x H1 => gName 3 x _ H1 _) (J := fun e => e = endsB (l.drop (i + 1))) ?_ ?_ ?_
    rotate_left
    · intro hc
      have e : i + 1 = l.length := by
        have := V.int.inj (of_decide_eq_true hc)
        have : ((i : Nat) : Int) + 1 = ((l.length : Nat) : Int) := this
        omega
      rw [he, decide_eq_true e]
      rfl
    · intro hc key
      have e : ¬ i + 1 = l.length := fun z => hc (decide_eq_true (congrArg V.int (show ((i : Nat) : Int) + 1 = ((l.length : Nat) : Int) by omega)))
      obtain ⟨o2, ho2⟩ : ∃ o2, l[i + 1]? = some o2 := ⟨_, List.getElem?_eq_getElem (by omega)⟩
      refine ⟨_, rfl, _, rfl, _, _, rfl, rfl, a, _, _, .int (o2 : Nat), rfl, rfl, SqL.of ha, atI_nat (j := i + 1) (iv_at ho2), rfl, ?_⟩
      refine key _ ?_
      rw [he, decide_eq_false e, Bool.false_or, ho2]
      show decide (V.int ((o2 : Nat) : Int) = V.int ((10 : Nat) : Int)) = _
      rw [eqi]
      by_cases h : o2 = 10
      · rw [decide_eq_true h, h]
        rfl
      · rw [decide_eq_false h]
        simp [h]
    intro e he2
    · have hun : unitC o e = if o = 61 ∨ (o = 32 ∧ e = true) ∨ numb o = false then 61 :: hex2 o else [o] := rfl
      rw [← he2] at q
      have hexq : (o = 61 ∨ (o = 32 ∧ e = true) ∨ numb o = false) → Q (.str (mk (61 :: hex2 o))) H := fun h => by
        have := q H (Same.refl H)
        rw [hun, if_pos h] at this
        exact this
      refine ⟨_, rfl, rfl, _, rfl, ?_⟩
      rw [show (61 : Int) = ((61 : Nat) : Int) from rfl, eqi]
      by_cases h61 : o = 61
      · rw [decide_eq_true h61]
        exact iteT (iteT ⟨_, rfl, o, rfl, hol, hexq (.inl h61)⟩)
      rw [decide_eq_false h61]
      refine iteF ⟨_, rfl, rfl, _, rfl, ?_⟩
      rw [show (32 : Int) = ((32 : Nat) : Int) from rfl, eqi]
      have tail : ¬ (o = 32 ∧ e = true) → ∃ v, [some (V.ref a), some (.int (i : Nat)), some (.int (o : Nat)), some (.bl e)][2]? = some (some v) ∧ ∃ n : Nat, [v] = [.int (n : Nat)] ∧ (numb n = false → Q (.str (mk (61 :: hex2 o))) H) ∧ (numb n = true → ∀ H', Same H H' → Q (.str (mk [o])) H') := fun h => by
        refine ⟨_, rfl, o, rfl, fun hn => hexq (.inr (.inr hn)), fun hn H' s => ?_⟩
        have := q H' s
        rw [hun, if_neg (fun y => y.elim h61 (fun y => y.elim h (fun y => by rw [hn] at y; cases y)))] at this
        exact this
      by_cases h32 : o = 32
      · rw [decide_eq_true h32]
        refine iteT ⟨_, rfl, _, rfl, ?_⟩
        cases e with
        | true => exact iteT (iteT ⟨_, rfl, o, rfl, hol, hexq (.inr (.inl ⟨h32, rfl⟩))⟩)
        | false =>
          obtain ⟨v, hv, n, hvn, q1, q2⟩ := tail (fun y => by cases y.2)
          refine iteF ⟨_, rfl, o, rfl, _, rfl, ?_⟩
          have hnb : numb o = true := by rw [h32]; decide
          rw [hnb]
          refine iteF ⟨_, rfl, (by show 1 ≤ sizeLine; decide), fun p np => ?_⟩
          refine ⟨p, [o], rfl, by rw [upd_same]; rfl, (fun m hm => by rw [List.mem_singleton.mp hm]; exact .inr hnb), by show 1 ≤ 9000; decide, fun H1 s1 => ?_⟩
          have := q H1 ((same_new np).trans s1)
          rw [hun, if_neg (fun y => y.elim h61 (fun y => y.elim (fun z => by cases z.2) (fun y => by rw [hnb] at y; cases y)))] at this
          exact this
      · rw [decide_eq_false h32]
        refine iteF (iteF ⟨_, rfl, o, rfl, _, rfl, ?_⟩)
        cases hnb : numb o with
        | false => exact iteT ⟨_, rfl, o, rfl, hol, hexq (.inr (.inr hnb))⟩
        | true =>
          refine iteF ⟨_, rfl, (by show 1 ≤ sizeLine; decide), fun p np => ?_⟩
          refine ⟨p, [o], rfl, by rw [upd_same]; rfl, (fun m hm => by rw [List.mem_singleton.mp hm]; exact .inr hnb), by show 1 ≤ 9000; decide, fun H1 s1 => ?_⟩
          have := q H1 ((same_new np).trans s1)
          rw [hun, if_neg (fun y => y.elim h61 (fun y => y.elim (fun z => h32 z.1) (fun y => by rw [hnb] at y; cases y)))] at this
          exact this
end
end FL


namespace FL
open PySem PySem.Spec PyProof.Rows L2
def ipS : TIp := fun x y H Q => ∃ i j, x = .str i ∧ y = .str j ∧ i.length + j.length ≤ sizeLine ∧ Q (.str (i ++ j)) H
theorem ip_addS {X : Cx} : PIp X .Add ipS := fun pins s σ H x y u v Q I rx ry h => iop_add_str pins s σ H x y u v Q I rx ry h
def svM (ws : List (List Nat)) : List V := (ws.map mk).map V.str
theorem svM_len (ws : List (List Nat)) : (svM ws).length = ws.length := by
  unfold svM
  rw [List.length_map, List.length_map]
theorem svM_app (a b : List (List Nat)) : svM a ++ svM b = svM (a ++ b) := by
  unfold svM
  rw [List.map_append, List.map_append]
section
variable {P : Program} {w : World} {K : PySem.W.Frag} {mg : Str → Option Value} {base : Heap}
theorem scWriteMarks : FnScope ["octets", "lines", "line", "place", "octet", "unit"] ["octets"] (defScope sWriteMarks) := ⟨rfl, rfl, rfl, by decide +kernel, rfl, by decide +kernel, by decide +kernel⟩
theorem r_write_marks (A : FnAt K mg "_write_marks" sWriteMarks) (R1 : Ready P w K mg base 3 "_unit_at" ["octets", "place"] spUnit) (m_enumerate : mg "enumerate" = none) (m_len : mg "len" = none) {t1 t2 : Tok} (m_WIDTH : mg "WIDTH" = some (.int 72 t1)) (m_LINE_FEED : mg "LINE_FEED" = some (.int 10 t2)) :
    Ready P w K mg base 4 "_write_marks" ["octets"] (spWrC marksL) := by
  obtain ⟨f1, fd1, g1, k1, b1, G1⟩ := R1
  refine ready_of A (fun _ _ _ _ _ _ us hl => match us, hl with | [_], _ => rfl) fun f fd F => ?_
  refine F.ok scWriteMarks (fun vs H Q E h => ?_) (fun cdv A outer s H vs Q E hr h => ?_)
  · obtain ⟨a, l, rfl, _⟩ := h
    rfl
  · obtain ⟨a, l, rfl, ha, hb, q⟩ := h
    have sc := scWriteMarks
    refine ⟨_, pss_cons (ps_set (i := 1) sc.nd rfl (.inl rfl) (pe_lst pa_nil))
      (pss_cons (ps_set (i := 2) sc.nd rfl (.inl rfl) pe_str)
      (pss_cons (ps_for PassesOwn.never rfl (pi_enum (by rfl) m_enumerate (pa_cons (pv 0) pa_nil)) (pg_tup rfl (pgs_cons (pg_name (i := 3) sc.nd rfl (.inl rfl)) (pgs_cons (pg_name (i := 4) sc.nd rfl (.inl rfl)) pgs_nil)))
        (pss_one (ps_if (pt_cmpR op_eq (pv 4) (pe_glob (v := .int 10) rfl m_LINE_FEED ⟨_, rfl⟩) (nomark _))
            (pss_cons (ps_expr (pe_bm PySem.F.plainAttrs_list PySem.F.slot_list_append PySem.F.type_list_append mt_append (pv 1) (pa_cons (pe_op op_add_str (pv 2) pe_str) pa_nil)))
              (pss_one (ps_set (i := 2) sc.nd rfl (.inl rfl) pe_str)))
            (pss_cons (ps_set (i := 5) sc.nd rfl (.inl rfl) (pe_call G1 (hr.mono (by decide)) (by rfl) g1 k1 b1 .nil pass0 (pa_cons (pv 0) (pa_cons (pv 3) pa_nil))))
              (pss_cons (ps_if (pt_cmpR op_ge (pe_op op_add (pe_callB call_len_str (by rfl) m_len PySem.boot_len (pa_cons (pv 2) pa_nil)) (pe_callB call_len_str (by rfl) m_len PySem.boot_len (pa_cons (pv 5) pa_nil))) (pe_glob (v := .int 72) rfl m_WIDTH ⟨_, rfl⟩) (nomark _))
                (pss_cons (ps_expr (pe_bm PySem.F.plainAttrs_list PySem.F.slot_list_append PySem.F.type_list_append mt_append (pv 1) (pa_cons (pe_op op_add_str (pv 2) pe_str) pa_nil)))
                  (pss_one (ps_set (i := 2) sc.nd rfl (.inl rfl) pe_str)))
                pss_nil)
              (pss_one (ps_aug (i := 2) sc.nd rfl (.inl rfl) (pv 5) ip_addS)))))))
      (pss_cons (ps_if (pt_cmpR op_ne (pv 2) pe_str (nomark _))
        (pss_one (ps_expr (pe_bm PySem.F.plainAttrs_list PySem.F.slot_list_append PySem.F.type_list_append mt_append (pv 1) (pa_cons (pe_op op_add_str (pv 2) pe_str) pa_nil))))
        pss_nil)
      (pss_one (ps_ret (pe_join pe_str (pv 1))))))), ?_⟩
    have hbl := hb.len
    have e0 : ("" : Str) = mk [] := by decide +kernel
    have eLF : ("\n" : Str) = mk [10] := by decide +kernel
    have eSB : ("=\n" : Str) = mk [61, 10] := by decide +kernel
    refine ⟨(by show 0 ≤ sizeLine; decide), fun L nL => ?_⟩
    refine ⟨_, rfl, a, _, rfl, SqL.of (kn ha nL), ?_⟩
    refine for_it (walk_enum (K := K) (a := a) (xs := iv l)) (fun i σ H' => ∃ (ys : List (List Nat)) (line : List Nat) (y3 y4 y5 : Option V), σ = [some (.ref a), some (.ref L), some (.str (mk line)), y3, y4, y5] ∧ Same H H' ∧ H' L = some (.lst (svM ys)) ∧ ys.flatten ++ line ++ tailM (l.drop i) line.length = marksL l ∧ ys.length ≤ i ∧ (∀ y ∈ ys, y.length ≤ 75) ∧ line.length ≤ 71)
      ⟨[], [], none, none, none, by rw [← e0]; rfl, same_new nL, upd_same, rfl, Nat.le_refl _, (fun y h => by cases h), by decide⟩ (fun i σ H1 _ hp => ?_) (fun i x σ H1 H2 hi hp hy => ?_) (fun σ H1 hp => ?_)
    · obtain ⟨ys, line, y3, y4, y5, rfl, sm, _⟩ := hp
      exact SqL.of (sm _ _ ha)
    · obtain ⟨ys, line, y3, y4, y5, rfl, sm, hL, hE, hy1, hy2, hl71⟩ := hp
      obtain ⟨T, xx, yy, rfl, nT, rfl, hxx, hyy⟩ := hy
      injection hxx with hxx
      subst hxx
      rw [iv_len] at hi
      have hn := List.getElem?_eq_getElem hi
      have hol := hb.lt _ (List.getElem_mem hi)
      have hdr : l.drop i = l[i] :: l.drop (i + 1) := List.drop_eq_getElem_cons hi
      generalize l[i] = o at hn hol hdr
      have hyy : (iv l)[i]? = some yy := hyy
      rw [iv_at hn] at hyy
      injection hyy with hyy
      subst hyy
      rw [hdr] at hE
      have sT : Same H1 (upd H1 T (.tup [.int (i : Nat), .int (o : Nat)])) := same_new nT
      have hT : (upd H1 T (.tup [.int (i : Nat), .int (o : Nat)])) T = some (.tup [.int (i : Nat), .int (o : Nat)]) := upd_same
      generalize upd H1 T (.tup [.int (i : Nat), .int (o : Nat)]) = H2 at sT hT ⊢
      have sm2 := sm.trans sT
      have hL2 := sT _ _ hL
      refine ⟨T, _, rfl, SqT.of hT, rfl, _, _, rfl, _, _, rfl, rfl, ?_⟩
      refine ⟨_, rfl, rfl, _, rfl, ite2 (fun h => ?_) (fun h => ?_)⟩
      · have e : o = 10 := by have := V.int.inj (of_decide_eq_true h); omega
        have c1 := catX (rfl : mk line = _) eLF
        refine ⟨_, rfl, .inl ⟨rfl, _, SqL.of hL2⟩, _, rfl, _, _, rfl, rfl, (by rw [← len_append]; exact szE c1 (by simp; omega)), ?_⟩
        rw [c1]
        refine ⟨L, _, _, rfl, rfl, hL2, by rw [svM_len]; exact szl (by omega), ?_⟩
        refine ⟨ys ++ [line ++ [10]], [], _, _, _, by rw [← e0]; rfl, same_set sm2 nL, by rw [upd_same, ← svM_app]; rfl, ?_, by rw [List.length_append]; show ys.length + 1 ≤ _; omega, fun y hy => ?_, by decide⟩
        · rw [← hE, e]
          rw [tailM, if_pos rfl]
          simp
        · rcases List.mem_append.mp hy with hy | hy
          · exact hy2 y hy
          · rw [List.mem_singleton.mp hy, List.length_append]
            show line.length + 1 ≤ _
            omega
      · have hne : o ≠ 10 := fun z => h (decide_eq_true (by rw [z]; rfl))
        have hu := unitC_len o (endsB (l.drop (i + 1)))
        refine ⟨_, rfl, _, rfl, a, l, i, rfl, sm2 _ _ ha, hb, o, hn, fun H3 s3 => ?_⟩
        rw [tailM, if_neg hne] at hE
        generalize unitC o (endsB (l.drop (i + 1))) = u at hu hE ⊢
        have hL3 := s3 _ _ hL2
        have sm3 := sm2.trans s3
        refine ⟨_, rfl, _, rfl, szX (by omega), _, rfl, _, rfl, szX (by omega), _, _, rfl, rfl, _, _, rfl, rfl, _, rfl, ?_⟩
        rw [mk_len, mk_len]
        by_cases hlong : 72 ≤ line.length + u.length
        · rw [decide_eq_true (by omega : ((line.length : Nat) : Int) + ((u.length : Nat) : Int) ≥ 72)]
          rw [if_pos hlong] at hE
          have c1 := catX (rfl : mk line = _) eSB
          have c2 := catX e0 (rfl : mk u = _)
          refine iteT ⟨_, rfl, .inl ⟨rfl, _, SqL.of hL3⟩, _, rfl, _, _, rfl, rfl, (by rw [← len_append]; exact szE c1 (by simp; omega)), ?_⟩
          rw [c1]
          refine ⟨L, _, _, rfl, rfl, hL3, by rw [svM_len]; exact szl (by omega), ?_⟩
          refine ⟨_, rfl, _, rfl, _, _, rfl, rfl, (by rw [← len_append]; exact szE c2 (by simp; omega)), ?_⟩
          rw [c2, List.nil_append]
          refine ⟨ys ++ [line ++ [61, 10]], u, _, _, _, rfl, same_set sm3 nL, by rw [upd_same, ← svM_app]; rfl, ?_, by rw [List.length_append]; show ys.length + 1 ≤ _; omega, fun y hy => ?_, by omega⟩
          · rw [← hE]
            simp
          · rcases List.mem_append.mp hy with hy | hy
            · exact hy2 y hy
            · rw [List.mem_singleton.mp hy, List.length_append]
              show line.length + 2 ≤ _
              omega
        · rw [decide_eq_false (by omega : ¬ ((line.length : Nat) : Int) + ((u.length : Nat) : Int) ≥ 72)]
          rw [if_neg hlong] at hE
          have c2 := catX (rfl : mk line = _) (rfl : mk u = _)
          refine iteF ⟨_, rfl, _, rfl, _, _, rfl, rfl, (by rw [← len_append]; exact szE c2 (by simp; omega)), ?_⟩
          rw [c2]
          refine ⟨ys, line ++ u, _, _, _, rfl, sm3, hL3, ?_, by omega, hy2, by rw [List.length_append]; omega⟩
          rw [← hE, List.length_append]
          simp
    · obtain ⟨ys, line, y3, y4, y5, rfl, sm, hL, hE, hy1, hy2, hl71⟩ := hp
      rw [iv_len, List.drop_length] at hE
      rw [iv_len] at hy1
      have fin : ∀ (H2 : Hp) (zs : List (List Nat)), Same H H2 → H2 L = some (.lst (svM zs)) → zs.flatten = marksL l → zs.length ≤ 2001 → (∀ y ∈ zs, y.length ≤ 75) → ∃ u, [some (V.ref a), some (.ref L), some (.str (mk line)), y3, y4, y5][1]? = some (some u) ∧ ∃ (sep : Str) (p : Addr) (ws : List Str), V.str ("" : Str) = .str sep ∧ [u] = [.ref p] ∧ (SqL K H2 p (ws.map V.str) ∨ SqT K H2 p (ws.map V.str)) ∧ (ws.map (·.length)).sum + ws.length * sep.length ≤ 16777216 ∧ Q (.str (Txt.join sep ws)) H2 := fun H2 zs s2 h2 hf hz1 hz2 => by
        refine ⟨_, rfl, ("" : Str), L, zs.map mk, rfl, rfl, .inl (SqL.of h2), ?_, ?_⟩
        · have h1 := sum0C (ps := zs) (n := 75) hz2
          have h3 : ("" : Str).length = 0 := by decide +kernel
          rw [h3]
          have : zs.length * 75 ≤ 2001 * 75 := Nat.mul_le_mul_right _ hz1
          simp only [List.length_map] at h1 ⊢
          omega
        · rw [join0C, hf]
          exact q _ s2
      refine ⟨_, rfl, rfl, _, rfl, ?_⟩
      by_cases h0 : line = []
      · rw [h0] at hE
        refine iteNS (by rw [h0, e0]) ?_
        refine ⟨⟨_, rfl⟩, ?_⟩
        exact fin H1 ys sm hL (by rw [← hE]; simp [tailM]) (by omega) hy2
      · rw [decide_eq_false (show ¬ V.str (mk line) = V.str ("" : Str) from fun z => h0 (by have := V.str.inj z; rw [e0] at this; have := congrArg (fun s => s.cps.toList) this; simpa [mk_codes] using this))]
        have c1 := catX (rfl : mk line = _) eSB
        refine iteT ⟨_, rfl, .inl ⟨rfl, _, SqL.of hL⟩, _, rfl, _, _, rfl, rfl, (by rw [← len_append]; exact szE c1 (by simp; omega)), ?_⟩
        rw [c1]
        refine ⟨L, _, _, rfl, rfl, hL, by rw [svM_len]; exact szl (by omega), ?_⟩
        refine ⟨⟨_, rfl⟩, ?_⟩
        refine fin _ (ys ++ [line ++ [61, 10]]) (same_set sm nL) (by rw [upd_same, ← svM_app]; rfl) ?_ (by rw [List.length_append]; show ys.length + 1 ≤ _; omega) (fun y hy => ?_)
        · have hl1 : line.length ≠ 0 := fun z => h0 (List.eq_nil_of_length_eq_zero z)
          rw [← hE, tailM, if_neg hl1]
          simp
        · rcases List.mem_append.mp hy with hy | hy
          · exact hy2 y hy
          · rw [List.mem_singleton.mp hy, List.length_append]
            show line.length + 2 ≤ _
            omega
end
end FL


namespace FL
open PySem PySem.Spec PyProof.Rows L2
/-! ### octets as they stand -/
def plainR : List Nat → Nat → Bool
  | [], n => decide (n = 0)
  | o :: r, n => if o = 10 then plainR r 0 else if n + 1 ≤ 72 ∧ numb o = true then plainR r (n + 1) else false
def plainB (l : List Nat) : Bool := plainR l 0
theorem plainR_ok : ∀ (l : List Nat) (n : Nat), plainR l n = true → ∀ o ∈ l, o = 10 ∨ numb o = true
  | [], _, _, o, h => by cases h
  | a :: r, n, h, o, ho => by
    unfold plainR at h
    split at h
    · rename_i e
      rcases List.mem_cons.mp ho with rfl | ho
      · exact .inl e
      · exact plainR_ok r _ h o ho
    · split at h
      · rename_i e
        rcases List.mem_cons.mp ho with rfl | ho
        · exact .inr e.2
        · exact plainR_ok r _ h o ho
      · cases h
theorem plainR_last : ∀ (l : List Nat) (n : Nat), plainR l n = true → l = [] ∨ l.getLast? = some 10
  | [], _, _ => .inl rfl
  | a :: r, n, h => by
    refine .inr ?_
    unfold plainR at h
    split at h
    · rename_i e
      rcases plainR_last r _ h with h1 | h1
      · rw [h1, e]
        rfl
      · rw [List.getLast?_cons, h1]
        rfl
    · split at h
      · rcases plainR_last r _ h with h1 | h1
        · rw [h1] at h
          simp [plainR] at h
        · rw [List.getLast?_cons, h1]
          rfl
      · cases h
theorem plain_sig {l : List Nat} (h : plainB l = true) : allSig l = true :=
  List.all_eq_true.mpr fun o ho => (plainR_ok l 0 h o ho).elim (fun e => by rw [e]; decide) (fun e => (numb_sig e).1)
def rdP : RdC := fun l => .ok l
def bestC (l : List Nat) : Str := if plainB l = true then "plain" else if (lines6 l).length < (marksL l).length then "sixes" else "marks"
section
variable {P : Program} {w : World} {K : PySem.W.Frag} {mg : Str → Option Value} {base : Heap}
def spPlain : Sp := fun vs H Q _ => ∃ (a : Addr) (l : List Nat), vs = [.ref a] ∧ H a = some (.lst (iv l)) ∧ OctL l ∧ Q (.bl (plainB l)) H
theorem scIsPlain : FnScope ["octets", "size", "octet"] ["octets"] (defScope sIsPlain) := ⟨rfl, rfl, rfl, by decide +kernel, rfl, by decide +kernel, by decide +kernel⟩
theorem r_is_plain (A : FnAt K mg "_is_plain" sIsPlain) (R1 : Ready P w K mg base 1 "is_numbered" ["number"] spNumb) {t1 t2 : Tok} (m_WIDTH : mg "WIDTH" = some (.int 72 t1)) (m_LINE_FEED : mg "LINE_FEED" = some (.int 10 t2)) : Ready P w K mg base 2 "_is_plain" ["octets"] spPlain := by
  obtain ⟨f1, fd1, g1, k1, b1, G1⟩ := R1
  refine ready_of A (fun _ _ _ _ _ _ us hl => match us, hl with | [_], _ => rfl) fun f fd F => ?_
  refine F.ok scIsPlain (fun vs H Q E h => ?_) (fun cdv A outer s H vs Q E hr h => ?_)
  · obtain ⟨a, l, rfl, _⟩ := h
    rfl
  · obtain ⟨a, l, rfl, ha, hb, q⟩ := h
    have sc := scIsPlain
    refine ⟨_, pss_cons (ps_set (i := 1) sc.nd rfl (.inl rfl) pe_int)
      (pss_cons (ps_for PassesOwn.never rfl (pi_list (pv 0)) (pg_name (i := 2) sc.nd rfl (.inl rfl))
        (pss_cons (ps_if (pt_cmpR op_eq (pv 2) (pe_glob (v := .int 10) rfl m_LINE_FEED ⟨_, rfl⟩) (nomark _))
            (pss_one (ps_set (i := 1) sc.nd rfl (.inl rfl) pe_int))
            (pss_one (ps_aug (i := 1) sc.nd rfl (.inl rfl) pe_int ip_add)))
          (pss_one (ps_if (PW.pt (pw_or (pt_cmpR op_gt (pv 1) (pe_glob (v := .int 72) rfl m_WIDTH ⟨_, rfl⟩) (nomark _)) (pw_or1 (pt_not (PW.pt (pw_or (pt_cmpR op_eq (pv 2) (pe_glob (v := .int 10) rfl m_LINE_FEED ⟨_, rfl⟩) (nomark _)) (pw_or1 (pt_val (pe_call G1 (hr.mono (by decide)) (by rfl) g1 k1 b1 .nil pass0 (pa_cons (pv 2) pa_nil))))))))))
            (pss_one (ps_ret pe_bl))
            pss_nil))))
      (pss_one (ps_ret (pe_cmpR op_eq (pv 1) pe_int (nomark _))))), ?_⟩
    have eqi : ∀ (x : Nat) (y : Nat), decide (V.int (x : Nat) = V.int ((y : Nat) : Int)) = decide (x = y) := fun x y => by
      by_cases e : x = y
      · rw [e, decide_eq_true rfl, decide_eq_true rfl]
      · rw [decide_eq_false e, decide_eq_false (fun z => e (by have := V.int.inj z; omega))]
    refine ⟨_, rfl, a, rfl, ⟨_, SqL.of ha⟩, ?_⟩
    refine for_it (walk_list (K := K) (a := a) (xs := iv l)) (fun i σ H' => ∃ (n : Nat) (y2 : Option V), σ = [some (.ref a), some (.int (n : Nat)), y2] ∧ H' = H ∧ plainR (l.drop i) n = plainB l) ⟨0, none, rfl, rfl, rfl⟩ (fun i σ H' _ hp => ?_) (fun i x σ H1 H2 hi hp hy => ?_) (fun σ H1 hp => ?_)
    · obtain ⟨n, y2, rfl, rfl, _⟩ := hp
      exact SqL.of ha
    · obtain ⟨n, y2, rfl, rfl, hE⟩ := hp
      obtain ⟨rfl, hx⟩ := hy
      rw [iv_len] at hi
      have hn := List.getElem?_eq_getElem hi
      have hdr : l.drop i = l[i] :: l.drop (i + 1) := List.drop_eq_getElem_cons hi
      generalize l[i] = o at hn hdr
      rw [iv_at hn] at hx
      injection hx with hx
      subst hx
      rw [hdr, plainR] at hE
      refine ⟨_, rfl, rfl, _, rfl, ?_⟩
      rw [show (10 : Int) = ((10 : Nat) : Int) from rfl, eqi]
      by_cases h10 : o = 10
      · rw [decide_eq_true h10]
        rw [if_pos h10] at hE
        refine iteT ⟨_, rfl, _, _, rfl, rfl, _, rfl, ?_⟩
        rw [decide_eq_false (show ¬ (0 : Int) > 72 by decide)]
        refine iteF ⟨_, rfl, rfl, _, rfl, ?_⟩
        rw [eqi, decide_eq_true h10]
        exact iteT (iteF ⟨0, _, rfl, rfl, hE⟩)
      · rw [decide_eq_false h10]
        rw [if_neg h10] at hE
        refine iteF ⟨_, rfl, _, _, rfl, rfl, _, rfl, _, _, rfl, rfl, _, rfl, ?_⟩
        by_cases h72 : n + 1 ≤ 72
        · rw [decide_eq_false (by omega : ¬ ((n : Nat) : Int) + 1 > 72)]
          refine iteF ⟨_, rfl, rfl, _, rfl, ?_⟩
          rw [eqi, decide_eq_false h10]
          refine iteF ⟨_, rfl, o, rfl, _, rfl, ?_⟩
          cases hnb : numb o with
          | true =>
            rw [if_pos ⟨h72, hnb⟩] at hE
            exact iteF ⟨n + 1, _, rfl, rfl, hE⟩
          | false =>
            rw [if_neg (fun z => by rw [hnb] at z; cases z.2)] at hE
            refine iteT ?_
            rw [← hE] at q
            exact q
        · rw [decide_eq_true (by omega : ((n : Nat) : Int) + 1 > 72)]
          rw [if_neg (fun z => h72 z.1)] at hE
          refine iteT (iteT ?_)
          rw [← hE] at q
          exact q
    · obtain ⟨n, y2, rfl, rfl, hE⟩ := hp
      rw [iv_len, List.drop_length, plainR] at hE
      refine ⟨_, rfl, rfl, ?_⟩
      show Q (.bl (decide (V.int ((n : Nat) : Int) = V.int ((0 : Nat) : Int)))) H1
      rw [eqi, hE]
      exact q
def spWrPX (C : Addr) : Sp := fun vs H Q E => ∃ (a : Addr) (l : List Nat), vs = [.ref a] ∧ H a = some (.lst (iv l)) ∧ OctL l ∧ (plainB l = true → ∀ H', Same H H' → Q (.str (mk l)) H') ∧ (plainB l = false → Fails C "at" 0 H E)
theorem scWritePlain : FnScope ["octets"] ["octets"] (defScope sWritePlain) := ⟨rfl, rfl, rfl, by decide +kernel, rfl, by decide +kernel, by decide +kernel⟩
theorem x_write_plain {C : Addr} (MNoCode : MkFld P w K mg base "NoCode" C "at") (A : FnAt K mg "_write_plain" sWritePlain) (R1 : Ready P w K mg base 2 "_is_plain" ["octets"] spPlain) (R2 : Ready P w K mg base 2 "text_of" ["numbers"] spTextN) : ReadyX P w K mg base 4 "_write_plain" ["octets"] (spWrPX C) := by
  obtain ⟨f1, fd1, g1, k1, b1, G1⟩ := R1
  obtain ⟨f2, fd2, g2, k2, b2, G2⟩ := R2
  refine readyX_of A (fun _ _ _ _ _ _ us hl => match us, hl with | [_], _ => rfl) fun f fd F => ?_
  refine F.okX scWritePlain (fun vs H Q E h => ?_) (fun cdv A outer s H vs Q E hr h => ?_)
  · obtain ⟨a, l, rfl, _⟩ := h
    rfl
  · obtain ⟨a, l, rfl, ha, hb, q, qe⟩ := h
    have sc := scWritePlain
    refine ⟨_, pss_cons (ps_if (pt_not (pt_val (pe_call G1 (hr.mono (by decide)) (by rfl) g1 k1 b1 .nil pass0 (pa_cons (pv 0) pa_nil))))
        (pss_one (ps_raise rfl (takes_of rfl rfl rfl rfl) (pmk_fld MNoCode (hr.mono (by decide)) (by rfl) (pa_cons pe_str pa_nil) [.int 0] (.inr rfl))))
        pss_nil)
      (pss_one (ps_ret (pe_call G2 (hr.mono (by decide)) (by rfl) g2 k2 b2 .nil pass0 (pa_cons (pv 0) pa_nil)))), ?_⟩
    have := hb.len
    refine ⟨_, rfl, a, l, rfl, ha, hb, _, rfl, ?_⟩
    cases hp : plainB l with
    | true => exact iteF ⟨_, rfl, a, l, rfl, ha, plainR_ok l 0 hp, by omega, fun H' s => q hp H' s⟩
    | false => exact iteT (mk_leaf rfl (by decide) (qe hp))
def spWrittenP (K : PySem.W.Frag) (C CN : Addr) : Sp := fun vs H Q E => ∃ v, vs = [v, .str ("plain" : Str)] ∧ ((∃ a l, v = .ref a ∧ H a = some (.lst (iv l)) ∧ OctL l ∧ (plainB l = true → ∀ H', Same H H' → Q (.str (mk l)) H') ∧ (plainB l = false → Fails C "at" 0 H E)) ∨ (NoOctC K H v ∧ ∀ H', Same H H' → E (.ref CN) none H'))
def spNumbersOf : Sp := fun vs H Q _ => ∃ z : Str, vs = [.str z] ∧ z.length ≤ 10000 ∧ ∀ H' p, Same H H' → H p = none → H' p = some (.lst (iv z.cps.toList)) → Q (.ref p) H'
theorem scNumbersOf : FnScope ["text", "sign"] ["text"] (defScope sNumbersOf) := ⟨rfl, rfl, rfl, by decide +kernel, rfl, by decide +kernel, by decide +kernel⟩
theorem r_numbers_of (A : FnAt K mg "numbers_of" sNumbersOf) (m_ord : mg "ord" = none) : Ready P w K mg base 1 "numbers_of" ["text"] spNumbersOf := by
  refine ready_of A (fun _ _ _ _ _ _ us hl => match us, hl with | [_], _ => rfl) fun f fd F => ?_
  refine F.ok scNumbersOf (fun vs H Q E h => ?_) (fun cdv A outer s H vs Q E hr h => ?_)
  · obtain ⟨z, rfl, _⟩ := h
    rfl
  · obtain ⟨z, rfl, hz, q⟩ := h
    have sc := scNumbersOf
    refine ⟨_, pss_one (ps_ret (pe_lc (own := [("sign", 1)]) (g := gName 1) (tt := tYes) (by rfl) sc.nd (pi_str (pv 0)) (blkOk_by (own := [("sign", 1)]) (N := ["text", "sign"]) (sc := defScope sNumbersOf) (by decide +kernel)) (fun _ _ _ _ _ => (pg_name (i := 1) sc.nd rfl (.inl rfl))) (fun _ _ _ _ _ => pts_nil) (fun _ _ _ _ _ => (pe_callB call_ord (by rfl) m_ord (by decide +kernel) (pa_cons (pv 1) pa_nil))))), ?_⟩
    refine ⟨_, rfl, z, rfl, fun D hD => ?_⟩
    refine lc_it walk_str (fun i H' => Same H H' ∧ H' D = some (.lst (iv (z.cps.toList.take i)))) ⟨same_new hD, upd_same⟩ (fun _ _ _ _ => trivial) (fun i x H1 H2 hi hp hy => ?_) (fun H1 hp => ?_)
    · obtain ⟨rfl, c, hc, rfl⟩ := hy
      obtain ⟨sm, hd⟩ := hp
      have hc' := cps_at hc
      refine ⟨rfl, ?_⟩
      unfold tYes
      refine iteT ⟨_, rfl, _, rfl, rfl, _, hd, ?_, same_set sm hD, ?_⟩
      · rw [iv_len]
        exact Nat.lt_of_le_of_lt (List.length_take_le _ _) (szl (by have h2 : z.cps.size = z.length := rfl; omega))
      · rw [upd_same, take_more hc', iv_app]
        rfl
    · obtain ⟨sm, hd⟩ := hp
      have e : z.cps.toList.take z.cps.size = z.cps.toList := List.take_of_length_le (by simp)
      rw [e] at hd
      exact q H1 D sm hD hd
theorem scReadPlain : FnScope ["text"] ["text"] (defScope sReadPlain) := ⟨rfl, rfl, rfl, by decide +kernel, rfl, by decide +kernel, by decide +kernel⟩
theorem r_read_plain (A : FnAt K mg "_read_plain" sReadPlain) (R1 : Ready P w K mg base 1 "numbers_of" ["text"] spNumbersOf) : Ready P w K mg base 2 "_read_plain" ["text"] spNumbersOf := by
  obtain ⟨f1, fd1, g1, k1, b1, G1⟩ := R1
  refine ready_of A (fun _ _ _ _ _ _ us hl => match us, hl with | [_], _ => rfl) fun f fd F => ?_
  refine F.ok scReadPlain (fun vs H Q E h => ?_) (fun cdv A outer s H vs Q E hr h => ?_)
  · obtain ⟨z, rfl, _⟩ := h
    rfl
  · obtain ⟨z, rfl, hz, q⟩ := h
    have sc := scReadPlain
    refine ⟨_, pss_one (ps_ret (pe_call G1 (hr.mono (by decide)) (by rfl) g1 k1 b1 .nil pass0 (pa_cons (pv 0) pa_nil))), ?_⟩
    exact ⟨_, rfl, z, rfl, hz, q⟩
theorem x_read_by0 {C WR RD fR : Addr} {fdR : FuncData} {psR : List Str} {kk : Nat} {code : Str} (MNoCode : MkFld P w K mg base "NoCode" C "at") (A : FnAt K mg "read_by" sReadBy) (R1 : Ready P w K mg base 2 "is_text" ["value"] (spLine K allSig)) (R2 : ReadyX P w K mg base 4 "_check_code" ["value"] (spCheckCodeX K C WR))
    (m_READERS : mg "READERS" = some (.ref RD)) (m_len : mg "len" = none) {es : Array DictEntry} {n : Nat} (D : KDict K w RD es n) {rw_ : Value} (hw : PySem.W.nsIn K WR code = some (some rw_)) (hs : PySem.W.nsIn K RD code = some (some (.ref fR)))
    (GR : FnOk P w K mg base CX0 kk fR fdR psR spNumbersOf) (hk4 : kk ≤ 6) (kR : PySem.W.keepIn K (.ref fR) = true) (bR : L2.Binds K fdR psR []) :
    ReadyKX P w K mg base 7 "read_by" ["text", "code"] (spReadX K C code rdP) (kbR K) := by
  obtain ⟨f1, fd1, g1, k1, b1, G1⟩ := R1
  obtain ⟨f2, fd2, g2, k2, b2, G2⟩ := R2
  refine readyKX_of A (fun _ _ _ _ _ _ us hl => match us, hl with | [_, _], _ => rfl) (fun f fd F => kbr_of F fun _ _ _ _ _ _ a b => rfl) fun f fd F => ?_
  refine F.okX scReadBy (fun vs H Q E h => ?_) (fun cdv A outer s H vs Q E hr h => ?_)
  · obtain ⟨v, rfl, _⟩ := h
    rfl
  · obtain ⟨v, rfl, h⟩ := h
    have sc := scReadBy
    refine ⟨_, pss_cons (ps_if (pt_not (pt_val (pe_call G1 (hr.mono (by decide)) (by rfl) g1 k1 b1 .nil pass0 (pa_cons (pv 0) pa_nil))))
        (pss_one (ps_raise rfl (takes_of rfl rfl rfl rfl) (pmk_fld MNoCode (hr.mono (by decide)) (by rfl) (pa_cons pe_str pa_nil) [.int 0] (.inr rfl))))
        pss_nil)
      (pss_cons (ps_expr (pe_call G2 (hr.mono (by decide)) (by rfl) g2 k2 b2 .nil (E := E) (passes_call (takes_of rfl rfl rfl rfl) (fun _ _ _ _ h => h)) (pa_cons (pv 1) pa_nil)))
      (pss_cons (ps_set (i := 2) sc.nd rfl (.inl rfl) (pe_ix ix_kdict (pe_glob (v := .ref RD) rfl m_READERS rfl) (pv 1) (fun _ _ => rfl)))
      (pss_cons (ps_set (i := 3) sc.nd rfl (.inl rfl) (pe_callL (i := 2) GR (hr.mono hk4) rfl (by first | exact .inl rfl | exact .inr (.inl rfl) | exact .inr (.inr rfl)) kR bR .nil pass0 (pa_cons (pv 0) pa_nil)))
      (pss_cons (ps_if (PW.pt (pw_and (pt_cmpR op_ne (pv 0) pe_str (nomark _)) (pw_and1 (pt_not (pt_val (pe_bm PySem.F.plainAttrs_str PySem.F.slot_str_endswith PySem.F.type_str_endswith mt_endswith (pv 0) (pa_cons pe_str pa_nil)))))))
        (pss_one (ps_raise rfl (takes_of rfl rfl rfl rfl) (pmk_fld MNoCode (hr.mono (by decide)) (by rfl) (pa_cons pe_str (pa_cons (pe_callB call_len_str (by rfl) m_len PySem.boot_len (pa_cons (pv 0) pa_nil)) pa_nil)) [] (.inl rfl))))
        pss_nil)
      (pss_one (ps_ret (pv 3))))))), ?_⟩
    rcases h with ⟨z, rfl, hz, hall, q, qe⟩ | ⟨hno, qe⟩
    · refine ⟨_, rfl, _, rfl, .inl ⟨z, rfl, hz, fun H1 s1 => ?_⟩⟩
      rw [hall]
      refine ⟨_, rfl, iteF ?_⟩
      refine ⟨_, rfl, _, rfl, .inl ⟨_, _, rfl, hw, fun _ => ?_, fun z => by cases z⟩⟩
      refine ⟨_, rfl, RD, code, .ref fR, rfl, rfl, ⟨es, n, .ref fR, D.at_, D.lit, hs, rfl⟩, ?_⟩
      unfold readBy at q qe
      refine ⟨rfl, _, rfl, z, rfl, hz, fun H2 p s2 np hp => ?_⟩
      · unfold rdP at q qe
        dsimp only at q qe
        have e10 : ("" : Str) = mk [] := by decide +kernel
        refine ⟨_, rfl, rfl, _, rfl, ?_⟩
        by_cases h0 : z.cps.toList = []
        · have ez : z = ("" : Str) := by rw [e10, ← h0, mk_of]
          refine iteNS (congrArg V.str ez) (iteF ?_)
          exact ⟨_, rfl, q _ (by rw [if_neg (fun y => y.1 h0)]) H2 p (s1.trans s2) (Same.free s1 np) hp⟩
        · rw [decide_eq_false (fun y => h0 (by rw [V.str.inj y]; decide +kernel))]
          refine iteT ⟨_, rfl, rfl, _, _, rfl, rfl, ?_⟩
          rw [ends_lf]
          refine ⟨_, rfl, ?_⟩
          by_cases hl : z.cps.toList.getLast? = some 10
          · rw [decide_eq_true hl]
            refine iteF ⟨_, rfl, q _ (by rw [if_neg (fun y => y.2 hl)]) H2 p (s1.trans s2) (Same.free s1 np) hp⟩
          · rw [decide_eq_false hl]
            refine iteT ⟨_, rfl, _, rfl, Nat.le_of_lt (szl hz), ?_⟩
            have hf := qe z.cps.toList.length (by rw [if_pos ⟨h0, hl⟩])
            rw [len_cps] at hf
            exact mk_leaf rfl (Nat.le_refl _) (Fails.later hf (s1.trans s2))
    · rcases hno with ⟨z, rfl, hz, hall⟩ | ⟨t, ht, hk⟩
      · refine ⟨_, rfl, _, rfl, .inl ⟨z, rfl, hz, fun H1 s1 => ?_⟩⟩
        rw [hall]
        exact ⟨_, rfl, iteT (mk_leaf rfl (by decide) (Fails.later qe s1))⟩
      · exact ⟨_, rfl, _, rfl, .inr ⟨t, ht, hk, _, rfl, iteT (mk_leaf rfl (by decide) qe)⟩⟩

def spBestX (K : PySem.W.Frag) (CN : Addr) : Sp := fun vs H Q E => ∃ v, vs = [v] ∧ ((∃ a l, v = .ref a ∧ H a = some (.lst (iv l)) ∧ OctL l ∧ l.length ≤ 1500 ∧ ∀ H', Same H H' → Q (.str (bestC l)) H') ∨ (NoOctC K H v ∧ ∀ H', Same H H' → E (.ref CN) none H'))
end
end FL


namespace FL
open PySem PySem.Spec PyProof.Rows L2
/-! ### marks read: one step -/
def strC (s : List Nat) : List Nat × Nat := match s with
  | [] => ([], 0)
  | c :: r => if c = 32 then (if ((c :: r).drop (blk (c :: r))).head? = some 10 then ([], blk (c :: r)) else (List.replicate (blk (c :: r)) 32, blk (c :: r))) else ([c], 1)
def eqC (r : List Nat) : Except Nat (List Nat × Nat) := if (r.drop (blk r)).head? = some 10 then .ok ([], blk r + 2) else if 0 < blk r then .error (1 + blk r) else match figV r with
  | none => .error 1
  | some x => match figV (r.drop 1) with
    | none => .error 2
    | some y => .ok ([16 * x + y], 3)
theorem strC_cons (c : Nat) (r : List Nat) : strC (c :: r) = if c = 32 then (if ((c :: r).drop (blk (c :: r))).head? = some 10 then ([], blk (c :: r)) else (List.replicate (blk (c :: r)) 32, blk (c :: r))) else ([c], 1) := rfl
theorem readM_eq {n p : Nat} {r acc : List Nat} : readM (n + 1) (61 :: r) p acc = match eqC r with
    | .error d => .error (p + d)
    | .ok tk => readM n ((61 :: r).drop tk.2) (p + tk.2) (acc ++ tk.1) := by
  rw [readM, if_pos rfl]
  unfold eqC
  by_cases h : (r.drop (blk r)).head? = some 10
  · rw [if_pos h, if_pos h]
    show readM n (r.drop (blk r + 1)) (p + 1 + blk r + 1) acc = readM n (r.drop (blk r + 1)) (p + (blk r + 2)) (acc ++ [])
    rw [List.append_nil, show p + 1 + blk r + 1 = p + (blk r + 2) by omega]
  · rw [if_neg h, if_neg h]
    by_cases h2 : 0 < blk r
    · rw [if_pos h2, if_pos h2]
      show Except.error (p + 1 + blk r) = Except.error (p + (1 + blk r))
      rw [Nat.add_assoc]
    · rw [if_neg h2, if_neg h2]
      cases figV r with
      | none => rfl
      | some x =>
        dsimp only
        cases figV (r.drop 1) with
        | none => rfl
        | some y => rfl
theorem readM_str {n p c : Nat} {r acc : List Nat} (hc : c ≠ 61) : readM (n + 1) (c :: r) p acc = readM n ((c :: r).drop (strC (c :: r)).2) (p + (strC (c :: r)).2) (acc ++ (strC (c :: r)).1) := by
  rw [readM, if_neg hc, strC_cons]
  by_cases h : c = 32
  · rw [if_pos h, if_pos h]
    by_cases h2 : ((c :: r).drop (blk (c :: r))).head? = some 10
    · rw [if_pos h2, if_pos h2, List.append_nil]
    · rw [if_neg h2, if_neg h2]
  · rw [if_neg h, if_neg h]
    rfl
theorem blk_le (s : List Nat) : blk s ≤ s.length := by
  unfold blk
  exact (List.takeWhile_prefix (p := fun c => decide (c = 32)) (l := s)).length_le
theorem strC_k {c : Nat} {r : List Nat} : 1 ≤ (strC (c :: r)).2 ∧ (strC (c :: r)).2 ≤ (c :: r).length ∧ (strC (c :: r)).1.length ≤ (strC (c :: r)).2 := by
  have h1 := blk_le (c :: r)
  rw [strC_cons]
  by_cases h : c = 32
  · have h2 : blk (c :: r) = blk r + 1 := by rw [h]; exact blk_yes r
    rw [if_pos h]
    split
    · exact ⟨by show 1 ≤ blk (c :: r); omega, h1, by simp⟩
    · exact ⟨by show 1 ≤ blk (c :: r); omega, h1, by simp⟩
  · rw [if_neg h]
    simp
theorem eqC_k {r : List Nat} {t : List Nat} {k : Nat} (h : eqC r = .ok (t, k)) : 2 ≤ k ∧ k ≤ r.length + 1 ∧ t.length ≤ k := by
  unfold eqC at h
  split at h
  · rename_i h10
    injection h with h
    obtain ⟨rfl, rfl⟩ := Prod.mk.inj h
    have hb := blk_le r
    have : blk r < r.length := by
      rcases Nat.lt_or_ge (blk r) r.length with h | h
      · exact h
      · rw [List.drop_eq_nil_of_le h] at h10
        cases h10
    exact ⟨by omega, by omega, by simp⟩
  · split at h
    · cases h
    · cases h1 : figV r with
      | none => rw [h1] at h; cases h
      | some x =>
        rw [h1] at h
        dsimp only at h
        cases h2 : figV (r.drop 1) with
        | none => rw [h2] at h; cases h
        | some y =>
          rw [h2] at h
          injection h with h
          obtain ⟨rfl, rfl⟩ := Prod.mk.inj h
          have : 2 ≤ r.length := by
            match r, h1, h2 with
            | [], h1, _ => cases h1
            | [_], _, h2 => cases h2
            | _ :: _ :: _, _, _ => simp
          exact ⟨by omega, by omega, by simp⟩
def upC (c : Nat) : Nat := if 97 ≤ c ∧ c ≤ 122 then c - 32 else c
theorem up1 : ∀ c, c < 127 → Txt.upper (mk [c]) = mk [upC c] := by decide +kernel
theorem up0 : Txt.upper ("" : Str) = ("" : Str) := by decide +kernel
def hexIx (d : Nat) : Nat := (SXTN.cps.toList.takeWhile fun y => !decide (y = d)).length
theorem hex_up : ∀ c, c < 127 → hexV c = if upC c ∈ SXTN.cps.toList then some (hexIx (upC c)) else none := by decide +kernel
/-- a sign of a text is one of the first 127 -/
theorem sig_lt {c : Nat} (h : isSig c = true) : c < 127 := by
  unfold isSig at h
  rw [Bool.or_eq_true] at h
  rcases h with h | h
  · have := of_decide_eq_true h
    omega
  · rw [Bool.and_eq_true] at h
    have := of_decide_eq_true h.1
    omega
theorem cut1 (z : Str) {p : Nat} (h : p ≤ z.length) : cutS z (some ((p : Nat) : Int)) (some (((p : Nat) : Int) + 1)) = mk ((z.cps.toList.drop p).take 1) := by
  refine mk_eq ?_
  rw [show (((p : Nat) : Int) + 1) = ((p + 1 : Nat) : Int) from rfl, cutS_codes _ h, show p + 1 - p = 1 by omega]
section
variable {P : Program} {w : World} {K : PySem.W.Frag} {mg : Str → Option Value} {base : Heap}
def spBlanks : Sp := fun vs H Q _ => ∃ (z : Str) (b : Nat), vs = [.str z, .int (b : Nat)] ∧ z.length ≤ 10000 ∧ b ≤ z.length ∧ Q (.int ((b + blk (z.cps.toList.drop b) : Nat) : Int)) H
theorem scBlanksEnd : FnScope ["text", "begin", "end"] ["text", "begin"] (defScope sBlanksEnd) := ⟨rfl, rfl, rfl, by decide +kernel, rfl, by decide +kernel, by decide +kernel⟩
theorem r_blanks_end (A : FnAt K mg "_blanks_end" sBlanksEnd) (m_len : mg "len" = none) : Ready P w K mg base 1 "_blanks_end" ["text", "begin"] spBlanks := by
  refine ready_of A (fun _ _ _ _ _ _ us hl => match us, hl with | [_, _], _ => rfl) fun f fd F => ?_
  refine F.ok scBlanksEnd (fun vs H Q E h => ?_) (fun cdv A outer s H vs Q E hr h => ?_)
  · obtain ⟨z, b, rfl, _⟩ := h
    rfl
  · obtain ⟨z, b, rfl, hz, hb, q⟩ := h
    have sc := scBlanksEnd
    refine ⟨_, pss_cons (ps_set (i := 2) sc.nd rfl (.inl rfl) (pv 1))
      (pss_cons (ps_while PassesOwn.never (PW.pt (pw_and (pt_cmpR op_lt (pv 2) (pe_callB call_len_str (by rfl) m_len PySem.boot_len (pa_cons (pv 0) pa_nil)) (nomark _)) (pw_and1 (pt_cmpR op_eq (pe_item_str (pv 0) (pv 2) (fun _ _ => rfl)) pe_str (nomark _)))))
        (pss_one (ps_aug (i := 2) sc.nd rfl (.inl rfl) pe_int ip_add)))
      (pss_one (ps_ret (pv 2)))), ?_⟩
    have hl := len_cps z
    have e32 : (" " : Str) = ⟨#[32]⟩ := by decide +kernel
    refine ⟨_, rfl, ?_⟩
    refine ⟨fun m σ H' => ∃ e : Nat, σ = [some (.str z), some (.int (b : Nat)), some (.int (e : Nat))] ∧ H' = H ∧ e ≤ z.length ∧ m = z.length - e ∧ b + blk (z.cps.toList.drop b) = e + blk (z.cps.toList.drop e), ⟨z.length - b, b, rfl, rfl, hb, rfl, rfl⟩, fun m σ H' hW => ?_⟩
    obtain ⟨e, rfl, rfl, he, rfl, hE⟩ := hW
    refine ⟨_, rfl, _, rfl, z, rfl, Nat.le_of_lt (szl hz), _, _, rfl, rfl, _, rfl, ?_⟩
    by_cases h1 : e < z.length
    · rw [decide_eq_true (by omega : (e : Int) < (z.length : Int))]
      obtain ⟨c, hc⟩ : ∃ c, z.cps[e]? = some c := ⟨_, Array.getElem?_eq_getElem (show e < z.cps.size from h1)⟩
      have hd := drop_at (cps_at hc)
      refine iteT ⟨_, rfl, _, rfl, z, _, c, rfl, rfl, by omega, by omega, by omega, by rw [Int.toNat_natCast]; exact hc, rfl, _, rfl, ?_⟩
      rw [show decide (V.str ⟨#[c]⟩ = V.str (" " : Str)) = decide (c = 32) from sgn_is e32]
      rw [hd] at hE
      by_cases hb32 : c = 32
      · rw [decide_eq_true hb32]
        rw [hb32, blk_yes] at hE
        refine iteT ⟨fun σ' H'' => ∃ e' : Nat, σ' = [some (.str z), some (.int (b : Nat)), some (.int (e' : Nat))] ∧ H'' = H' ∧ e' = e + 1, fun σ' H'' hN => ?_, ?_⟩
        · obtain ⟨e', rfl, rfl, rfl⟩ := hN
          exact ⟨_, (by omega : z.length - (e + 1) < z.length - e), e + 1, rfl, rfl, h1, rfl, by omega⟩
        · exact ⟨_, rfl, _, _, rfl, rfl, e + 1, rfl, rfl, rfl⟩
      · rw [decide_eq_false hb32]
        rw [blk_no hb32] at hE
        refine iteF ⟨_, rfl, ?_⟩
        rw [hE] at q
        exact q
    · rw [decide_eq_false (by omega : ¬ (e : Int) < (z.length : Int))]
      refine iteF (iteF ⟨_, rfl, ?_⟩)
      rw [List.drop_eq_nil_of_le (by omega : z.cps.toList.length ≤ e)] at hE
      rw [hE] at q
      exact q
def spFigure (C : Addr) : Sp := fun vs H Q E => ∃ (z : Str) (p : Nat), vs = [.str z, .int (p : Nat)] ∧ z.length ≤ 10000 ∧ allSig z.cps.toList = true ∧ p ≤ z.length ∧ (∀ x, figV (z.cps.toList.drop p) = some x → Q (.int (x : Nat)) H) ∧ (figV (z.cps.toList.drop p) = none → Fails C "at" (p : Nat) H E)
theorem scFigureAt : FnScope ["text", "place", "figure"] ["text", "place"] (defScope sFigureAt) := ⟨rfl, rfl, rfl, by decide +kernel, rfl, by decide +kernel, by decide +kernel⟩
theorem x_figure_at {C : Addr} (MNoCode : MkFld P w K mg base "NoCode" C "at") (A : FnAt K mg "_figure_at" sFigureAt) {t1 : Tok} (m_SIXTEEN : mg "SIXTEEN" = some (.str SXTN t1)) : ReadyX P w K mg base 4 "_figure_at" ["text", "place"] (spFigure C) := by
  refine readyX_of A (fun _ _ _ _ _ _ us hl => match us, hl with | [_, _], _ => rfl) fun f fd F => ?_
  refine F.okX scFigureAt (fun vs H Q E h => ?_) (fun cdv A outer s H vs Q E hr h => ?_)
  · obtain ⟨z, p, rfl, _⟩ := h
    rfl
  · obtain ⟨z, p, rfl, hz, hsg, hp, q, qe⟩ := h
    have sc := scFigureAt
    refine ⟨_, pss_cons (ps_set (i := 2) sc.nd rfl (.inl rfl) (pe_upper (pe_slice sl_str (pv 0) (po_some (pv 1)) (po_some (pe_op op_add (pv 1) pe_int)))))
      (pss_cons (ps_if (PW.pt (pw_or (pt_cmpR op_eq (pv 2) pe_str (nomark _)) (pw_or1 (pt_cmpR op_notIn_sign (pv 2) (pe_glob (v := .str SXTN) rfl m_SIXTEEN ⟨_, rfl⟩) (by rfl)))))
        (pss_one (ps_raise rfl (takes_of rfl rfl rfl rfl) (pmk_fld MNoCode (hr.mono (by decide)) (by rfl) (pa_cons pe_str (pa_cons (pv 1) pa_nil)) [] (.inl rfl))))
        pss_nil)
      (pss_one (ps_ret (pe_bm PySem.F.plainAttrs_str PySem.F.slot_str_index PySem.F.type_str_index mt_sindex (pe_glob (v := .str SXTN) rfl m_SIXTEEN ⟨_, rfl⟩) (pa_cons (pv 2) pa_nil))))), ?_⟩
    have hl := len_cps z
    have e0 : ("" : Str) = mk [] := by decide +kernel
    refine ⟨_, rfl, _, rfl, _, rfl, _, rfl, _, _, rfl, rfl, _, rfl, z, rfl, Nat.le_of_lt (szl hz), ⟨_, rfl⟩, _, rfl, rfl, ?_, ?_⟩
    · rw [cut1 z hp, mk_len]
      have := List.length_take_le 1 (z.cps.toList.drop p)
      omega
    rw [cut1 z hp]
    cases hs : z.cps.toList.drop p with
    | nil =>
      rw [hs] at qe
      rw [show Txt.upper (mk (([] : List Nat).take 1)) = ("" : Str) from by rw [List.take_nil, ← e0, up0]]
      refine ⟨_, rfl, rfl, _, rfl, ?_⟩
      rw [decide_eq_true rfl]
      exact iteT (iteT ⟨_, rfl, mk_leaf rfl (Nat.le_refl _) (qe rfl)⟩)
    | cons c r =>
      rw [hs] at q qe
      have hc : c < 127 := sig_lt (List.all_eq_true.mp hsg c (List.mem_of_mem_drop (i := p) (by rw [hs]; exact List.mem_cons_self ..)))
      rw [show Txt.upper (mk ((c :: r).take 1)) = ⟨#[upC c]⟩ from up1 c hc]
      refine ⟨_, rfl, rfl, _, rfl, ?_⟩
      rw [decide_eq_false (show ¬ V.str ⟨#[upC c]⟩ = V.str ("" : Str) from fun y => by have := V.str.inj y; rw [e0] at this; have := congrArg (fun s => s.cps.toList) this; cases this)]
      refine iteF ⟨_, rfl, upC c, SXTN, rfl, rfl, _, rfl, ?_⟩
      have hv := hex_up c hc
      by_cases hin : upC c ∈ SXTN.cps.toList
      · rw [if_pos hin] at hv
        obtain ⟨rest, hocc⟩ := occ_one (x := SXTN) hin
        rw [decide_eq_true hin]
        exact iteF ⟨rfl, _, rfl, SXTN, _, hexIx (upC c), rest, rfl, rfl, hocc, q _ hv⟩
      · rw [if_neg hin] at hv
        rw [decide_eq_false hin]
        exact iteT ⟨_, rfl, mk_leaf rfl (Nat.le_refl _) (qe hv)⟩
/-- octets told, and the place behind -/
def Told (Q : VK) (H : Hp) (t : List Nat) (e : Nat) : Prop := ∀ H' T p, Same H H' → H T = none → H p = none → H' T = some (.tup [.ref p, .int (e : Nat)]) → H' p = some (.lst (iv t)) → Q (.ref T) H'
def spStretch : Sp := fun vs H Q _ => ∃ (z : Str) (b c : Nat) (r : List Nat), vs = [.str z, .int (b : Nat)] ∧ z.length ≤ 10000 ∧ z.cps.toList.drop b = c :: r ∧ Told Q H (strC (c :: r)).1 (b + (strC (c :: r)).2)
theorem scReadStretch : FnScope ["text", "begin", "end"] ["text", "begin"] (defScope sReadStretch) := ⟨rfl, rfl, rfl, by decide +kernel, rfl, by decide +kernel, by decide +kernel⟩
theorem lt_of_drop {l : List Nat} {b c : Nat} {r : List Nat} (h : l.drop b = c :: r) : b < l.length ∧ l[b]? = some c := by
  have hb : b < l.length := by
    rcases Nat.lt_or_ge b l.length with h1 | h1
    · exact h1
    · rw [List.drop_eq_nil_of_le h1] at h
      cases h
  rw [List.drop_eq_getElem_cons hb] at h
  injection h with h1 h2
  exact ⟨hb, by rw [List.getElem?_eq_getElem hb, h1]⟩
theorem one_is {l : List Nat} (h : l.length ≤ 1) {d : Nat} : decide (V.str (mk l) = V.str ⟨#[d]⟩) = decide (l.head? = some d) := by
  match l, h with
  | [], _ =>
    rw [decide_eq_false (show ¬ V.str (mk []) = V.str ⟨#[d]⟩ from fun y => by have := V.str.inj y; have := congrArg (fun s => s.cps.toList) this; cases this)]
    simp
  | [c], _ =>
    rw [show decide (V.str (mk [c]) = V.str ⟨#[d]⟩) = decide (c = d) from sgn_is rfl]
    by_cases e : c = d
    · rw [decide_eq_true e, e]
      simp
    · rw [decide_eq_false e]
      simp [e]
theorem head_take (l : List Nat) : (l.take 1).head? = l.head? := by
  cases l <;> rfl
theorem r_read_stretch (A : FnAt K mg "_read_stretch" sReadStretch) (R1 : Ready P w K mg base 1 "_blanks_end" ["text", "begin"] spBlanks) (m_ord : mg "ord" = none) {t1 : Tok} (m_BLANK : mg "BLANK" = some (.int 32 t1)) : Ready P w K mg base 2 "_read_stretch" ["text", "begin"] spStretch := by
  obtain ⟨f1, fd1, g1, k1, b1, G1⟩ := R1
  refine ready_of A (fun _ _ _ _ _ _ us hl => match us, hl with | [_, _], _ => rfl) fun f fd F => ?_
  refine F.ok scReadStretch (fun vs H Q E h => ?_) (fun cdv A outer s H vs Q E hr h => ?_)
  · obtain ⟨z, b, c, r, rfl, _⟩ := h
    rfl
  · obtain ⟨z, b, c, r, rfl, hz, hd, q⟩ := h
    have sc := scReadStretch
    refine ⟨_, pss_cons (ps_set (i := 2) sc.nd rfl (.inl rfl) (pe_call G1 (hr.mono (by decide)) (by rfl) g1 k1 b1 .nil pass0 (pa_cons (pv 0) (pa_cons (pv 1) pa_nil))))
      (pss_cons (ps_if (pt_cmpR op_eq (pv 2) (pv 1) (nomark _))
        (pss_one (ps_ret (pe_tup (pa_cons (pe_lst (pa_cons (pe_callB call_ord (by rfl) m_ord (by decide +kernel) (pa_cons (pe_item_str (pv 0) (pv 1) (fun _ _ => rfl)) pa_nil)) pa_nil)) (pa_cons (pe_op op_add (pv 1) pe_int) pa_nil)))))
        pss_nil)
      (pss_cons (ps_if (pt_cmpR op_eq (pe_slice sl_str (pv 0) (po_some (pv 2)) (po_some (pe_op op_add (pv 2) pe_int))) pe_str (nomark _))
        (pss_one (ps_ret (pe_tup (pa_cons (pe_lst pa_nil) (pa_cons (pv 2) pa_nil)))))
        pss_nil)
      (pss_one (ps_ret (pe_tup (pa_cons (pe_op op_rep (pe_lst (pa_cons (pe_glob (v := .int 32) rfl m_BLANK ⟨_, rfl⟩) pa_nil)) (pe_op op_sub (pv 2) (pv 1))) (pa_cons (pv 2) pa_nil))))))), ?_⟩
    have hl := len_cps z
    obtain ⟨hbl, hbc⟩ := lt_of_drop hd
    rw [hl] at hbl
    have hcc : z.cps[b]? = some c := by
      have := hbc
      rw [Array.getElem?_toList] at this
      exact this
    have eLF : ("\n" : Str) = ⟨#[10]⟩ := by decide +kernel
    refine ⟨_, rfl, _, rfl, z, b, rfl, hz, by omega, ?_⟩
    rw [hd]
    have hbk := blk_le (c :: r)
    have hlen : (c :: r).length = z.length - b := by rw [← hd, List.length_drop, hl]
    have eqi : ∀ (x : Nat) (y : Nat), decide (V.int (x : Nat) = V.int ((y : Nat) : Int)) = decide (x = y) := fun x y => by
      by_cases e : x = y
      · rw [e, decide_eq_true rfl, decide_eq_true rfl]
      · rw [decide_eq_false e, decide_eq_false (fun z => e (by have := V.int.inj z; omega))]
    refine ⟨_, rfl, _, rfl, rfl, _, rfl, ?_⟩
    rw [eqi]
    by_cases h32 : c = 32
    · have hk : blk (c :: r) = blk r + 1 := by rw [h32]; exact blk_yes r
      rw [decide_eq_false (show ¬ b + blk (c :: r) = b by omega)]
      rw [strC_cons] at q
      rw [if_pos h32] at q
      refine iteF ?_
      refine ⟨_, rfl, _, rfl, _, rfl, _, rfl, _, _, rfl, rfl, _, rfl, z, rfl, Nat.le_of_lt (szl hz), rfl, _, rfl, ?_⟩
      have hdd : z.cps.toList.drop (b + blk (c :: r)) = (c :: r).drop (blk (c :: r)) := by rw [← hd, List.drop_drop]
      rw [show (cutS z (some ((b + blk (c :: r) : Nat) : Int)) (some (((b + blk (c :: r) : Nat) : Int) + 1))) = mk ((z.cps.toList.drop (b + blk (c :: r))).take 1) from cut1 z (by omega), hdd]
      rw [eLF, one_is (List.length_take_le _ _), head_take]
      by_cases h10 : ((c :: r).drop (blk (c :: r))).head? = some 10
      · rw [decide_eq_true h10]
        rw [if_pos h10] at q
        refine iteT ⟨(by show 0 ≤ sizeLine; decide), fun p np => ⟨_, rfl, (by show 2 ≤ sizeLine; decide), fun T nT => ?_⟩⟩
        have s1 : Same H (upd H p (.lst [])) := same_new np
        exact q _ T p (s1.trans (same_new nT)) (Same.free s1 nT) np upd_same (kn upd_same nT)
      · rw [decide_eq_false h10]
        rw [if_neg h10] at q
        refine iteF ⟨(by show 1 ≤ sizeLine; decide), fun p np => ⟨_, rfl, _, rfl, _, _, rfl, rfl, ?_⟩⟩
        refine ⟨p, ((blk (c :: r) : Nat) : Int), _, rfl, congrArg V.int (show ((b + blk (c :: r) : Nat) : Int) - ((b : Nat) : Int) = _ by omega), upd_same, by omega, by omega, by show 1 * ((blk (c :: r) : Nat) : Int).toNat ≤ sizeLine; rw [sizeLine_eq]; omega, fun p2 np2 => ?_⟩
        have erep : (List.replicate ((blk (c :: r) : Nat) : Int).toNat [V.int 32]).flatten = iv (List.replicate (blk (c :: r)) 32) := by
          rw [Int.toNat_natCast]
          generalize blk (c :: r) = k
          induction k with
          | zero => rfl
          | succ k ih =>
            rw [List.replicate_succ, List.flatten_cons, ih, List.replicate_succ]
            rfl
        rw [erep]
        refine ⟨_, rfl, (by show 2 ≤ sizeLine; decide), fun T nT => ?_⟩
        have s1 : Same H (upd (upd H p (.lst [.int 32])) p2 (.lst (iv (List.replicate (blk (c :: r)) 32)))) := (same_new np).trans (same_new np2)
        exact q _ T p2 (s1.trans (same_new nT)) (Same.free s1 nT) (Same.free (same_new np) np2) upd_same (kn upd_same nT)
    · have hk : blk (c :: r) = 0 := blk_no h32
      rw [decide_eq_true (show b + blk (c :: r) = b by omega)]
      rw [strC_cons] at q
      rw [if_neg h32] at q
      refine iteT ⟨_, rfl, _, rfl, z, _, c, rfl, rfl, by omega, by omega, by omega, by rw [Int.toNat_natCast]; exact hcc, ?_⟩
      refine ⟨_, rfl, rfl, (by show 1 ≤ sizeLine; decide), fun p np => ⟨_, rfl, _, _, rfl, rfl, (by show 2 ≤ sizeLine; decide), fun T nT => ?_⟩⟩
      have s1 := same_new (o := .lst [.int (c : Nat)]) np
      exact q _ T p (s1.trans (same_new nT)) (Same.free s1 nT) np upd_same (kn upd_same nT)
def spEquals (C : Addr) : Sp := fun vs H Q E => ∃ (z : Str) (b : Nat) (r : List Nat), vs = [.str z, .int (b : Nat)] ∧ z.length ≤ 10000 ∧ allSig z.cps.toList = true ∧ z.cps.toList.drop b = 61 :: r ∧ (∀ t k, eqC r = .ok (t, k) → Told Q H t (b + k)) ∧ (∀ d : Nat, eqC r = .error d → Fails C "at" ((b + d : Nat) : Int) H E)
theorem scReadEquals : FnScope ["text", "begin", "end"] ["text", "begin"] (defScope sReadEquals) := ⟨rfl, rfl, rfl, by decide +kernel, rfl, by decide +kernel, by decide +kernel⟩
theorem x_read_equals {C : Addr} (MNoCode : MkFld P w K mg base "NoCode" C "at") (A : FnAt K mg "_read_equals" sReadEquals) (R1 : Ready P w K mg base 1 "_blanks_end" ["text", "begin"] spBlanks) (R2 : ReadyX P w K mg base 4 "_figure_at" ["text", "place"] (spFigure C)) :
    ReadyX P w K mg base 5 "_read_equals" ["text", "begin"] (spEquals C) := by
  obtain ⟨f1, fd1, g1, k1, b1, G1⟩ := R1
  obtain ⟨f2, fd2, g2, k2, b2, G2⟩ := R2
  refine readyX_of A (fun _ _ _ _ _ _ us hl => match us, hl with | [_, _], _ => rfl) fun f fd F => ?_
  refine F.okX scReadEquals (fun vs H Q E h => ?_) (fun cdv A outer s H vs Q E hr h => ?_)
  · obtain ⟨z, b, r, rfl, _⟩ := h
    rfl
  · obtain ⟨z, b, r, rfl, hz, hsg, hd, q, qe⟩ := h
    have sc := scReadEquals
    refine ⟨_, pss_cons (ps_set (i := 2) sc.nd rfl (.inl rfl) (pe_call G1 (hr.mono (by decide)) (by rfl) g1 k1 b1 .nil pass0 (pa_cons (pv 0) (pa_cons (pe_op op_add (pv 1) pe_int) pa_nil))))
      (pss_cons (ps_if (pt_cmpR op_eq (pe_slice sl_str (pv 0) (po_some (pv 2)) (po_some (pe_op op_add (pv 2) pe_int))) pe_str (nomark _))
        (pss_one (ps_ret (pe_tup (pa_cons (pe_lst pa_nil) (pa_cons (pe_op op_add (pv 2) pe_int) pa_nil)))))
        pss_nil)
      (pss_cons (ps_if (pt_cmpR op_gt (pv 2) (pe_op op_add (pv 1) pe_int) (nomark _))
        (pss_one (ps_raise rfl (takes_of rfl rfl rfl rfl) (pmk_fld MNoCode (hr.mono (by decide)) (by rfl) (pa_cons pe_str (pa_cons (pv 2) pa_nil)) [] (.inl rfl))))
        pss_nil)
      (pss_one (ps_ret (pe_tup (pa_cons (pe_lst (pa_cons (pe_op op_add (pe_op op_mul pe_int (pe_call G2 (hr.mono (by decide)) (by rfl) g2 k2 b2 .nil (E := E) (passes_call (takes_of rfl rfl rfl rfl) (fun _ _ _ _ h => h)) (pa_cons (pv 0) (pa_cons (pe_op op_add (pv 1) pe_int) pa_nil)))) (pe_call G2 (hr.mono (by decide)) (by rfl) g2 k2 b2 .nil (E := E) (passes_call (takes_of rfl rfl rfl rfl) (fun _ _ _ _ h => h)) (pa_cons (pv 0) (pa_cons (pe_op op_add (pv 1) pe_int) pa_nil)))) pa_nil)) (pa_cons (pe_op op_add (pv 1) pe_int) pa_nil))))))), ?_⟩
    have hl := len_cps z
    obtain ⟨hbl, hbc⟩ := lt_of_drop hd
    rw [hl] at hbl
    have eLF : ("\n" : Str) = ⟨#[10]⟩ := by decide +kernel
    have hd1 : z.cps.toList.drop (b + 1) = r := by rw [← List.drop_drop, hd]; rfl
    have hrl : r.length = z.length - (b + 1) := by rw [← hd1, List.length_drop, hl]
    have hbk := blk_le r
    refine ⟨_, rfl, _, rfl, _, _, rfl, rfl, z, b + 1, rfl, hz, by omega, ?_⟩
    rw [hd1]
    unfold eqC at q qe
    refine ⟨_, rfl, _, rfl, _, rfl, _, rfl, _, _, rfl, rfl, _, rfl, z, rfl, Nat.le_of_lt (szl hz), rfl, _, rfl, ?_⟩
    have hdd : z.cps.toList.drop (b + 1 + blk r) = r.drop (blk r) := by rw [← hd1, List.drop_drop]
    rw [show (cutS z (some ((b + 1 + blk r : Nat) : Int)) (some (((b + 1 + blk r : Nat) : Int) + 1))) = mk ((z.cps.toList.drop (b + 1 + blk r)).take 1) from cut1 z (by omega), hdd]
    rw [eLF, one_is (List.length_take_le _ _), head_take]
    by_cases h10 : (r.drop (blk r)).head? = some 10
    · rw [decide_eq_true h10]
      rw [if_pos h10] at q
      have q := q _ _ rfl
      refine iteT ⟨(by show 0 ≤ sizeLine; decide), fun p np => ⟨_, rfl, _, _, rfl, rfl, (by show 2 ≤ sizeLine; decide), fun T nT => ?_⟩⟩
      have s1 : Same H (upd H p (.lst [])) := same_new np
      refine q _ T p (s1.trans (same_new nT)) (Same.free s1 nT) np ?_ (kn upd_same nT)
      rw [upd_same]
      show some (HO.tup [V.ref p, V.int (((b + 1 + blk r : Nat) : Int) + 1)]) = some (.tup [.ref p, .int ((b + (blk r + 2) : Nat) : Int)])
      rw [show (((b + 1 + blk r : Nat) : Int) + 1) = ((b + (blk r + 2) : Nat) : Int) by omega]
    rw [decide_eq_false h10]
    rw [if_neg h10] at q qe
    refine iteF ⟨_, rfl, _, rfl, _, _, rfl, rfl, _, _, rfl, rfl, _, rfl, ?_⟩
    by_cases hk : 0 < blk r
    · rw [if_pos hk] at qe
      rw [decide_eq_true (show ((b + 1 + blk r : Nat) : Int) > ((b : Nat) : Int) + 1 by omega)]
      have hf := qe _ rfl
      rw [show b + (1 + blk r) = b + 1 + blk r by omega] at hf
      exact iteT ⟨_, rfl, mk_leaf rfl (Nat.le_refl _) hf⟩
    rw [decide_eq_false (show ¬ ((b + 1 + blk r : Nat) : Int) > ((b : Nat) : Int) + 1 by omega)]
    rw [if_neg hk] at q qe
    refine iteF ⟨_, rfl, _, rfl, _, _, rfl, rfl, z, b + 1, rfl, hz, hsg, by omega, fun x hx => ?_, fun hx => ?_⟩
    · rw [hd1] at hx
      rw [hx] at q qe
      dsimp only at q qe
      have hr1 : 1 ≤ r.length := by
        cases r with
        | nil => cases hx
        | cons a b => simp
      have hd2 : z.cps.toList.drop (b + 2) = r.drop 1 := by rw [← hd1, List.drop_drop]
      refine ⟨_, _, rfl, rfl, .inl ⟨by decide, by decide⟩, _, rfl, _, rfl, _, _, rfl, rfl, z, b + 2, rfl, hz, hsg, by omega, fun y hy => ?_, fun hy => ?_⟩
      · rw [hd2] at hy
        rw [hy] at q
        have q := q _ _ rfl
        refine ⟨_, _, rfl, rfl, (by show 1 ≤ sizeLine; decide), fun p np => ⟨_, rfl, _, _, rfl, rfl, (by show 2 ≤ sizeLine; decide), fun T nT => ?_⟩⟩
        have s1 := same_new (o := .lst [.int ((16 * x + y : Nat) : Int)]) np
        exact q _ T p (s1.trans (same_new nT)) (Same.free s1 nT) np upd_same (kn upd_same nT)
      · rw [hd2] at hy
        rw [hy] at qe
        exact qe _ rfl
    · rw [hd1] at hx
      rw [hx] at qe
      exact qe _ rfl
theorem scReadMarks : FnScope ["text", "octets", "place", "told"] ["text"] (defScope sReadMarks) := ⟨rfl, rfl, rfl, by decide +kernel, rfl, by decide +kernel, by decide +kernel⟩
theorem x_read_marks {C : Addr} (A : FnAt K mg "_read_marks" sReadMarks) (R1 : ReadyX P w K mg base 5 "_read_equals" ["text", "begin"] (spEquals C)) (R2 : Ready P w K mg base 2 "_read_stretch" ["text", "begin"] spStretch) (m_len : mg "len" = none) : ReadyX P w K mg base 6 "_read_marks" ["text"] (spRdC C readMk) := by
  obtain ⟨f1, fd1, g1, k1, b1, G1⟩ := R1
  obtain ⟨f2, fd2, g2, k2, b2, G2⟩ := R2
  refine readyX_of A (fun _ _ _ _ _ _ us hl => match us, hl with | [_], _ => rfl) fun f fd F => ?_
  refine F.okX scReadMarks (fun vs H Q E h => ?_) (fun cdv A outer s H vs Q E hr h => ?_)
  · obtain ⟨z, rfl, _⟩ := h
    rfl
  · obtain ⟨z, rfl, hz, hsg, q, qe⟩ := h
    have sc := scReadMarks
    refine ⟨_, pss_cons (ps_set (i := 1) sc.nd rfl (.inl rfl) (pe_lst pa_nil))
      (pss_cons (ps_set (i := 2) sc.nd rfl (.inl rfl) pe_int)
      (pss_cons (ps_while (passes_of rfl) (pt_cmpR op_lt (pv 2) (pe_callB call_len_str (by rfl) m_len PySem.boot_len (pa_cons (pv 0) pa_nil)) (nomark _))
        (pss_cons (ps_if (pt_cmpR op_eq (pe_item_str (pv 0) (pv 2) (fun _ _ => rfl)) pe_str (nomark _))
            (pss_one (ps_asg (pe_call G1 (hr.mono (by decide)) (by rfl) g1 k1 b1 .nil (E := E) (passes_call (takes_of rfl rfl rfl rfl) (fun _ _ _ _ h => h)) (pa_cons (pv 0) (pa_cons (pv 2) pa_nil))) (pg_tup rfl (pgs_cons (pg_name (i := 3) sc.nd rfl (.inl rfl)) (pgs_cons (pg_name (i := 2) sc.nd rfl (.inl rfl)) pgs_nil)))))
            (pss_one (ps_asg (pe_call G2 (hr.mono (by decide)) (by rfl) g2 k2 b2 .nil pass0 (pa_cons (pv 0) (pa_cons (pv 2) pa_nil))) (pg_tup rfl (pgs_cons (pg_name (i := 3) sc.nd rfl (.inl rfl)) (pgs_cons (pg_name (i := 2) sc.nd rfl (.inl rfl)) pgs_nil))))))
          (pss_one (ps_expr (pe_bm PySem.F.plainAttrs_list PySem.F.slot_list_extend PySem.F.type_list_extend mt_extend (pv 1) (pa_cons (pv 3) pa_nil))))))
      (pss_one (ps_ret (pv 1))))), ?_⟩
    have hl := len_cps z
    have e61 : ("=" : Str) = ⟨#[61]⟩ := by decide +kernel
    obtain ⟨R, hR⟩ : ∃ R, R = readMk z.cps.toList := ⟨_, rfl⟩
    refine ⟨(by show 0 ≤ sizeLine; decide), fun po npo => ?_⟩
    refine ⟨fun m σ H' => ∃ (p n : Nat) (acc : List Nat) (y3 : Option V), σ = [some (.str z), some (.ref po), some (.int (p : Nat)), y3] ∧ Same H H' ∧ H' po = some (.lst (iv acc)) ∧ p ≤ z.length ∧ acc.length ≤ p ∧ m = z.length - p ∧ z.length - p ≤ n ∧ readM n (z.cps.toList.drop p) p acc = R,
      ⟨z.length, 0, z.length, [], none, rfl, same_new npo, upd_same, Nat.zero_le _, Nat.le_refl _, rfl, by omega, by rw [hR, ← hl]; rfl⟩, fun m σ H' hW => ?_⟩
    obtain ⟨p, n, acc, y3, rfl, sm, hpo, hp, hacc, rfl, hn, hrd⟩ := hW
    refine ⟨_, rfl, _, rfl, z, rfl, Nat.le_of_lt (szl hz), _, _, rfl, rfl, _, rfl, ?_⟩
    by_cases h1 : p < z.length
    · rw [decide_eq_true (by omega : (p : Int) < (z.length : Int))]
      obtain ⟨c, hc⟩ : ∃ c, z.cps[p]? = some c := ⟨_, Array.getElem?_eq_getElem (show p < z.cps.size from h1)⟩
      have hd := drop_at (cps_at hc)
      generalize hr0 : z.cps.toList.drop (p + 1) = r at hd
      rw [hd] at hrd
      have hcrl : (c :: r).length = z.length - p := by rw [← hd, List.length_drop, hl]
      match n, hn with
      | 0, hn => omega
      | n + 1, hn =>
      refine iteT ⟨fun σ' H'' => ∃ (p' n' : Nat) (acc' : List Nat) (y3 : Option V), σ' = [some (.str z), some (.ref po), some (.int (p' : Nat)), y3] ∧ Same H H'' ∧ H'' po = some (.lst (iv acc')) ∧ p' ≤ z.length ∧ acc'.length ≤ p' ∧ p < p' ∧ z.length - p' ≤ n' ∧ readM n' (z.cps.toList.drop p') p' acc' = R, fun σ' H'' hN => ?_, ?_⟩
      · obtain ⟨p', n', acc', y3', rfl, a1, a2, a3, a4, a5, a6, a7⟩ := hN
        exact ⟨z.length - p', by omega, p', n', acc', y3', rfl, a1, a2, a3, a4, rfl, a6, a7⟩
      · -- what is told, then put to the rest
        refine ⟨_, rfl, _, rfl, z, _, c, rfl, rfl, by omega, by omega, by omega, by rw [Int.toNat_natCast]; exact hc, rfl, _, rfl, ?_⟩
        rw [show decide (V.str ⟨#[c]⟩ = V.str ("=" : Str)) = decide (c = 61) from sgn_is e61]
        by_cases h61 : c = 61
        · rw [decide_eq_true h61]
          subst h61
          rw [readM_eq] at hrd
          refine iteT ⟨_, rfl, _, rfl, z, p, r, rfl, hz, hsg, hd, fun t k hk H2 T tp s2 nT ntp hT htp => ?_, fun d hdd => ?_⟩
          · rw [hk] at hrd
            dsimp only at hrd
            obtain ⟨e1, e2, e3⟩ := eqC_k hk
            refine ⟨T, _, rfl, SqT.of hT, rfl, _, _, rfl, _, _, rfl, rfl, ?_⟩
            have hrl : (61 :: r).length = r.length + 1 := rfl
            have hpo2 := s2 _ _ hpo
            refine ⟨_, rfl, .inl ⟨rfl, _, SqL.of hpo2⟩, _, rfl, po, tp, _, _, rfl, rfl, hpo2, htp, by rw [iv_len, iv_len, sizeLine_eq]; omega, ?_⟩
            refine ⟨p + k, n, acc ++ t, _, rfl, same_set (sm.trans s2) npo, by rw [upd_same, iv_app], by omega, by rw [List.length_append]; omega, by omega, by omega, ?_⟩
            rw [← List.drop_drop, hd]
            exact hrd
          · rw [hdd] at hrd
            exact Fails.later (qe _ (by rw [← hR, ← hrd])) sm
        · rw [decide_eq_false h61]
          rw [readM_str h61] at hrd
          obtain ⟨e1, e2, e3⟩ := strC_k (c := c) (r := r)
          refine iteF ⟨_, rfl, _, rfl, z, p, c, r, rfl, hz, hd, fun H2 T tp s2 nT ntp hT htp => ?_⟩
          refine ⟨T, _, rfl, SqT.of hT, rfl, _, _, rfl, _, _, rfl, rfl, ?_⟩
          generalize strC (c :: r) = tk at e1 e2 e3 hrd hT htp ⊢
          obtain ⟨t, k⟩ := tk
          dsimp only at e1 e2 e3 hrd hT htp
          have hpo2 := s2 _ _ hpo
          refine ⟨_, rfl, .inl ⟨rfl, _, SqL.of hpo2⟩, _, rfl, po, tp, _, _, rfl, rfl, hpo2, htp, by rw [iv_len, iv_len, sizeLine_eq]; omega, ?_⟩
          refine ⟨p + k, n, acc ++ t, _, rfl, same_set (sm.trans s2) npo, by rw [upd_same, iv_app], by omega, by rw [List.length_append]; omega, by omega, by omega, ?_⟩
          rw [← List.drop_drop, hd]
          exact hrd
    · rw [decide_eq_false (by omega : ¬ (p : Int) < (z.length : Int))]
      rw [List.drop_eq_nil_of_le (by omega : z.cps.toList.length ≤ p), readM_nil] at hrd
      exact iteF ⟨_, rfl, q acc (by rw [← hR, ← hrd]) _ po sm npo hpo⟩
end
end FL


namespace FL
open PySem PySem.Spec PyProof.Rows L2
/-! ### the three codes side by side -/
inductive Cd where
  | pl
  | sx
  | mr
def Cd.word : Cd → Str
  | .pl => "plain"
  | .sx => "sixes"
  | .mr => "marks"
def Cd.wr : Cd → List Nat → List Nat
  | .pl => id
  | .sx => lines6
  | .mr => marksL
def Cd.can : Cd → List Nat → Bool
  | .pl => plainB
  | .sx => fun _ => true
  | .mr => fun _ => true
def Cd.rd : Cd → RdC
  | .pl => rdP
  | .sx => read6
  | .mr => readMk
theorem Cd.len (c : Cd) (l : List Nat) : (c.wr l).length ≤ 5 * l.length + 150 := by
  cases c with
  | pl =>
    show l.length ≤ _
    omega
  | sx =>
    have := lines6_len l
    show (lines6 l).length ≤ _
    omega
  | mr =>
    have := tailM_len l 0
    show (tailM l 0).length ≤ _
    omega
theorem Cd.sig (c : Cd) {l : List Nat} (hb : ∀ x ∈ l, x < 256) (h : c.can l = true) : allSig (c.wr l) = true := by
  cases c with
  | pl => exact plain_sig h
  | sx => exact lines6_sig hb
  | mr => exact List.all_eq_true.mpr (tailM_sig l 0 hb)
theorem readByP' {l : List Nat} (h : plainB l = true) : readBy rdP l = .ok l := by
  unfold readBy rdP
  dsimp only
  rcases plainR_last l 0 h with e | e
  · rw [if_neg (fun z => z.1 e)]
  · rw [if_neg (fun z => z.2 e)]
theorem Cd.back (c : Cd) {l : List Nat} (hb : ∀ x ∈ l, x < 256) (h : c.can l = true) : readBy c.rd (c.wr l) = .ok l := by
  cases c with
  | pl => exact readByP' h
  | sx => exact readBy6 hb
  | mr => exact readByM hb
/-! the texts' lines -/
theorem six_no10 : ∀ n, n < 64 → six n ≠ 10 := fun n h => (six_mem n h).2.2.1
theorem four_no10 {l : List Nat} (hb : ∀ x ∈ l, x < 256) : 10 ∉ FL.four l := by
  match l, hb with
  | [], _ => simp [FL.four]
  | [a], hb =>
    have := hb a (by simp)
    intro hc
    simp [FL.four] at hc
    rcases hc with hc | hc
    · exact six_no10 _ (by omega) hc.symm
    · exact six_no10 _ (by omega) hc.symm
  | [a, b], hb =>
    have := hb a (by simp)
    have := hb b (by simp)
    intro hc
    simp [FL.four] at hc
    rcases hc with hc | hc | hc
    · exact six_no10 _ (by omega) hc.symm
    · exact six_no10 _ (by omega) hc.symm
    · exact six_no10 _ (by omega) hc.symm
  | [a, b, d], hb =>
    have := hb a (by simp)
    have := hb b (by simp)
    have := hb d (by simp)
    intro hc
    simp [FL.four] at hc
    rcases hc with hc | hc | hc | hc
    · exact six_no10 _ (by omega) hc.symm
    · exact six_no10 _ (by omega) hc.symm
    · exact six_no10 _ (by omega) hc.symm
    · exact six_no10 _ (by omega) hc.symm
  | a :: b :: d :: e :: r, _ => simp [FL.four]
theorem sixC_no10 : ∀ (n : Nat) (l : List Nat), l.length ≤ n → (∀ x ∈ l, x < 256) → 10 ∉ sixC l
  | n, [], _, _ => by simp [sixC]
  | 0, a :: r, h, _ => by simp at h
  | n + 1, a :: r, h, hb => by
    rw [sixC_step (by simp)]
    intro hc
    rcases List.mem_append.mp hc with hc | hc
    · exact four_no10 (fun x hx => hb x (List.mem_of_mem_take hx)) hc
    · exact sixC_no10 n _ (by rw [List.length_drop]; simp at h ⊢; omega) (fun x hx => hb x (List.mem_of_mem_drop hx)) hc
def LinesOk (s : List Nat) : Prop := ∃ p ps, s = TL.joinL [10] (p :: ps) ∧ ∀ q ∈ p :: ps, q.length ≤ 72 ∧ 10 ∉ q
theorem linesX_ok : ∀ (n : Nat) (s : List Nat), s.length ≤ n → 10 ∉ s → LinesOk (linesX s)
  | _, [], _, _ => ⟨[], [], rfl, fun q hq => by rw [List.mem_singleton.mp hq]; exact ⟨by decide, by simp⟩⟩
  | 0, a :: r, h, _ => by simp at h
  | n + 1, a :: r, h, hn => by
    rw [linesX_step (by simp)]
    obtain ⟨p, ps, e, ok⟩ := linesX_ok n ((a :: r).drop 72) (by rw [List.length_drop]; simp at h ⊢; omega) (fun z => hn (List.mem_of_mem_drop z))
    refine ⟨(a :: r).take 72, p :: ps, ?_, fun q hq => ?_⟩
    · rw [e]
      show _ = (a :: r).take 72 ++ ([10] ++ TL.joinL [10] (p :: ps))
      rw [List.append_assoc]
    · rcases List.mem_cons.mp hq with rfl | hq
      · exact ⟨List.length_take_le _ _, fun z => hn (List.mem_of_mem_take z)⟩
      · exact ok q hq
theorem plainR_lines : ∀ (l : List Nat) (n : Nat), n ≤ 72 → plainR l n = true → ∃ p ps, l = TL.joinL [10] (p :: ps) ∧ (n + p.length ≤ 72 ∧ 10 ∉ p) ∧ ∀ q ∈ ps, q.length ≤ 72 ∧ 10 ∉ q
  | [], n, hn, _ => ⟨[], [], rfl, ⟨by simpa using hn, by simp⟩, fun q hq => by cases hq⟩
  | o :: r, n, hn, h => by
    unfold plainR at h
    by_cases ho : o = 10
    · rw [if_pos ho] at h
      obtain ⟨p, ps, e, h1, h2⟩ := plainR_lines r 0 (by decide) h
      refine ⟨[], p :: ps, by rw [ho, e]; rfl, ⟨by simpa using hn, by simp⟩, fun q hq => ?_⟩
      rcases List.mem_cons.mp hq with rfl | hq
      · exact ⟨by omega, h1.2⟩
      · exact h2 q hq
    · rw [if_neg ho] at h
      by_cases hc : n + 1 ≤ 72 ∧ numb o = true
      · rw [if_pos hc] at h
        obtain ⟨p, ps, e, h1, h2⟩ := plainR_lines r (n + 1) hc.1 h
        refine ⟨o :: p, ps, ?_, ⟨by rw [List.length_cons]; omega, fun z => ?_⟩, h2⟩
        · rw [e]
          cases ps <;> simp [TL.joinL]
        · rcases List.mem_cons.mp z with z | z
          · exact ho z.symm
          · exact h1.2 z
      · rw [if_neg hc] at h
        cases h
theorem Cd.lines (c : Cd) {l : List Nat} (hb : ∀ x ∈ l, x < 256) (h : c.can l = true) : LinesOk (c.wr l) := by
  cases c with
  | pl =>
    obtain ⟨p, ps, e, h1, h2⟩ := plainR_lines l 0 (by decide) h
    refine ⟨p, ps, e, fun q hq => ?_⟩
    rcases List.mem_cons.mp hq with rfl | hq
    · exact ⟨by omega, h1.2⟩
    · exact h2 q hq
  | sx => exact linesX_ok _ _ (Nat.le_refl _) (sixC_no10 _ l (Nat.le_refl _) hb)
  | mr =>
    obtain ⟨p, ps, e1, e2, e3, e4⟩ := tailM_lines l 0 hb (by decide)
    refine ⟨p, ps, e1, fun q hq => ?_⟩
    rcases List.mem_cons.mp hq with rfl | hq
    · exact ⟨by omega, e3⟩
    · exact e4 q hq
theorem sixC_ne {l : List Nat} (h : l ≠ []) : sixC l ≠ [] := by
  intro z
  rw [sixC_step h] at z
  have := (List.append_eq_nil_iff.mp z).1
  match l, h with
  | [a], _ => simp [FL.four] at this
  | [a, b], _ => simp [FL.four] at this
  | a :: b :: d :: r, _ => simp [FL.four] at this
theorem Cd.last (c : Cd) {l : List Nat} (h : c.can l = true) (hn : l ≠ []) : (c.wr l).getLast? = some 10 := by
  cases c with
  | pl => exact (plainR_last l 0 h).resolve_left hn
  | sx => exact linesX_last _ _ (Nat.le_refl _) (sixC_ne hn)
  | mr => exact tailM_last l 0 (.inl hn)
theorem Cd.nil (c : Cd) : c.wr [] = [] := by cases c <;> rfl
theorem Cd.ne (c : Cd) {l : List Nat} (h : c.can l = true) (hn : l ≠ []) : c.wr l ≠ [] := fun z => by
  have := c.last h hn
  rw [z] at this
  cases this
/-- no two rows are written alike -/
theorem Cd.inj (c : Cd) {l m : List Nat} (hl : ∀ x ∈ l, x < 256) (hm : ∀ x ∈ m, x < 256) (kl : c.can l = true) (km : c.can m = true) (h : c.wr l = c.wr m) : l = m := by
  have h1 := c.back hl kl
  rw [h, c.back hm km] at h1
  injection h1 with h1
  exact h1.symm
/-! what is read are octets -/
theorem o4n_lt {four : List Nat} (h4 : four.length ≤ 4) (h : ∀ s ∈ four, s < 64) : o4n four < 16777216 := by
  unfold o4n
  match four, h4, h with
  | [], _, _ => decide
  | [a], _, h =>
    have := h a (by simp)
    show 64 * (64 * (64 * (64 * 0 + a) + 0) + 0) + 0 < _
    omega
  | [a, b], _, h =>
    have := h a (by simp)
    have := h b (by simp)
    show 64 * (64 * (64 * (64 * 0 + a) + b) + 0) + 0 < _
    omega
  | [a, b, c], _, h =>
    have := h a (by simp)
    have := h b (by simp)
    have := h c (by simp)
    show 64 * (64 * (64 * (64 * 0 + a) + b) + c) + 0 < _
    omega
  | [a, b, c, d], _, h =>
    have := h a (by simp)
    have := h b (by simp)
    have := h c (by simp)
    have := h d (by simp)
    show 64 * (64 * (64 * (64 * 0 + a) + b) + c) + d < _
    omega
  | _ :: _ :: _ :: _ :: _ :: _, h4, _ => simp at h4
theorem o4_lt {four : List Nat} (h4 : four.length ≤ 4) (h : ∀ s ∈ four, s < 64) : ∀ n ∈ o4 four, n < 256 := by
  have := o4n_lt h4 h
  intro n hn
  unfold o4 at hn
  have hn := List.mem_of_mem_take hn
  simp only [List.mem_cons, List.not_mem_nil, or_false] at hn
  omega
theorem run6_oct : ∀ (l : List Nat) (p i : Nat) (st st' : St6), Ok6 st i → (∀ n ∈ st.oct, n < 256) → run6 l p st = .ok st' → Ok6 st' (i + l.length) ∧ ∀ n ∈ st'.oct, n < 256
  | [], p, i, st, st', o, hb, h => by
    rw [run6_nil] at h
    injection h with h
    subst h
    exact ⟨o, hb⟩
  | c :: r, p, i, st, st', o, hb, h => by
    cases hs : step6 st c with
    | none =>
      rw [run6_none hs] at h
      cases h
    | some s2 =>
      rw [run6_some hs] at h
      have hb2 : ∀ n ∈ s2.oct, n < 256 := by
        unfold step6 at hs
        split at hs
        · injection hs with hs
          rw [← hs]
          exact hb
        · split at hs
          · injection hs with hs
            rw [← hs]
            exact hb
          · split at hs
            · split at hs
              · injection hs with hs
                rw [← hs]
                intro n hn
                rcases List.mem_append.mp hn with hn | hn
                · exact hb n hn
                · exact o4_lt o.f4 o.f64 n hn
              · injection hs with hs
                rw [← hs]
                exact hb
            · cases hs
      have ih := run6_oct r (p + 1) (i + 1) s2 st' (ok6_step o hs) hb2 h
      rw [List.length_cons, show i + (r.length + 1) = i + 1 + r.length by omega]
      exact ih
theorem read6_oct {s o : List Nat} (h : read6 s = .ok o) : (∀ n ∈ o, n < 256) ∧ o.length ≤ 3 * s.length + 3 := by
  unfold read6 at h
  cases hr : run6 s 0 init6 with
  | error p =>
    rw [hr] at h
    cases h
  | ok st =>
    rw [hr] at h
    dsimp only at h
    obtain ⟨ok, hb⟩ := run6_oct s 0 0 init6 st ⟨by decide, (fun s hs => by cases hs), by decide, by decide⟩ (fun n hn => by cases hn) hr
    unfold end6 at h
    split at h
    · cases h
    · injection h with h
      subst h
      refine ⟨fun n hn => ?_, ?_⟩
      · rcases List.mem_append.mp hn with hn | hn
        · exact hb n hn
        · exact o4_lt ok.f4 ok.f64 n hn
      · have h1 := ok.ol
        have h2 := o4_len st.four
        rw [List.length_append]
        omega
theorem hexV_lt {c x : Nat} (h : hexV c = some x) : x < 16 := by
  unfold hexV at h
  split at h
  · injection h with h
    omega
  · split at h
    · injection h with h
      omega
    · split at h
      · injection h with h
        omega
      · cases h
theorem figV_lt {s : List Nat} {x : Nat} (h : figV s = some x) : x < 16 := by
  cases s with
  | nil => cases h
  | cons c r => exact hexV_lt h
theorem blk_le3 (s : List Nat) : blk s ≤ s.length := by
  unfold blk
  exact (List.takeWhile_sublist _).length_le
theorem readM_oct : ∀ (n : Nat) (s : List Nat) (p : Nat) (acc o : List Nat), (∀ c ∈ s, c < 256) → (∀ x ∈ acc, x < 256) → readM n s p acc = .ok o → (∀ x ∈ o, x < 256) ∧ o.length ≤ acc.length + s.length
  | n, [], p, acc, o, _, ha, h => by
    rw [readM_nil] at h
    injection h with h
    subst h
    exact ⟨ha, by simp⟩
  | 0, _ :: _, p, acc, o, _, ha, h => by
    unfold readM at h
    injection h with h
    subst h
    exact ⟨ha, by simp⟩
  | n + 1, c :: r, p, acc, o, hs, ha, h => by
    have hr : ∀ x ∈ r, x < 256 := fun x hx => hs x (List.mem_cons_of_mem _ hx)
    have hd : ∀ k, ∀ x ∈ r.drop k, x < 256 := fun k x hx => hr x (List.mem_of_mem_drop hx)
    have hds : ∀ k, ∀ x ∈ (c :: r).drop k, x < 256 := fun k x hx => hs x (List.mem_of_mem_drop hx)
    have hbl := blk_le3 (c :: r)
    unfold readM at h
    split at h
    · split at h
      · obtain ⟨h1, h2⟩ := readM_oct n _ _ acc o (hd _) ha h
        refine ⟨h1, ?_⟩
        rw [List.length_drop] at h2
        rw [List.length_cons]
        omega
      · split at h
        · cases h
        · cases hf : figV r with
          | none =>
            rw [hf] at h
            cases h
          | some x =>
            rw [hf] at h
            dsimp only at h
            cases hg : figV (r.drop 1) with
            | none =>
              rw [hg] at h
              cases h
            | some y =>
              rw [hg] at h
              dsimp only at h
              have hx := figV_lt hf
              have hy := figV_lt hg
              obtain ⟨h1, h2⟩ := readM_oct n _ _ (acc ++ [16 * x + y]) o (hd 2) (fun z hz => by
                rcases List.mem_append.mp hz with hz | hz
                · exact ha z hz
                · rw [List.mem_singleton.mp hz]
                  omega) h
              refine ⟨h1, ?_⟩
              rw [List.length_append, List.length_singleton, List.length_drop] at h2
              rw [List.length_cons]
              omega
    · split at h
      · split at h
        · obtain ⟨h1, h2⟩ := readM_oct n _ _ acc o (hds _) ha h
          refine ⟨h1, ?_⟩
          rw [List.length_drop] at h2
          omega
        · obtain ⟨h1, h2⟩ := readM_oct n _ _ (acc ++ List.replicate (blk (c :: r)) 32) o (hds _) (fun z hz => by
            rcases List.mem_append.mp hz with hz | hz
            · exact ha z hz
            · rw [(List.mem_replicate.mp hz).2]
              decide) h
          refine ⟨h1, ?_⟩
          rw [List.length_append, List.length_replicate, List.length_drop] at h2
          omega
      · obtain ⟨h1, h2⟩ := readM_oct n _ _ (acc ++ [c]) o hr (fun z hz => by
          rcases List.mem_append.mp hz with hz | hz
          · exact ha z hz
          · rw [List.mem_singleton.mp hz]
            exact hs c (List.mem_cons_self ..)) h
        refine ⟨h1, ?_⟩
        rw [List.length_append, List.length_singleton] at h2
        rw [List.length_cons]
        omega
theorem sig_lt3 {s : List Nat} (h : allSig s = true) : ∀ c ∈ s, c < 256 := fun c hc => by
  have := List.all_eq_true.mp h c hc
  unfold isSig at this
  by_cases h1 : c = 10
  · omega
  · rw [decide_eq_false h1, Bool.false_or] at this
    have := of_decide_eq_true (Bool.and_eq_true_iff.mp this).1
    omega
theorem readBy_ok {rd : RdC} {s o : List Nat} (h : readBy rd s = .ok o) : rd s = .ok o := by
  unfold readBy at h
  cases hr : rd s with
  | error p =>
    rw [hr] at h
    cases h
  | ok m =>
    rw [hr] at h
    dsimp only at h
    split at h
    · cases h
    · exact h
theorem Cd.oct (c : Cd) {s o : List Nat} (hs : allSig s = true) (h : readBy c.rd s = .ok o) : (∀ n ∈ o, n < 256) ∧ o.length ≤ 3 * s.length + 3 := by
  have h := readBy_ok h
  cases c with
  | pl =>
    injection h with h
    subst h
    exact ⟨sig_lt3 hs, by omega⟩
  | sx => exact read6_oct h
  | mr =>
    obtain ⟨h1, h2⟩ := readM_oct _ _ _ [] o (sig_lt3 hs) (fun x hx => by cases hx) h
    exact ⟨h1, by simp at h2; omega⟩
end FL


namespace FL
open PySem PySem.Spec PyProof.Rows L2
theorem fnok_or {P : Program} {w : World} {K : PySem.W.Frag} {mg : Str → Option Value} {base : Heap} {CX : CXT} {k : Nat} {f : Addr} {fd : FuncData} {ps : List Str} {sp sp' : Sp} (F : FnOk P w K mg base CX k f fd ps sp) (F' : FnOk P w K mg base CX k f fd ps sp') :
    FnOk P w K mg base CX k f fd ps (fun vs H Q E => sp vs H Q E ∨ sp' vs H Q E) :=
  ⟨fun vs H Q E h => h.elim (F.len vs H Q E) (F'.len vs H Q E), fun A outer s H args us vs Q E hr he hb hv hs => hs.elim (F.run A outer s H args us vs Q E hr he hb hv) (F'.run A outer s H args us vs Q E hr he hb hv)⟩
section
variable {P : Program} {w : World} {K : PySem.W.Frag} {mg : Str → Option Value} {base : Heap}
theorem ok_read_by {f : Addr} {fd : FuncData} {C WR RD fR : Addr} {fdR : FuncData} {psR : List Str} {kk : Nat} {code : Str} {rd : RdC} (MNoCode : MkFld P w K mg base "NoCode" C "at") (F : Fun K "read_by" "read_by" sReadBy f fd) (R1 : Ready P w K mg base 2 "is_text" ["value"] (spLine K allSig)) (R2 : ReadyX P w K mg base 4 "_check_code" ["value"] (spCheckCodeX K C WR))
    (m_READERS : mg "READERS" = some (.ref RD)) (m_len : mg "len" = none) {es : Array DictEntry} {n : Nat} (D : KDict K w RD es n) {rw_ : Value} (hw : PySem.W.nsIn K WR code = some (some rw_)) (hs : PySem.W.nsIn K RD code = some (some (.ref fR)))
    (GR : FnOk P w K mg base (L2.CX P w) kk fR fdR psR (spRdC C rd)) (hk4 : kk ≤ 6) (kR : PySem.W.keepIn K (.ref fR) = true) (bR : L2.Binds K fdR psR []) :
    FnOk P w K mg base (L2.CX P w) 7 f fd ["text", "code"] (spReadX K C code rd) := by
  obtain ⟨f1, fd1, g1, k1, b1, G1⟩ := R1
  obtain ⟨f2, fd2, g2, k2, b2, G2⟩ := R2
  refine F.okX scReadBy (fun vs H Q E h => ?_) (fun cdv A outer s H vs Q E hr h => ?_)
  · obtain ⟨v, rfl, _⟩ := h
    rfl
  · obtain ⟨v, rfl, h⟩ := h
    have sc := scReadBy
    refine ⟨_, pss_cons (ps_if (pt_not (pt_val (pe_call G1 (hr.mono (by decide)) (by rfl) g1 k1 b1 .nil pass0 (pa_cons (pv 0) pa_nil))))
        (pss_one (ps_raise rfl (takes_of rfl rfl rfl rfl) (pmk_fld MNoCode (hr.mono (by decide)) (by rfl) (pa_cons pe_str pa_nil) [.int 0] (.inr rfl))))
        pss_nil)
      (pss_cons (ps_expr (pe_call G2 (hr.mono (by decide)) (by rfl) g2 k2 b2 .nil (E := E) (passes_call (takes_of rfl rfl rfl rfl) (fun _ _ _ _ h => h)) (pa_cons (pv 1) pa_nil)))
      (pss_cons (ps_set (i := 2) sc.nd rfl (.inl rfl) (pe_ix ix_kdict (pe_glob (v := .ref RD) rfl m_READERS rfl) (pv 1) (fun _ _ => rfl)))
      (pss_cons (ps_set (i := 3) sc.nd rfl (.inl rfl) (pe_callL (i := 2) GR (hr.mono hk4) rfl (by first | exact .inl rfl | exact .inr (.inl rfl) | exact .inr (.inr rfl)) kR bR .nil (E := E) (passes_call (takes_of rfl rfl rfl rfl) (fun _ _ _ _ h => h)) (pa_cons (pv 0) pa_nil)))
      (pss_cons (ps_if (PW.pt (pw_and (pt_cmpR op_ne (pv 0) pe_str (nomark _)) (pw_and1 (pt_not (pt_val (pe_bm PySem.F.plainAttrs_str PySem.F.slot_str_endswith PySem.F.type_str_endswith mt_endswith (pv 0) (pa_cons pe_str pa_nil)))))))
        (pss_one (ps_raise rfl (takes_of rfl rfl rfl rfl) (pmk_fld MNoCode (hr.mono (by decide)) (by rfl) (pa_cons pe_str (pa_cons (pe_callB call_len_str (by rfl) m_len PySem.boot_len (pa_cons (pv 0) pa_nil)) pa_nil)) [] (.inl rfl))))
        pss_nil)
      (pss_one (ps_ret (pv 3))))))), ?_⟩
    rcases h with ⟨z, rfl, hz, hall, q, qe⟩ | ⟨hno, qe⟩
    · refine ⟨_, rfl, _, rfl, .inl ⟨z, rfl, hz, fun H1 s1 => ?_⟩⟩
      rw [hall]
      refine ⟨_, rfl, iteF ?_⟩
      refine ⟨_, rfl, _, rfl, .inl ⟨_, _, rfl, hw, fun _ => ?_, fun z => by cases z⟩⟩
      refine ⟨_, rfl, RD, code, .ref fR, rfl, rfl, ⟨es, n, .ref fR, D.at_, D.lit, hs, rfl⟩, ?_⟩
      unfold readBy at q qe
      refine ⟨rfl, _, rfl, z, rfl, hz, hall, fun o ho H2 p s2 np hp => ?_, fun p hp => ?_⟩
      · rw [ho] at q qe
        dsimp only at q qe
        have e10 : ("" : Str) = mk [] := by decide +kernel
        refine ⟨_, rfl, rfl, _, rfl, ?_⟩
        by_cases h0 : z.cps.toList = []
        · have ez : z = ("" : Str) := by rw [e10, ← h0, mk_of]
          refine iteNS (congrArg V.str ez) (iteF ?_)
          exact ⟨_, rfl, q o (by rw [if_neg (fun y => y.1 h0)]) H2 p (s1.trans s2) (Same.free s1 np) hp⟩
        · rw [decide_eq_false (fun y => h0 (by rw [V.str.inj y]; decide +kernel))]
          refine iteT ⟨_, rfl, rfl, _, _, rfl, rfl, ?_⟩
          rw [ends_lf]
          refine ⟨_, rfl, ?_⟩
          by_cases hl : z.cps.toList.getLast? = some 10
          · rw [decide_eq_true hl]
            refine iteF ⟨_, rfl, q o (by rw [if_neg (fun y => y.2 hl)]) H2 p (s1.trans s2) (Same.free s1 np) hp⟩
          · rw [decide_eq_false hl]
            refine iteT ⟨_, rfl, _, rfl, Nat.le_of_lt (szl hz), ?_⟩
            have hf := qe z.cps.toList.length (by rw [if_pos ⟨h0, hl⟩])
            rw [len_cps] at hf
            exact mk_leaf rfl (Nat.le_refl _) (Fails.later hf (s1.trans s2))
      · rw [hp] at qe
        exact Fails.later (qe p rfl) s1
    · rcases hno with ⟨z, rfl, hz, hall⟩ | ⟨t, ht, hk⟩
      · refine ⟨_, rfl, _, rfl, .inl ⟨z, rfl, hz, fun H1 s1 => ?_⟩⟩
        rw [hall]
        exact ⟨_, rfl, iteT (mk_leaf rfl (by decide) (Fails.later qe s1))⟩
      · exact ⟨_, rfl, _, rfl, .inr ⟨t, ht, hk, _, rfl, iteT (mk_leaf rfl (by decide) qe)⟩⟩
theorem ok_read_by0 {f : Addr} {fd : FuncData} {C WR RD fR : Addr} {fdR : FuncData} {psR : List Str} {kk : Nat} {code : Str} (MNoCode : MkFld P w K mg base "NoCode" C "at") (F : Fun K "read_by" "read_by" sReadBy f fd) (R1 : Ready P w K mg base 2 "is_text" ["value"] (spLine K allSig)) (R2 : ReadyX P w K mg base 4 "_check_code" ["value"] (spCheckCodeX K C WR))
    (m_READERS : mg "READERS" = some (.ref RD)) (m_len : mg "len" = none) {es : Array DictEntry} {n : Nat} (D : KDict K w RD es n) {rw_ : Value} (hw : PySem.W.nsIn K WR code = some (some rw_)) (hs : PySem.W.nsIn K RD code = some (some (.ref fR)))
    (GR : FnOk P w K mg base CX0 kk fR fdR psR spNumbersOf) (hk4 : kk ≤ 6) (kR : PySem.W.keepIn K (.ref fR) = true) (bR : L2.Binds K fdR psR []) :
    FnOk P w K mg base (L2.CX P w) 7 f fd ["text", "code"] (spReadX K C code rdP) := by
  obtain ⟨f1, fd1, g1, k1, b1, G1⟩ := R1
  obtain ⟨f2, fd2, g2, k2, b2, G2⟩ := R2
  refine F.okX scReadBy (fun vs H Q E h => ?_) (fun cdv A outer s H vs Q E hr h => ?_)
  · obtain ⟨v, rfl, _⟩ := h
    rfl
  · obtain ⟨v, rfl, h⟩ := h
    have sc := scReadBy
    refine ⟨_, pss_cons (ps_if (pt_not (pt_val (pe_call G1 (hr.mono (by decide)) (by rfl) g1 k1 b1 .nil pass0 (pa_cons (pv 0) pa_nil))))
        (pss_one (ps_raise rfl (takes_of rfl rfl rfl rfl) (pmk_fld MNoCode (hr.mono (by decide)) (by rfl) (pa_cons pe_str pa_nil) [.int 0] (.inr rfl))))
        pss_nil)
      (pss_cons (ps_expr (pe_call G2 (hr.mono (by decide)) (by rfl) g2 k2 b2 .nil (E := E) (passes_call (takes_of rfl rfl rfl rfl) (fun _ _ _ _ h => h)) (pa_cons (pv 1) pa_nil)))
      (pss_cons (ps_set (i := 2) sc.nd rfl (.inl rfl) (pe_ix ix_kdict (pe_glob (v := .ref RD) rfl m_READERS rfl) (pv 1) (fun _ _ => rfl)))
      (pss_cons (ps_set (i := 3) sc.nd rfl (.inl rfl) (pe_callL (i := 2) GR (hr.mono hk4) rfl (by first | exact .inl rfl | exact .inr (.inl rfl) | exact .inr (.inr rfl)) kR bR .nil pass0 (pa_cons (pv 0) pa_nil)))
      (pss_cons (ps_if (PW.pt (pw_and (pt_cmpR op_ne (pv 0) pe_str (nomark _)) (pw_and1 (pt_not (pt_val (pe_bm PySem.F.plainAttrs_str PySem.F.slot_str_endswith PySem.F.type_str_endswith mt_endswith (pv 0) (pa_cons pe_str pa_nil)))))))
        (pss_one (ps_raise rfl (takes_of rfl rfl rfl rfl) (pmk_fld MNoCode (hr.mono (by decide)) (by rfl) (pa_cons pe_str (pa_cons (pe_callB call_len_str (by rfl) m_len PySem.boot_len (pa_cons (pv 0) pa_nil)) pa_nil)) [] (.inl rfl))))
        pss_nil)
      (pss_one (ps_ret (pv 3))))))), ?_⟩
    rcases h with ⟨z, rfl, hz, hall, q, qe⟩ | ⟨hno, qe⟩
    · refine ⟨_, rfl, _, rfl, .inl ⟨z, rfl, hz, fun H1 s1 => ?_⟩⟩
      rw [hall]
      refine ⟨_, rfl, iteF ?_⟩
      refine ⟨_, rfl, _, rfl, .inl ⟨_, _, rfl, hw, fun _ => ?_, fun z => by cases z⟩⟩
      refine ⟨_, rfl, RD, code, .ref fR, rfl, rfl, ⟨es, n, .ref fR, D.at_, D.lit, hs, rfl⟩, ?_⟩
      unfold readBy at q qe
      refine ⟨rfl, _, rfl, z, rfl, hz, fun H2 p s2 np hp => ?_⟩
      · unfold rdP at q qe
        dsimp only at q qe
        have e10 : ("" : Str) = mk [] := by decide +kernel
        refine ⟨_, rfl, rfl, _, rfl, ?_⟩
        by_cases h0 : z.cps.toList = []
        · have ez : z = ("" : Str) := by rw [e10, ← h0, mk_of]
          refine iteNS (congrArg V.str ez) (iteF ?_)
          exact ⟨_, rfl, q _ (by rw [if_neg (fun y => y.1 h0)]) H2 p (s1.trans s2) (Same.free s1 np) hp⟩
        · rw [decide_eq_false (fun y => h0 (by rw [V.str.inj y]; decide +kernel))]
          refine iteT ⟨_, rfl, rfl, _, _, rfl, rfl, ?_⟩
          rw [ends_lf]
          refine ⟨_, rfl, ?_⟩
          by_cases hl : z.cps.toList.getLast? = some 10
          · rw [decide_eq_true hl]
            refine iteF ⟨_, rfl, q _ (by rw [if_neg (fun y => y.2 hl)]) H2 p (s1.trans s2) (Same.free s1 np) hp⟩
          · rw [decide_eq_false hl]
            refine iteT ⟨_, rfl, _, rfl, Nat.le_of_lt (szl hz), ?_⟩
            have hf := qe z.cps.toList.length (by rw [if_pos ⟨h0, hl⟩])
            rw [len_cps] at hf
            exact mk_leaf rfl (Nat.le_refl _) (Fails.later hf (s1.trans s2))
    · rcases hno with ⟨z, rfl, hz, hall⟩ | ⟨t, ht, hk⟩
      · refine ⟨_, rfl, _, rfl, .inl ⟨z, rfl, hz, fun H1 s1 => ?_⟩⟩
        rw [hall]
        exact ⟨_, rfl, iteT (mk_leaf rfl (by decide) (Fails.later qe s1))⟩
      · exact ⟨_, rfl, _, rfl, .inr ⟨t, ht, hk, _, rfl, iteT (mk_leaf rfl (by decide) qe)⟩⟩
/-- written by any of the three codes -/
def spWr3 (K : PySem.W.Frag) (C CN : Addr) : Sp := fun vs H Q E => ∃ (c : Cd) (v : V), vs = [v, .str c.word] ∧ ((∃ a l, v = .ref a ∧ H a = some (.lst (iv l)) ∧ OctL l ∧ (c.can l = true → ∀ H', Same H H' → Q (.str (mk (c.wr l))) H') ∧ (c.can l = false → Fails C "at" 0 H E)) ∨ (NoOctC K H v ∧ ∀ H', Same H H' → E (.ref CN) none H'))
theorem ok_written3 {f : Addr} {fd : FuncData} {C CN : Addr} (F1 : FnOk P w K mg base (L2.CX P w) 5 f fd ["octets", "code"] (spWrittenP K C CN)) (F2 : FnOk P w K mg base (L2.CX P w) 5 f fd ["octets", "code"] (spWrittenX K CN "sixes" lines6)) (F3 : FnOk P w K mg base (L2.CX P w) 5 f fd ["octets", "code"] (spWrittenX K CN "marks" marksL)) :
    FnOk P w K mg base (L2.CX P w) 5 f fd ["octets", "code"] (spWr3 K C CN) := by
  refine (fnok_or (fnok_or F1 F2) F3).imp fun vs H Q E h => ?_
  obtain ⟨c, v, rfl, h⟩ := h
  cases c with
  | pl => exact .inl (.inl ⟨v, rfl, h⟩)
  | sx => exact .inl (.inr ⟨v, rfl, h.imp (fun ⟨a, l, e, hH, ol, q, _⟩ => ⟨a, l, e, hH, ol, q rfl⟩) id⟩)
  | mr => exact .inr ⟨v, rfl, h.imp (fun ⟨a, l, e, hH, ol, q, _⟩ => ⟨a, l, e, hH, ol, q rfl⟩) id⟩
def spRd3 (K : PySem.W.Frag) (C : Addr) : Sp := fun vs H Q E => ∃ c : Cd, spReadX K C c.word c.rd vs H Q E
theorem ok_read3 {f : Addr} {fd : FuncData} {C : Addr} (F1 : FnOk P w K mg base (L2.CX P w) 7 f fd ["text", "code"] (spReadX K C "plain" rdP)) (F2 : FnOk P w K mg base (L2.CX P w) 7 f fd ["text", "code"] (spReadX K C "sixes" read6)) (F3 : FnOk P w K mg base (L2.CX P w) 7 f fd ["text", "code"] (spReadX K C "marks" readMk)) :
    FnOk P w K mg base (L2.CX P w) 7 f fd ["text", "code"] (spRd3 K C) := by
  refine (fnok_or (fnok_or F1 F2) F3).imp fun vs H Q E h => ?_
  obtain ⟨c, h⟩ := h
  cases c with
  | pl => exact .inl (.inl h)
  | sx => exact .inl (.inr h)
  | mr => exact .inr h
theorem x_read3 {C : Addr} (A : FnAt K mg "read_by" sReadBy) (h : ∀ f fd, Fun K "read_by" "read_by" sReadBy f fd → FnOk P w K mg base (L2.CX P w) 7 f fd ["text", "code"] (spRd3 K C)) : ReadyKX P w K mg base 7 "read_by" ["text", "code"] (spRd3 K C) (kbR K) :=
  readyKX_of A (fun _ _ _ _ _ _ us hl => match us, hl with | [_, _], _ => rfl) (fun f fd F => kbr_of F fun _ _ _ _ _ _ a b => rfl) h
end
end FL


namespace FL
open PySem PySem.Spec PyProof.Rows L2
/-! ### several except clauses, the first one with a name, and sure to take what the body raises -/
/-- how a suite under `as n` ends: the name is gone -/
def goneE (i : Nat) (D : Ends) : Ends := { nx := fun σ H => D.nx (σ.set i none) H, rt := D.rt, bk := fun σ H => D.bk (σ.set i none) H, ct := fun σ H => D.ct (σ.set i none) H }
def wSure (K : PySem.W.Frag) (c : Value) (i : Nat) (ts : Addr → Value → Option Addr → TS) (D : Ends) : WX := fun cls d σ H =>
  PySem.W.exmOne K cls c = some true ∧ ∀ a, H a = none → ts a cls d (goneE i D) (σ.set i (some (.ref a))) H
section
variable {X : Cx} {x n : Str} {c : Value} {i : Nat} {body suite : List Stmt} {b₀ : Stmt} {np pos pos' : Pos} {tb : WX → TS} {ts : Addr → Value → Option Addr → TS} {more : List ExceptHandler}
/-- the suite's end is the statement's, once the name is gone -/
theorem end_gone {pins : List (Addr × Obj)} {a : Addr} {p : Addr × Obj} {D : Ends} (ok : X.Ok) (hN : X.N.Nodup) (hi : X.N[i]? = some n) (hln : X.env.kindOf n = some .local) {f : Flow} {s : Shared} (h : SP (X.suite a (p :: (X.pn ++ pins))) [] (goneE i D) f s) :
    wpAny (model X.prog X.w) X.A (do bindName X.env n .none; unbindBehindTheSuite X.env n pos') (fun _ s7 => SP X pins D f s7) X.xe s := by
  cases f with
  | next =>
    obtain ⟨σ, H, S, q⟩ := h
    exact gone_ok (S.unsuite ok) hN hi hln fun s7 J => ⟨_, _, J, q⟩
  | brk =>
    obtain ⟨σ, H, S, q⟩ := h
    exact gone_ok (S.unsuite ok) hN hi hln fun s7 J => ⟨_, _, J, q⟩
  | cont =>
    obtain ⟨σ, H, S, q⟩ := h
    exact gone_ok (S.unsuite ok) hN hi hln fun s7 J => ⟨_, _, J, q⟩
  | ret u =>
    obtain ⟨v, σ, H, S, r, q⟩ := h
    exact gone_ok (S.unsuite ok) hN hi hln fun s7 J => ⟨_, _, _, J, r, q⟩
/-- the body's end is the statement's -/
theorem end_body {pins : List (Addr × Obj)} {pn : List (Addr × Obj)} {xe : Value → Shared → Prop} {D : Ends} (ok : X.Ok) {f : Flow} {s : Shared} (h : SP (X.tr (X.pn ++ pins) xe) [] D f s) : f ≠ .next → SP X pins D f s := by
  intro hf
  cases f with
  | next => exact absurd rfl hf
  | brk =>
    obtain ⟨σ, H, J, q⟩ := h
    exact ⟨σ, H, J.ofTry ok, q⟩
  | cont =>
    obtain ⟨σ, H, J, q⟩ := h
    exact ⟨σ, H, J.ofTry ok, q⟩
  | ret u =>
    obtain ⟨v, σ, H, J, r, q⟩ := h
    exact ⟨v, σ, H, J.ofTry ok, r, q⟩
theorem ps_try_first (hs : X.stack = X.env :: X.outer) (hf : X.env.frame = some X.env.locals) (hN : X.N.Nodup) (hi : X.N[i]? = some n) (hln : X.env.kindOf n = some .local) (hc : Names X x c)
    (hb : ∀ (W : WX) (pn : List (Addr × Obj)) (xe : Value → Shared → Prop), Takes (X.tr pn xe) W → PassesOwn (model X.prog X.w) X.A X.env xe → PSs (X.tr pn xe) body (tb W))
    (hsu : ∀ (a : Addr) (oe : Obj) (cls : Value) (d : Option Addr) (pn : List (Addr × Obj)), Zc cls d oe → (∃ vs, oe.data = .fields vs) → PSs (X.suite a ((a, oe) :: pn)) (b₀ :: suite) (ts a cls d)) :
    PS X (.Try body (.ExceptHandler (some (.Name x np)) (some n) (b₀ :: suite) pos' :: more) [] [] pos) (fun D σ H => tb (wSure X.K c i ts D) D σ H) := by
  refine ⟨fun pins s σ H D I h => ?_⟩
  have ok := I.ok
  have hfr : X.A.frames = some (X.env :: X.outer) := by rw [ok.frames, hs]
  refine wpAny_Try_except ?_
  have bodyRun := (hb (wSure X.K c i ts D) (X.pn ++ pins) (fun e s₁ => wpAny (model X.prog X.w) X.A (noteFrame e X.env) (fun _ s₂ => wpAny (model X.prog X.w) X.A (setFlight e none) (fun _ s₃ =>
    wpAny (model X.prog X.w) X.A (handleBy e X.env (.ExceptHandler (some (.Name x np)) (some n) (b₀ :: suite) pos' :: more)) (SP X pins D) X.xe s₃) X.xe s₂) X.xe s₁) (fun u s' xx => ?land) PassesOwn.looking).run [] s σ H D (I.toTry _) h
  · refine wpAny_mono bodyRun (fun f s1 q => ?_) fun e s1 z => z
    cases f with
    | next =>
      obtain ⟨σ', H', J', q⟩ := q
      exact wpAny_execs_nil ⟨σ', H', J'.ofTry ok, q⟩
    | brk => exact end_body (pn := []) ok q (by simp)
    | cont => exact end_body (pn := []) ok q (by simp)
    | ret u => exact end_body (pn := []) ok q (by simp)
  case land =>
    obtain ⟨a, B, sI, pins', σ', H', cls, d, rfl, J', nb, up, sky, na, os, ag, hm, hsuite⟩ := xx
    have J : Inv X pins σ' H' sI := J'.ofTry ok
    rw [hs] at sky
    show wpAny (model X.prog X.w) X.A (noteFrame (.ref a) X.env) _ _ _
    refine Sky.land Zc.steady hfr hf sky fun h3 fl3 up3 => ?_
    have J3 : Inv X pins σ' H' { s' with heap := h3 } := J.landed nb fl3.1 (up.trans up3) os ag
    obtain ⟨oe3, vs3, he3, hz3, hd3⟩ := fl3.there
    have out : a ∉ frs (X.env :: X.outer) := fun hmem => by
      obtain ⟨_, o', e', hnf⟩ := fl3.2.2.1.mem hmem
      rw [he3] at e'
      cases e'
      exact hnf _ hd3
    have nL : a ≠ X.env.locals := fun z => out (List.mem_filterMap.mpr ⟨X.env, List.mem_cons_self, by rw [hf, z]⟩)
    have nF : a ∉ X.fs := fun hmem => by
      obtain ⟨e, he, q⟩ := List.mem_filterMap.mp hmem
      exact out (List.mem_filterMap.mpr ⟨e, List.mem_cons_of_mem _ he, q⟩)
    have S3 := J3.suite he3 hd3 na nL nF
    have LM := PySem.W.exm_one (M := model X.prog X.w) J3.kIn (fun A Q E s k q => wpAny_typeOf_ref (k _ _ he3) (by rw [hz3.1]; exact q)) hm
    refine wpAny_handleBy_cons (codeAny_handlers_test ?_) (by intro q; cases q)
    have hit : ∀ {Q : Value → Shared → Prop} {E : Value → Shared → Prop}, Q c { s' with heap := h3 } → wpAny (model X.prog X.w) (X.A.mark (some (.ref a))) (eval (.Name x np) X.env) Q E { s' with heap := h3 } := fun q => by
      obtain ⟨hg, hdbg, hmg | ⟨hmg, hv, hnn⟩⟩ := hc
      · exact ld_glob (X := X.suite a ((a, oe3) :: (X.pn ++ pins))) S3 hg hmg q hdbg
      · exact ld_blt (X := X.suite a ((a, oe3) :: (X.pn ++ pins))) S3 hg hmg hv q hnn hdbg
    refine hit (LM.here ?_)
    refine codeAny_handlers_suite_as (HandSPX.lands_againZ fl3 fun h4 fl4 up4 => ?_)
    have J4 : Inv X pins σ' H' { s' with heap := h4 } := J.landed nb fl4.1 ((up.trans up3).trans up4) os ag
    obtain ⟨oe4, vs4, he4, hz4, hd4⟩ := fl4.there
    have S4 := J4.suite he4 hd4 na nL nF
    refine store_ok (X := X.suite a ((a, oe4) :: (X.pn ++ pins))) (v := .ref a) S4 hN hi (.inl hln) rfl (fun s5 S5 => ?_) (.inr hln)
    exact wpAny_mono ((hsu a oe4 cls d (X.pn ++ pins) hz4 ⟨_, hd4⟩).run [] s5 _ H' _ S5 (hsuite a na)) (fun f s6 q => end_gone (p := (a, oe4)) ok hN hi hln q) fun _ _ z => z.elim
end
end FL


namespace FL
open PySem PySem.Spec PyProof.Rows L2
theorem kit_ve {K : PySem.W.Frag} {C : Addr} (s : PySem.W.subIn K (.ref C) (.type "ValueError") = some true) : PySem.W.kitOne K (.ref C) (.type "ValueError") = some true := by
  unfold PySem.W.kitOne
  rw [if_neg (by intro h; cases h)]
  show (if PySem.W.kitMeta "ValueError" = true then PySem.W.subIn K (.ref C) (.type "ValueError") else none) = some true
  rw [if_pos (by decide +kernel)]
  exact s
end FL


namespace FL
open PySem PySem.Spec PyProof.Rows L2
/-! ### e.replace(text, a + b) -/
theorem add_fresh {prog : Program} {w : World} {A : Around} {E : Value → Shared → Prop} {s : Shared} {x y : Str} {t u : Tok} {Q : Value → Shared → Prop} (hx : 0 < x.length) (hy : 0 < y.length) (hsz : x.length + y.length ≤ sizeLine)
    (h : Q (.str (x ++ y) s.toks) { s with toks := s.toks + 1 }) : wpAny (model prog w) A (binaryOp .Add (.str x t) (.str y u)) Q E s := by
  refine binaryOp_concat (typeIs_str s x t) (typeIs_str s y u) PySem.noFill_str_add PySem.seq_str_add ?_
  refine wpAny_call_entry slot_str_add (typeIs_str s x t) entry_str_add ?_ (args_str_add _ _)
  show wpAny _ _ (do
    if (true && x.length == 0) = true then (do rule "str.__add__.left-empty"; ret (.str y u)) else
    if (true && y.length == 0) = true then (do rule "str.__add__.right-empty"; ret (.str x t)) else
    retStr (x ++ y)) _ _ s
  have e1 : (true && x.length == 0) = false := by simp; intro z; rw [z] at hx; exact absurd hx (Nat.lt_irrefl 0)
  have e2 : (true && y.length == 0) = false := by simp; intro z; rw [z] at hy; exact absurd hy (Nat.lt_irrefl 0)
  rw [if_neg (by rw [e1]; exact Bool.false_ne_true), if_neg (by rw [e2]; exact Bool.false_ne_true)]
  exact wpAny_bind (wpAny_mkStr (wpAny_pure ⟨_, rfl, h⟩) (by rw [strLen_append]; exact hsz))
def tReplA (to ta tb : TE) (y : Str) : TE := fun σ H Q => to σ H fun v H1 => ∃ x, v = .str x ∧ ta σ H1 fun va H2 => tb σ H2 fun vb H3 => ∃ i j, va = .str i ∧ vb = .str j ∧ 0 < i.length ∧ 0 < j.length ∧ i.length + j.length ≤ sizeLine ∧ (y == i ++ j) = false ∧
  x.length + (x.length + 1) * (i ++ j).length ≤ 16777216 ∧ Q (.str (Txt.replace x y (i ++ j))) H3
section
variable {X : Cx} {o a b : Expr} {to ta tb : TE} {y : Str} {j : Nat} {c0 apos pos pb : Pos}
theorem pet_replA (ho : PE X o to) (ha : PE X a ta) (hb : PE X b tb)
    (hst : starEach [.Constant (.str y) j c0, .BinOp a .Add b pb] X.env = [(false, eval (.Constant (.str y) j c0) X.env), (false, eval (.BinOp a .Add b pb) X.env)] := by rfl)
    (hbase : attributeBase o "replace" X.env (eval o X.env) = eval o X.env := by rfl) (hline : (apos.endLine == pos.line) = true := by rfl) :
    PET X (.Call (.Attribute o "replace" apos) [.Constant (.str y) j c0, .BinOp a .Add b pb] [] pos) (tReplA to ta tb y) := by
  intro pins s σ H Q h0 I h
  refine PySem.Call_method2 hbase hst hline (wpAny_mono (PySem.wpAny_toks (ho.run pins s σ H _ I h)) (fun v s1 q => ?_) fun _ _ z => z.2)
  obtain ⟨hk, v', H1, I1, r1, x, e1, q⟩ := q
  subst e1
  obtain ⟨tx, e2⟩ := r1
  subst e2
  refine ⟨"str", _, PySem.F.plainAttrs_str, PySem.F.slot_str_replace, PySem.F.type_str_replace, typeIs_str _ _ _, (fun _ e => nomatch e), Calls.callWith_builtin rfl (Calls.evalArgs_plain (Calls.spliced_cons ?_))⟩
  refine Calls.Constant_str (Calls.spliced_cons ?_)
  refine wpAny_BinOp (wpAny_mono (PySem.wpAny_toks (ha.run pins { s1 with toks := s1.toks + 1 } σ H1 _ (I1.tok _) q)) (fun v s2 q => ?_) fun _ _ z => z.2)
  obtain ⟨hk2, va, H2, I2, r2, q⟩ := q
  refine wpAny_mono (PySem.wpAny_toks (hb.run pins s2 σ H2 _ I2 q)) (fun u s3 q => ?_) fun _ _ z => z.2
  obtain ⟨hk3, vb, H3, I3, r3, i, j, e1, e2, hi, hj, hs, hyz, hb16, qq⟩ := q
  subst e1
  subst e2
  obtain ⟨ti, e3⟩ := r2
  obtain ⟨tj, e4⟩ := r3
  subst e3
  subst e4
  have hk2 : s1.toks + 1 ≤ s2.toks := hk2
  refine add_fresh hi hj hs (Calls.spliced_nil ?_)
  exact PySem.SC.replace (by show s1.toks ≠ 0; omega) (by show s3.toks ≠ 0; omega) (by show s1.toks ≠ s3.toks; omega) hyz hb16 fun t' k => ⟨.str (Txt.replace x y (i ++ j)), H3, I3.tok k, ⟨t', rfl⟩, qq⟩
end
end FL


namespace FL
open PySem PySem.Spec PyProof.Rows L2
/-! ### a text's lines -/
def spl : List Nat → List Nat × List (List Nat)
  | [] => ([], [])
  | c :: r => if c = 10 then ([], (spl r).1 :: (spl r).2) else (c :: (spl r).1, (spl r).2)
theorem spl_join : ∀ l : List Nat, l = TL.joinL [10] ((spl l).1 :: (spl l).2)
  | [] => rfl
  | c :: r => by
    have ih := spl_join r
    unfold spl
    by_cases h : c = 10
    · rw [if_pos h]
      show c :: r = [] ++ ([10] ++ TL.joinL [10] ((spl r).1 :: (spl r).2))
      rw [← ih, h]
      rfl
    · rw [if_neg h]
      show c :: r = TL.joinL [10] ((c :: (spl r).1) :: (spl r).2)
      have : TL.joinL [10] ((c :: (spl r).1) :: (spl r).2) = c :: TL.joinL [10] ((spl r).1 :: (spl r).2) := by
        cases (spl r).2 <;> simp [TL.joinL]
      rw [this, ← ih]
theorem spl_no : ∀ l : List Nat, ∀ q ∈ (spl l).1 :: (spl l).2, 10 ∉ q
  | [], q, hq => by
    rw [show q = [] from List.mem_singleton.mp hq]
    simp
  | c :: r, q, hq => by
    have ih := spl_no r
    unfold spl at hq
    by_cases h : c = 10
    · rw [if_pos h] at hq
      rcases List.mem_cons.mp hq with rfl | hq
      · simp
      · exact ih q hq
    · rw [if_neg h] at hq
      rcases List.mem_cons.mp hq with rfl | hq
      · intro z
        rcases List.mem_cons.mp z with z | z
        · exact h z.symm
        · exact ih _ (List.mem_cons_self ..) z
      · exact ih q (List.mem_cons_of_mem _ hq)
theorem spl_le : ∀ l : List Nat, ∀ q ∈ (spl l).1 :: (spl l).2, q.length ≤ l.length
  | [], q, hq => by
    rw [show q = [] from List.mem_singleton.mp hq]
    simp
  | c :: r, q, hq => by
    have ih := spl_le r
    unfold spl at hq
    by_cases h : c = 10
    · rw [if_pos h] at hq
      rcases List.mem_cons.mp hq with rfl | hq
      · simp
      · have := ih q hq
        rw [List.length_cons]
        omega
    · rw [if_neg h] at hq
      rcases List.mem_cons.mp hq with rfl | hq
      · have := ih _ (List.mem_cons_self ..)
        rw [List.length_cons, List.length_cons]
        omega
      · have := ih q (List.mem_cons_of_mem _ hq)
        rw [List.length_cons]
        omega
theorem split_lf {ps : List (List Nat)} (hne : ps ≠ []) (hp : ∀ p ∈ ps, 10 ∉ p) : Txt.split (mk (TL.joinL [10] ps)) ("\n" : Str) = ps.map mk := by
  have hu : ("\n" : Str) = mk [10] := by decide +kernel
  have hj : mk (TL.joinL [10] ps) = Txt.join ("\n" : Str) (ps.map mk) := by
    symm
    refine mk_eq ?_
    show TL.tl _ = _
    rw [TL.join_eq, TL.tl_join]
    have e : TL.tl ("\n" : Str) = [10] := by
      show ("\n" : Str).cps.toList = [10]
      rw [hu, mk_codes]
    rw [e, List.map_map]
    congr 1
    exact (List.map_congr_left (fun p _ => mk_codes p)).trans (List.map_id _)
  rw [hj]
  refine TL.split_join (s := 10) (S := []) ?_ ?_ (by simpa using hne) fun p h => ?_
  · show ("\n" : Str).cps.toList = [10]
    rw [hu, mk_codes]
  · rw [hu]
    show (#[10] : Array Nat).all (· < 256) = true
    simp
  · obtain ⟨q, hq, rfl⟩ := List.mem_map.mp h
    show 10 ∉ (mk q).cps.toList
    rw [mk_codes]
    exact hp q hq
theorem atI_last {α : Type} (xs : List α) : atI xs (-1) = xs.getLast? := by
  unfold atI
  rw [show ixN xs.length (-1) = if xs.length = 0 then none else some (xs.length - 1) by
    unfold ixN
    by_cases h : xs.length = 0
    · simp [h]
    · rw [if_neg (by decide)]
      simp [h]
      omega]
  cases xs with
  | nil => rfl
  | cons a r => simp [List.getLast?_eq_getElem?]
end FL


namespace FL
open PySem PySem.Spec PyProof.Rows L2
/-! ### blanks at the ends -/
def is32 (c : Nat) : Bool := decide (c = 32)
def lst32 (l : List Nat) : List Nat := l.dropWhile is32
def stripL (l : List Nat) : List Nat := (lst32 (lst32 l).reverse).reverse
theorem drop_tw (p : Nat → Bool) : ∀ l : List Nat, l.drop (l.takeWhile p).length = l.dropWhile p
  | [] => rfl
  | c :: r => by
    by_cases h : p c = true
    · rw [List.takeWhile_cons, if_pos h, List.dropWhile_cons, if_pos h]
      exact drop_tw p r
    · rw [List.takeWhile_cons, if_neg h, List.dropWhile_cons, if_neg h]
      rfl
theorem blank_has : (" " : Str).cps.contains = is32 := by
  funext c
  have e : (" " : Str).cps = #[32] := by decide +kernel
  rw [e]
  unfold is32
  by_cases h : c = 32
  · subst h
    simp
  · simp [h]
theorem strip_codes (x : Str) : (Txt.stripChars x (" " : Str)).cps.toList = stripL x.cps.toList := by
  unfold Txt.stripChars
  rw [blank_has, PyProof.Rows.stripBy_eq, PySem.StrLaws.strSub_toList]
  unfold PySem.stripHi PySem.stripLo
  rw [if_pos rfl, if_pos rfl, drop_tw]
  have hx := len_cps x
  generalize x.cps.toList = l at hx ⊢
  unfold stripL lst32
  generalize hM : l.dropWhile is32 = M
  have hlen : M.length = l.length - (l.takeWhile is32).length := by
    rw [← hM, ← drop_tw, List.length_drop]
  have h1 : (M.reverse.takeWhile is32).length ≤ M.length := by
    have := (List.takeWhile_prefix (p := is32) (l := M.reverse)).length_le
    rwa [List.length_reverse] at this
  rw [← drop_tw is32 M.reverse, ← hx]
  rw [show l.length - (M.reverse.takeWhile is32).length - (l.takeWhile is32).length = M.length - (M.reverse.takeWhile is32).length by omega]
  rw [List.drop_reverse, List.reverse_reverse]
theorem strip_len (x : Str) : (Txt.stripChars x (" " : Str)).length ≤ x.length := PyProof.Rows.len_stripChars _ _
def noBlank (l : List Nat) : Bool := decide (l.head? ≠ some 32)
theorem lst32_id {l : List Nat} : lst32 l = l ↔ l.head? ≠ some 32 := by
  unfold lst32
  cases l with
  | nil => simp
  | cons c r =>
    rw [List.dropWhile_cons]
    by_cases h : c = 32
    · subst h
      have e : is32 32 = true := rfl
      rw [if_pos e]
      constructor
      · intro z
        have := congrArg List.length z
        have h2 := (List.dropWhile_suffix (l := r) is32).length_le
        rw [List.length_cons] at this
        omega
      · intro z
        exact absurd rfl z
    · have e : is32 c = false := decide_eq_false h
      rw [e, if_neg Bool.false_ne_true]
      simp [h]
theorem lst32_head (l : List Nat) : (lst32 l).head? ≠ some 32 := by
  unfold lst32
  induction l with
  | nil => simp
  | cons c r ih =>
    rw [List.dropWhile_cons]
    by_cases h : c = 32
    · subst h
      have e : is32 32 = true := rfl
      rw [if_pos e]
      exact ih
    · have e : is32 c = false := decide_eq_false h
      rw [e, if_neg Bool.false_ne_true]
      simp [h]
/-- no blank at its begin or its end -/
def trim (l : List Nat) : Prop := l.head? ≠ some 32 ∧ l.reverse.head? ≠ some 32
theorem stripL_id {l : List Nat} : stripL l = l ↔ trim l := by
  constructor
  · intro h
    have h1 : l.reverse.head? ≠ some 32 := by
      rw [← h]
      unfold stripL
      rw [List.reverse_reverse]
      exact lst32_head _
    refine ⟨?_, h1⟩
    have hl := congrArg List.length h
    have a1 : (lst32 l).length ≤ l.length := (List.dropWhile_suffix (l := l) is32).length_le
    have a2 : (stripL l).length ≤ (lst32 l).length := by
      unfold stripL
      rw [List.length_reverse]
      have := (List.dropWhile_suffix (l := (lst32 l).reverse) is32).length_le
      rwa [List.length_reverse] at this
    have e : lst32 l = l := (List.dropWhile_suffix (l := l) is32).eq_of_length (by
      show (lst32 l).length = l.length
      omega)
    exact lst32_id.mp e
  · intro h
    unfold stripL
    rw [lst32_id.mpr h.1, lst32_id.mpr h.2, List.reverse_reverse]
theorem trim_strip (l : List Nat) : trim (stripL l) := by
  unfold stripL trim
  rw [List.reverse_reverse]
  refine ⟨?_, lst32_head _⟩
  generalize hm : lst32 l = m
  have hh : m.head? ≠ some 32 := hm ▸ lst32_head l
  have hp : (lst32 m.reverse).reverse <+: m := by
    have := List.reverse_prefix.mpr (List.dropWhile_suffix (l := m.reverse) is32)
    rwa [List.reverse_reverse] at this
  obtain ⟨t, ht⟩ := hp
  intro z
  apply hh
  rw [← ht]
  cases hq : (lst32 m.reverse).reverse with
  | nil => rw [hq] at z; simp at z
  | cons a b => rw [hq] at z; simpa using z
theorem strip_sub (l : List Nat) : ∀ c ∈ stripL l, c ∈ l := fun c hc => by
  unfold stripL lst32 at hc
  have h1 := (List.dropWhile_suffix (l := (l.dropWhile is32).reverse) is32).subset (List.mem_reverse.mp hc)
  exact (List.dropWhile_suffix (l := l) is32).subset (List.mem_reverse.mp h1)
/-! ### names and values -/
def isNmS (c : Nat) : Bool := isLet c || (isFig c || decide (c = 45))
def isNm (l : List Nat) : Bool := isLn l && (decide (1 ≤ l.length ∧ l.length ≤ 30) && (isLet (l.getD 0 0) && l.all isNmS))
def isVal (l : List Nat) : Bool := isLn l && decide (stripL l = l)
section
variable {P : Program} {w : World} {K : PySem.W.Frag} {mg : Str → Option Value} {base : Heap}
end
end FL


namespace FL
open PySem PySem.Spec PyProof.Rows L2
theorem cutV_none (xs : List V) (j : Nat) : cutV xs (some ((0 : Nat) : Int)) (some (j : Nat)) = cutV xs none (some (j : Nat)) := by
  unfold cutV
  rw [HT.sIx_nat, HT.sIx_nat, Nat.zero_min]
  rfl
theorem cutV_drop (l : List Nat) (i : Nat) : cutV (iv l) (some (i : Nat)) none = iv (l.drop i) := by
  unfold cutV
  rw [HT.sIx_nat]
  show ((iv l).drop (min i (iv l).length)).take ((iv l).length - min i (iv l).length) = _
  by_cases h : i ≤ (iv l).length
  · rw [Nat.min_eq_left h, List.take_of_length_le (by rw [List.length_drop]; exact Nat.le_refl _), ← iv_drop]
  · rw [Nat.min_eq_right (by omega : (iv l).length ≤ i), List.drop_eq_nil_of_le (Nat.le_refl (iv l).length), List.drop_eq_nil_of_le (by rw [iv_len] at h; omega : l.length ≤ i)]
    simp [iv]
theorem drawn_newL {a p : Addr} {H H1 : Hp} {o : HO} (x : Drawn a H H1) (n : H1 p = none) : Drawn a H (upd H1 p o) := x.same (same_new n)
/-- drawn from a since H; at fp stands o -/
structure DS (a : Addr) (H : Hp) (fp : Addr) (o : HO) (Hc : Hp) : Prop where
  d : Drawn a H Hc
  f : Hc fp = some o
  n : fp ≠ a
theorem DS.new {a fp q : Addr} {H Hc : Hp} {o x : HO} (s : DS a H fp o Hc) (nq : Hc q = none) : DS a H fp o (upd Hc q x) := ⟨drawn_newL s.d nq, by rw [upd_ne (ne_of_none s.f nq)]; exact s.f, s.n⟩
theorem DS.draw {a fp : Addr} {H Hc H' : Hp} {o : HO} (s : DS a H fp o Hc) (dr : Drawn a Hc H') : DS a H fp o H' := ⟨s.d.trans dr, dr.old _ _ s.n s.f, s.n⟩
theorem Src.ne {H : Hp} {a q : Addr} (s : Src H a) (n : H q = none) : q ≠ a := fun e => by
  obtain ⟨x, y, z, h⟩ := s
  rw [e, h] at n
  cases n
/-- a thing drawn: its number is less than m -/
def spNextD : Sp := fun vs H Q _ => ∃ (a : Addr) (m : Nat), vs = [.ref a, .int (m : Nat)] ∧ 1 ≤ m ∧ m ≤ 100000 ∧ Src H a ∧ ∀ (r : Nat) H', r < m → Drawn a H H' → Q (.int (r : Nat)) H'
section
variable {P : Program} {w : World} {K : PySem.W.Frag} {mg : Str → Option Value} {base : Heap}
theorem next_d (R : Ready P w K mg base 2 "_law_next" ["_law_source_here", "_law_many"] spNext) : Ready P w K mg base 2 "_law_next" ["_law_source_here", "_law_many"] spNextD := by
  obtain ⟨f, fd, g, k, b, G⟩ := R
  refine ⟨f, fd, g, k, b, G.imp fun vs H Q E h => ?_⟩
  obtain ⟨a, m, rfl, h1, h2, ⟨x, y, z, hs⟩, q⟩ := h
  exact ⟨a, m, x, y, z, rfl, h1, h2, hs, fun r x' z' hr => q r _ hr drawn_upd⟩
theorem pickN {r : Nat} {ms : List Nat} (h : r < ms.length) : atI (ms.map fun m => V.int (m : Nat)) (r : Int) = some (.int (ms[r]'h : Nat)) :=
  atI_nat (by rw [List.getElem?_map, List.getElem?_eq_getElem h]; rfl)
theorem pickP {p : V → Prop} {xs : List V} {r : Nat} (h : r < xs.length) (hp : ∀ v ∈ xs, p v) : ∃ v, atI xs (r : Int) = some v ∧ p v :=
  ⟨xs[r]'h, atI_nat (List.getElem?_eq_getElem h), hp _ (List.getElem_mem h)⟩
/-- a sign's number -/
def IsSg (v : V) : Prop := ∃ n : Nat, v = .int (n : Nat) ∧ 32 ≤ n ∧ n ≤ 65535
theorem isSg {n : Nat} {v : V} (e : v = .int (n : Nat)) (h1 : 32 ≤ n) (h2 : n ≤ 65535) : IsSg v := ⟨n, e, h1, h2⟩
def spLawSaying (K : PySem.W.Frag) : Sp := fun vs H Q _ => ∃ a : Addr, vs = [.ref a] ∧ Src H a ∧ ∀ H' p (l : List Nat), Drawn a H H' → H p = none → H' p = some (.lst (iv l)) → (∀ n ∈ l, 32 ≤ n ∧ n ≤ 65535) → l.length ≤ 200 → Q (.ref p) H'
theorem scLawSaying : FnScope ["_law_source_here", "_law_way", "_law_found", "_law_k", "_law_edge", "_law_near", "_law_plain", "_law_high", "_law_some", "_law_at"] ["_law_source_here"] (defScope sLawSaying) := ⟨rfl, rfl, rfl, by decide +kernel, rfl, by decide +kernel, by decide +kernel⟩
theorem r_law_saying (A : FnAt K mg "_law_saying" sLawSaying) (RN : Ready P w K mg base 2 "_law_next" ["_law_source_here", "_law_many"] spNext) (m_len : mg "len" = none) (m_range : mg "range" = none) :
    Ready P w K mg base 3 "_law_saying" ["_law_source_here"] (spLawSaying K) := by
  obtain ⟨f1, fd1, g1, k1, b1, G1⟩ := next_d RN
  refine ready_of A (fun _ _ _ _ _ _ us hl => match us, hl with | [_], _ => rfl) fun f fd F => ?_
  refine F.ok scLawSaying (fun vs H Q E h => ?_) (fun cdv A outer s H vs Q E hr h => ?_)
  · obtain ⟨a, rfl, _⟩ := h
    rfl
  · obtain ⟨a, rfl, hS, q⟩ := h
    have sc := scLawSaying
    refine ⟨_, pss_cons (ps_set (i := 1) sc.nd rfl (.inl rfl) (pe_call G1 (hr.mono (by decide)) (by rfl) g1 k1 b1 .nil pass0 (pa_cons (pv 0) (pa_cons pe_int pa_nil))))
      (pss_cons (ps_set (i := 2) sc.nd rfl (.inl rfl) (pe_lst pa_nil))
      (pss_cons (ps_for PassesOwn.never rfl (pi_range1 (by rfl) m_range (pa_cons (pe_call G1 (hr.mono (by decide)) (by rfl) g1 k1 b1 .nil pass0 (pa_cons (pv 0) (pa_cons (pe_ix ix_list (pe_lst (pa_cons pe_int (pa_cons pe_int (pa_cons pe_int (pa_cons pe_int pa_nil))))) (pe_call G1 (hr.mono (by decide)) (by rfl) g1 k1 b1 .nil pass0 (pa_cons (pv 0) (pa_cons pe_int pa_nil))) (fun _ _ => rfl)) pa_nil))) pa_nil)) (pg_name (i := 3) sc.nd rfl (.inl rfl))
        (pss_cons (ps_set (i := 4) sc.nd rfl (.inl rfl) (pe_ix ix_list (pe_lst (pa_cons pe_int (pa_cons pe_int (pa_cons pe_int (pa_cons pe_int (pa_cons pe_int (pa_cons pe_int (pa_cons pe_int (pa_cons pe_int (pa_cons pe_int (pa_cons pe_int (pa_cons pe_int (pa_cons pe_int pa_nil))))))))))))) (pe_call G1 (hr.mono (by decide)) (by rfl) g1 k1 b1 .nil pass0 (pa_cons (pv 0) (pa_cons pe_int pa_nil))) (fun _ _ => rfl)))
          (pss_cons (ps_set (i := 5) sc.nd rfl (.inl rfl) (pe_lst (pa_cons (pe_op op_add pe_int (pe_call G1 (hr.mono (by decide)) (by rfl) g1 k1 b1 .nil pass0 (pa_cons (pv 0) (pa_cons pe_int pa_nil)))) (pa_cons pe_int (pa_cons (pe_op op_add pe_int (pe_call G1 (hr.mono (by decide)) (by rfl) g1 k1 b1 .nil pass0 (pa_cons (pv 0) (pa_cons pe_int pa_nil)))) (pa_cons (pe_op op_add pe_int (pe_call G1 (hr.mono (by decide)) (by rfl) g1 k1 b1 .nil pass0 (pa_cons (pv 0) (pa_cons pe_int pa_nil)))) pa_nil))))))
          (pss_cons (ps_set (i := 6) sc.nd rfl (.inl rfl) (pe_ix ix_list (pv 5) (pe_call G1 (hr.mono (by decide)) (by rfl) g1 k1 b1 .nil pass0 (pa_cons (pv 0) (pa_cons pe_int pa_nil))) (fun _ _ => rfl)))
          (pss_cons (ps_set (i := 7) sc.nd rfl (.inl rfl) (pe_ix ix_list (pe_lst (pa_cons (pe_op op_add pe_int (pe_call G1 (hr.mono (by decide)) (by rfl) g1 k1 b1 .nil pass0 (pa_cons (pv 0) (pa_cons pe_int pa_nil)))) (pa_cons (pe_op op_add pe_int (pe_call G1 (hr.mono (by decide)) (by rfl) g1 k1 b1 .nil pass0 (pa_cons (pv 0) (pa_cons pe_int pa_nil)))) pa_nil))) (pe_call G1 (hr.mono (by decide)) (by rfl) g1 k1 b1 .nil pass0 (pa_cons (pv 0) (pa_cons pe_int pa_nil))) (fun _ _ => rfl)))
          (pss_cons (ps_set (i := 8) sc.nd rfl (.inl rfl) (pe_lst (pa_cons (pv 6) (pa_cons (pv 4) (pa_cons (pv 7) (pa_cons (pe_ix ix_list (pe_lst (pa_cons (pv 6) (pa_cons (pv 6) (pa_cons (pv 6) (pa_cons (pv 4) pa_nil))))) (pe_call G1 (hr.mono (by decide)) (by rfl) g1 k1 b1 .nil pass0 (pa_cons (pv 0) (pa_cons pe_int pa_nil))) (fun _ _ => rfl)) pa_nil))))))
          (pss_one (ps_expr (pe_bm PySem.F.plainAttrs_list PySem.F.slot_list_append PySem.F.type_list_append mt_append (pv 2) (pa_cons (pe_ix ix_list (pe_op op_cat (pv 8) (pe_lst (pa_cons (pe_ix ix_list (pe_lst (pa_cons (pv 6) (pa_cons (pv 7) pa_nil))) (pe_call G1 (hr.mono (by decide)) (by rfl) g1 k1 b1 .nil pass0 (pa_cons (pv 0) (pa_cons pe_int pa_nil))) (fun _ _ => rfl)) (pa_cons (pv 6) pa_nil)))) (pv 1) (fun _ _ => rfl)) pa_nil))))))))))
      (pss_cons (ps_if (pt_cmpR op_eq (pv 1) pe_int (nomark _))
        (pss_cons (ps_set (i := 9) sc.nd rfl (.inl rfl) (pe_call G1 (hr.mono (by decide)) (by rfl) g1 k1 b1 .nil pass0 (pa_cons (pv 0) (pa_cons (pe_op op_add (pe_callB call_len_seq (by rfl) m_len PySem.boot_len (pa_cons (pv 2) pa_nil)) pe_int) pa_nil))))
          (pss_one (ps_set (i := 2) sc.nd rfl (.inl rfl) (pe_op op_cat (pe_op op_cat (pe_slice sl_list (pv 2) po_none (po_some (pv 9))) (pe_slice sl_list (pe_lst (pa_cons pe_int (pa_cons pe_int pa_nil))) po_none (po_some (pe_call G1 (hr.mono (by decide)) (by rfl) g1 k1 b1 .nil pass0 (pa_cons (pv 0) (pa_cons pe_int pa_nil)))))) (pe_slice sl_list (pv 2) (po_some (pv 9)) po_none)))))
        pss_nil)
      (pss_one (ps_ret (pv 2)))))), ?_⟩
    refine ⟨_, rfl, a, 6, rfl, by decide, by decide, hS, fun way H1 hway d1 => ?_⟩
    refine ⟨(by show 0 ≤ sizeLine; decide), fun fp nfp => ?_⟩
    have hfa := d1.src.ne nfp
    have hfa' : a ≠ fp := hfa.symm
    have nf0 : H fp = none := by
      cases hh : H fp with
      | none => rfl
      | some o => rw [d1.old fp o hfa hh] at nfp; cases nfp
    have s1 : DS a H fp (.lst (iv [])) (upd H1 fp (.lst [])) := ⟨drawn_newL d1 nfp, upd_same, hfa⟩
    refine ⟨_, rfl, (by show 4 ≤ sizeLine; decide), fun q0 nq0 => ?_⟩
    have s2 := s1.new (x := .lst [.int 4, .int 12, .int 40, .int 198]) nq0
    refine ⟨_, rfl, a, 4, rfl, by decide, by decide, s2.d.src, fun r0 H2 hr0 d2 => ?_⟩
    have s3 := s2.draw d2
    have hr0' : r0 < [4, 12, 40, 198].length := hr0
    refine ⟨q0, _, _, .int (([4, 12, 40, 198][r0]'hr0' : Nat) : Int), rfl, rfl, SqL.of (d2.old q0 _ (s1.d.src.ne nq0) upd_same), pickN (ms := [4, 12, 40, 198]) hr0', ?_⟩
    have hm : 1 ≤ ([4, 12, 40, 198][r0]'hr0' : Nat) ∧ ([4, 12, 40, 198][r0]'hr0' : Nat) ≤ 198 := (by decide : ∀ m ∈ [4, 12, 40, 198], 1 ≤ m ∧ m ≤ 198) _ (List.getElem_mem hr0')
    generalize ([4, 12, 40, 198][r0]'hr0' : Nat) = M at hm
    refine ⟨a, M, rfl, hm.1, by omega, s3.d.src, fun N H3 hN d3 => ?_⟩
    have s4 := s3.draw d3
    refine ⟨(N : Int), rfl, by omega, by omega, ?_⟩
    refine for_it walk_range (fun i σ H' => ∃ (l : List Nat) (y3 y4 y5 y6 y7 y8 : Option V), σ = [some (.ref a), some (.int (way : Nat)), some (.ref fp), y3, y4, y5, y6, y7, y8, none] ∧ DS a H fp (.lst (iv l)) H' ∧ l.length = i ∧ ∀ n ∈ l, 32 ≤ n ∧ n ≤ 65535)
      ⟨[], none, none, none, none, none, none, rfl, s4, rfl, fun n hn => by cases hn⟩ (fun _ _ _ _ _ => trivial) (fun i x σ H4 H5 hi hp hy => ?_) (fun σ H4 hp => ?_)
    · obtain ⟨l, y3, y4, y5, y6, y7, y8, rfl, t1, hl, hg⟩ := hp
      obtain ⟨rfl, hxv⟩ := hy
      -- edge
      refine ⟨(by show 12 ≤ sizeLine; decide), fun q1 n1 => ?_⟩
      have t2 := t1.new (x := .lst (iv [32, 37, 61, 63, 95, 126, 127, 128, 2047, 2048, 4096, 65535])) n1
      refine ⟨_, rfl, a, 12, rfl, by decide, by decide, t2.d.src, fun r1 H6 hr1 d6 => ?_⟩
      have t3 := t2.draw d6
      obtain ⟨v1, hv1, sg1⟩ := pickP (p := IsSg) (xs := iv [32, 37, 61, 63, 95, 126, 127, 128, 2047, 2048, 4096, 65535]) (r := r1) hr1 (fun v hv => by
        obtain ⟨n, hn, rfl⟩ := List.mem_map.mp hv
        exact isSg rfl ((by decide : ∀ m ∈ [32, 37, 61, 63, 95, 126, 127, 128, 2047, 2048, 4096, 65535], 32 ≤ m ∧ m ≤ 65535) n hn).1 ((by decide : ∀ m ∈ [32, 37, 61, 63, 95, 126, 127, 128, 2047, 2048, 4096, 65535], 32 ≤ m ∧ m ≤ 65535) n hn).2)
      refine ⟨q1, _, _, v1, rfl, rfl, SqL.of (d6.old q1 _ (t1.d.src.ne n1) upd_same), hv1, ?_⟩
      -- near
      refine ⟨_, rfl, a, 26, rfl, by decide, by decide, t3.d.src, fun r2 H7 hr2 d7 => ⟨_, _, rfl, rfl, ?_⟩⟩
      have t4 := t3.draw d7
      refine ⟨_, rfl, a, 10, rfl, by decide, by decide, t4.d.src, fun r3 H8 hr3 d8 => ⟨_, _, rfl, rfl, ?_⟩⟩
      have t5 := t4.draw d8
      refine ⟨_, rfl, a, 4, rfl, by decide, by decide, t5.d.src, fun r4 H9 hr4 d9 => ⟨_, _, rfl, rfl, ?_⟩⟩
      have t6 := t5.draw d9
      refine ⟨(by show 4 ≤ sizeLine; decide), fun q2 n2 => ?_⟩
      have t7 := t6.new (x := .lst [.int (97 + (r2 : Nat)), .int 32, .int (48 + (r3 : Nat)), .int (38 + (r4 : Nat))]) n2
      -- plain
      refine ⟨_, rfl, _, rfl, a, 4, rfl, by decide, by decide, t7.d.src, fun r5 H10 hr5 d10 => ?_⟩
      have t8 := t7.draw d10
      obtain ⟨v2, hv2, sg2⟩ := pickP (p := IsSg) (xs := [.int (97 + (r2 : Nat)), .int 32, .int (48 + (r3 : Nat)), .int (38 + (r4 : Nat))]) (r := r5) hr5 (fun v hv => by
        simp only [List.mem_cons, List.not_mem_nil, or_false] at hv
        rcases hv with rfl | rfl | rfl | rfl
        · exact ⟨97 + r2, rfl, by omega, by omega⟩
        · exact ⟨32, rfl, by omega, by omega⟩
        · exact ⟨48 + r3, rfl, by omega, by omega⟩
        · exact ⟨38 + r4, rfl, by omega, by omega⟩)
      refine ⟨q2, _, _, v2, rfl, rfl, SqL.of (d10.old q2 _ (t6.d.src.ne n2) upd_same), hv2, ?_⟩
      -- high
      refine ⟨_, rfl, a, 1800, rfl, by decide, by decide, t8.d.src, fun r6 H11 hr6 d11 => ⟨_, _, rfl, rfl, ?_⟩⟩
      have t9 := t8.draw d11
      refine ⟨_, rfl, a, 63488, rfl, by decide, by decide, t9.d.src, fun r7 H12 hr7 d12 => ⟨_, _, rfl, rfl, ?_⟩⟩
      have t10 := t9.draw d12
      refine ⟨(by show 2 ≤ sizeLine; decide), fun q3 n3 => ?_⟩
      have t11 := t10.new (x := .lst [.int (200 + (r6 : Nat)), .int (2048 + (r7 : Nat))]) n3
      refine ⟨_, rfl, a, 2, rfl, by decide, by decide, t11.d.src, fun r8 H13 hr8 d13 => ?_⟩
      have t12 := t11.draw d13
      obtain ⟨v3, hv3, sg3⟩ := pickP (p := IsSg) (xs := [.int (200 + (r6 : Nat)), .int (2048 + (r7 : Nat))]) (r := r8) hr8 (fun v hv => by
        simp only [List.mem_cons, List.not_mem_nil, or_false] at hv
        rcases hv with rfl | rfl
        · exact ⟨200 + r6, rfl, by omega, by omega⟩
        · exact ⟨2048 + r7, rfl, by omega, by omega⟩)
      refine ⟨q3, _, _, v3, rfl, rfl, SqL.of (d13.old q3 _ (t10.d.src.ne n3) upd_same), hv3, ?_⟩
      -- some
      refine ⟨_, rfl, _, rfl, _, rfl, _, rfl, _, rfl, _, rfl, _, rfl, (by show 4 ≤ sizeLine; decide), fun q4 n4 => ?_⟩
      have t13 := t12.new (x := .lst [v2, v2, v2, v1]) n4
      refine ⟨_, rfl, a, 4, rfl, by decide, by decide, t13.d.src, fun r9 H14 hr9 d14 => ?_⟩
      have t14 := t13.draw d14
      obtain ⟨v4, hv4, sg4⟩ := pickP (p := IsSg) (xs := [v2, v2, v2, v1]) (r := r9) hr9 (fun v hv => by
        simp only [List.mem_cons, List.not_mem_nil, or_false] at hv
        rcases hv with rfl | rfl | rfl | rfl <;> assumption)
      refine ⟨q4, _, _, v4, rfl, rfl, SqL.of (d14.old q4 _ (t12.d.src.ne n4) upd_same), hv4, ?_⟩
      refine ⟨(by show 4 ≤ sizeLine; decide), fun q5 n5 => ?_⟩
      have t15 := t14.new (x := .lst [v2, v1, v3, v4]) n5
      -- append
      refine ⟨_, rfl, .inl ⟨rfl, _, SqL.of t15.f⟩, _, rfl, _, rfl, _, rfl, (by show 2 ≤ sizeLine; decide), fun q6 n6 => ?_⟩
      have t16 := t15.new (x := .lst [v2, v3]) n6
      refine ⟨_, rfl, a, 2, rfl, by decide, by decide, t16.d.src, fun r10 H15 hr10 d15 => ?_⟩
      have t17 := t16.draw d15
      obtain ⟨v5, hv5, sg5⟩ := pickP (p := IsSg) (xs := [v2, v3]) (r := r10) hr10 (fun v hv => by
        simp only [List.mem_cons, List.not_mem_nil, or_false] at hv
        rcases hv with rfl | rfl <;> assumption)
      refine ⟨q6, _, _, v5, rfl, rfl, SqL.of (d15.old q6 _ (t15.d.src.ne n6) upd_same), hv5, _, rfl, (by show 2 ≤ sizeLine; decide), fun q7 n7 => ?_⟩
      have t18 := t17.new (x := .lst [v5, v2]) n7
      have h5 : (upd H15 q7 (.lst [v5, v2])) q5 = some (.lst [v2, v1, v3, v4]) := by
        have e1 : (upd (upd H14 q5 (.lst [v2, v1, v3, v4])) q6 (.lst [v2, v3])) q5 = some (.lst [v2, v1, v3, v4]) := by
          rw [upd_ne (ne_of_none upd_same n6)]
          exact upd_same
        have e2 := d15.old q5 _ (t14.d.src.ne n5) e1
        rw [upd_ne (ne_of_none e2 n7)]
        exact e2
      refine ⟨q5, q7, _, _, rfl, rfl, h5, upd_same, (by show 4 + 2 ≤ sizeLine; decide), fun q8 n8 => ?_⟩
      have t19 := t18.new (x := .lst [v2, v1, v3, v4, v5, v2]) n8
      obtain ⟨v6, hv6, sg6⟩ := pickP (p := IsSg) (xs := [v2, v1, v3, v4, v5, v2]) (r := way) hway (fun v hv => by
        simp only [List.mem_cons, List.not_mem_nil, or_false] at hv
        rcases hv with rfl | rfl | rfl | rfl | rfl | rfl <;> assumption)
      refine ⟨_, rfl, q8, _, _, v6, rfl, rfl, SqL.of upd_same, hv6, ?_⟩
      obtain ⟨n, rfl, hn1, hn2⟩ := sg6
      refine ⟨fp, _, _, rfl, rfl, t19.f, by rw [iv_len]; exact szl (by omega), ?_⟩
      refine ⟨l ++ [n], _, _, _, _, _, _, rfl, ⟨?_, ?_, hfa⟩, by rw [List.length_append, hl]; rfl, ?_⟩
      · refine ⟨fun b o nb e => ?_, ?_⟩
        · have : b ≠ fp := ne_of_none e nf0
          rw [upd_ne this]
          exact t19.d.old b o nb e
        · obtain ⟨x, y, z, e⟩ := t19.d.src
          exact ⟨x, y, z, by rw [upd_ne hfa']; exact e⟩
      · rw [upd_same, iv_app]
        rfl
      · intro m hm
        rcases List.mem_append.mp hm with hm | hm
        · exact hg m hm
        · rw [List.mem_singleton.mp hm]
          exact ⟨hn1, hn2⟩
    · obtain ⟨l, y3, y4, y5, y6, y7, y8, rfl, t1, hl, hg⟩ := hp
      refine ⟨_, rfl, rfl, _, rfl, ite2 (fun h => ?_) (fun h => ?_)⟩
      · refine ⟨_, rfl, _, rfl, fp, _, rfl, .inl (SqL.of t1.f), _, _, rfl, rfl, ?_⟩
        rw [iv_len]
        refine ⟨a, l.length + 1, rfl, by omega, by omega, t1.d.src, fun at_ H5 hat d5 => ?_⟩
        have t2 := t1.draw d5
        refine ⟨_, rfl, _, rfl, _, rfl, fp, _, rfl, SqL.of t2.f, fun q1 n1 => ?_⟩
        rw [show cutV (iv l) none (some (at_ : Nat)) = iv (l.take at_) from by rw [← cutV_none, cutV_iv]; simp]
        have t3 := t2.new (x := .lst (iv (l.take at_))) n1
        refine ⟨(by show 2 ≤ sizeLine; decide), fun q2 n2 => ?_⟩
        have t4 := t3.new (x := .lst (iv [61, 63])) n2
        refine ⟨_, rfl, a, 4, rfl, by decide, by decide, t4.d.src, fun r H6 hr d6 => ?_⟩
        have t5 := t4.draw d6
        refine ⟨_, rfl, q2, _, rfl, SqL.of (d6.old q2 _ (t3.d.src.ne n2) upd_same), fun q3 n3 => ?_⟩
        rw [show cutV [V.int 61, V.int 63] none (some (r : Nat)) = iv ([61, 63].take r) from by rw [← cutV_none]; exact (cutV_iv [61, 63] 0 r).trans (by simp)]
        have t6 := t5.new (x := .lst (iv ([61, 63].take r))) n3
        have e1 : (upd H6 q3 (.lst (iv ([61, 63].take r)))) q1 = some (.lst (iv (l.take at_))) := by
          have e0 : (upd (upd H5 q1 (.lst (iv (l.take at_)))) q2 (.lst (iv [61, 63]))) q1 = some (.lst (iv (l.take at_))) := by
            rw [upd_ne (ne_of_none upd_same n2)]
            exact upd_same
          have e2 := d6.old q1 _ (t2.d.src.ne n1) e0
          rw [upd_ne (ne_of_none e2 n3)]
          exact e2
        have hN : N ≤ 197 := by omega
        have hl2 : l.length ≤ 197 := by omega
        have hr2 : ([61, 63].take r).length ≤ 2 := by rw [List.length_take]; exact Nat.min_le_right _ _
        have hat2 : (l.take at_).length = at_ := by rw [List.length_take]; omega
        refine ⟨q1, q3, _, _, rfl, rfl, e1, upd_same, by rw [iv_len, iv_len]; exact Nat.le_of_lt (szl (by omega)), fun q4 n4 => ?_⟩
        rw [← iv_app]
        have t7 := t6.new (x := .lst (iv (l.take at_ ++ [61, 63].take r))) n4
        refine ⟨_, rfl, _, rfl, _, rfl, fp, _, rfl, SqL.of t7.f, fun q5 n5 => ?_⟩
        rw [show cutV (iv l) (some (at_ : Nat)) none = iv (l.drop at_) from cutV_drop l at_]
        have t8 := t7.new (x := .lst (iv (l.drop at_))) n5
        refine ⟨q4, q5, _, _, rfl, rfl, (by rw [upd_ne (ne_of_none upd_same n5)]; exact upd_same), upd_same, by rw [iv_len, iv_len, List.length_append, List.length_drop]; exact Nat.le_of_lt (szl (by omega)), fun q6 n6 => ?_⟩
        rw [← iv_app]
        have t9 := t8.new (x := .lst (iv (l.take at_ ++ [61, 63].take r ++ l.drop at_))) n6
        refine ⟨_, rfl, q _ q6 _ t9.d ?_ upd_same ?_ ?_⟩
        · cases hh : H q6 with
          | none => rfl
          | some o => rw [t8.d.old q6 o (t8.d.src.ne n6) hh] at n6; cases n6
        · intro m hm
          simp only [List.mem_append] at hm
          rcases hm with (hm | hm) | hm
          · exact hg m (List.mem_of_mem_take hm)
          · exact (by decide : ∀ m ∈ [61, 63], 32 ≤ m ∧ m ≤ 65535) m (List.mem_of_mem_take hm)
          · exact hg m (List.mem_of_mem_drop hm)
        · rw [List.length_append, List.length_append, List.length_drop]
          omega
      · exact ⟨_, rfl, q _ fp l t1.d nf0 t1.f hg (by omega)⟩
end
end FL


namespace FL
open PySem PySem.Spec PyProof.Rows L2
section
variable {P : Program} {w : World} {K : PySem.W.Frag} {mg : Str → Option Value} {base : Heap}
def spLawOcts (K : PySem.W.Frag) : Sp := fun vs H Q _ => ∃ a l, vs = [.ref a] ∧ H a = some (.lst (iv l)) ∧ GS l ∧ ∀ H' p, Same H H' → H p = none → H' p = some (.lst (iv (octsOf l))) → Q (.ref p) H'
theorem scLawOctetsOf : FnScope ["_law_row", "_law_found", "_law_tone", "_law_some"] ["_law_row"] (defScope sLawOctetsOf) := ⟨rfl, rfl, rfl, by decide +kernel, rfl, by decide +kernel, by decide +kernel⟩
theorem r_law_octets_of (A : FnAt K mg "_law_octets_of" sLawOctetsOf) : Ready P w K mg base 1 "_law_octets_of" ["_law_row"] (spLawOcts K) := by
  refine ready_of A (fun _ _ _ _ _ _ us hl => match us, hl with | [_], _ => rfl) fun f fd F => ?_
  refine F.ok scLawOctetsOf (fun vs H Q E h => ?_) (fun cdv A outer s H vs Q E hr h => ?_)
  · obtain ⟨a, l, rfl, _⟩ := h
    rfl
  · obtain ⟨a, l, rfl, hH, hl, q⟩ := h
    have sc := scLawOctetsOf
    refine ⟨_, pss_cons (ps_set (i := 1) sc.nd rfl (.inl rfl) (pe_lst pa_nil))
      (pss_cons (ps_for PassesOwn.never rfl (pi_list (pv 0)) (pg_name (i := 2) sc.nd rfl (.inl rfl))
        (pss_cons (ps_set (i := 3) sc.nd rfl (.inl rfl) (pe_lst (pa_cons (pv 2) pa_nil)))
          (pss_cons (ps_if (pt_cmpR op_gt (pv 2) pe_int (nomark _))
            (pss_one (ps_set (i := 3) sc.nd rfl (.inl rfl) (pe_lst (pa_cons (pe_op op_add pe_int (pe_op op_fdiv (pv 2) pe_int)) (pa_cons (pe_op op_add pe_int (pe_op op_fdiv (pe_op op_mod (pv 2) pe_int) pe_int)) (pa_cons (pe_op op_add pe_int (pe_op op_mod (pv 2) pe_int)) pa_nil))))))
            (pss_one (ps_if (pt_cmpR op_gt (pv 2) pe_int (nomark _))
                (pss_one (ps_set (i := 3) sc.nd rfl (.inl rfl) (pe_lst (pa_cons (pe_op op_add pe_int (pe_op op_fdiv (pv 2) pe_int)) (pa_cons (pe_op op_add pe_int (pe_op op_mod (pv 2) pe_int)) pa_nil)))))
                pss_nil)))
          (pss_one (ps_set (i := 1) sc.nd rfl (.inl rfl) (pe_op op_cat (pv 1) (pv 3)))))))
      (pss_one (ps_ret (pv 1)))), ?_⟩
    refine ⟨by show 0 ≤ sizeLine; decide, fun p np => ?_⟩
    refine ⟨_, rfl, a, rfl, ⟨_, SqL.of (by rw [upd_ne (ne_of_none hH np)]; exact hH)⟩, ?_⟩
    refine for_it (walk_list (K := K) (a := a) (xs := iv l)) (fun i σ H' => ∃ fp y2 y3, σ = [some (.ref a), some (.ref fp), y2, y3] ∧ Same H H' ∧ H fp = none ∧ H' fp = some (.lst (iv (octsOf (l.take i))))) ⟨p, none, none, rfl, same_new np, np, upd_same⟩
      (fun i σ H' _ hp => let ⟨_, _, _, _, s, _⟩ := hp; SqL.of (s _ _ hH)) (fun i x σ H2 H3 hi hp hy => ?_) (fun σ H2 hp => ?_)
    · obtain ⟨fp, y2, y3, rfl, s2, nfp, hfp⟩ := hp
      obtain ⟨rfl, hx⟩ := hy
      rw [iv_len] at hi
      have hn : l[i]? = some l[i] := List.getElem?_eq_getElem hi
      rw [iv_at hn] at hx
      injection hx with hx
      subst hx
      have hrest : l[i] ≤ 65535 := (hl.1 _ (List.getElem_mem hi)).2
      generalize hN : l[i] = n at hn hrest
      have fin : ∀ (Hc : Hp) (b : Addr), Same H3 Hc → Hc b = some (.lst (iv (octs n))) → ∃ v, [some (V.ref a), some (V.ref fp), some (V.int (n : Nat)), some (V.ref b)][1]? = some (some v) ∧ ∃ w, [some (V.ref a), some (V.ref fp), some (V.int (n : Nat)), some (V.ref b)][3]? = some (some w) ∧
          ∃ p q xs ys, v = .ref p ∧ w = .ref q ∧ Hc p = some (.lst xs) ∧ Hc q = some (.lst ys) ∧ xs.length + ys.length ≤ sizeLine ∧ ∀ l', Hc l' = none → ∃ fp' y2' y3', ([some (V.ref a), some (V.ref fp), some (V.int (n : Nat)), some (V.ref b)].set 1 (some (.ref l'))) = [some (.ref a), some (.ref fp'), y2', y3'] ∧ Same H (upd Hc l' (.lst (xs ++ ys))) ∧ H fp' = none ∧ (upd Hc l' (.lst (xs ++ ys))) fp' = some (.lst (iv (octsOf (l.take (i + 1))))) := fun Hc b sc2 hb => by
        refine ⟨_, rfl, _, rfl, fp, b, _, _, rfl, rfl, sc2 _ _ hfp, hb, ?_, fun l' nl => ⟨l', _, _, rfl, (s2.trans sc2).trans (same_new nl), Same.free (s2.trans sc2) nl, ?_⟩⟩
        · rw [iv_len, iv_len]
          have e1 := octsOf_len (l.take i)
          have e2 := octs_pos n
          have e3 : (l.take i).length ≤ l.length := by rw [List.length_take]; omega
          have := hl.2
          exact Nat.le_of_lt (szl (by omega))
        · rw [upd_same, take_more hn]
          unfold octsOf
          rw [List.flatMap_append, iv_app, List.flatMap_cons, List.flatMap_nil, List.append_nil]
      refine ⟨_, rfl, (by show 1 ≤ sizeLine; decide), fun q1 n1 => ?_⟩
      refine ⟨_, rfl, _, _, rfl, rfl, _, rfl, ite2 (fun h => ?_) (fun h => ?_)⟩
      · have h2 : ¬ n < 2048 := by have := of_decide_eq_true h; omega
        refine ⟨_, rfl, _, _, rfl, rfl, ⟨by decide, by decide⟩, _, _, rfl, rfl, _, rfl, _, _, rfl, rfl, (by show (0 : Int) < 4096; decide), _, _, rfl, rfl, ⟨by decide, by decide⟩, _, _, rfl, rfl, _, rfl, _, _, rfl, rfl, (by show (0 : Int) < 64; decide), _, _, rfl, rfl, (by show 3 ≤ sizeLine; decide), fun q2 n2 => ?_⟩
        refine fin _ q2 ((same_new n1).trans (same_new n2)) ?_
        rw [upd_same]
        unfold octs
        rw [if_neg (by omega), if_neg h2]
        rfl
      · have h2 : n < 2048 := by
          have : ¬ ((n : Int) > 2047) := fun z => h (decide_eq_true z)
          omega
        refine ⟨_, rfl, _, _, rfl, rfl, _, rfl, ite2 (fun h => ?_) (fun h => ?_)⟩
        · have h1 : ¬ n < 128 := by have := of_decide_eq_true h; omega
          refine ⟨_, rfl, _, _, rfl, rfl, ⟨by decide, by decide⟩, _, _, rfl, rfl, _, rfl, _, _, rfl, rfl, (by show (0 : Int) < 64; decide), _, _, rfl, rfl, (by show 2 ≤ sizeLine; decide), fun q2 n2 => ?_⟩
          refine fin _ q2 ((same_new n1).trans (same_new n2)) ?_
          rw [upd_same]
          unfold octs
          rw [if_neg h1, if_pos h2]
          rfl
        · have h1 : n < 128 := by
            have : ¬ ((n : Int) > 127) := fun z => h (decide_eq_true z)
            omega
          refine fin _ q1 (same_new n1) ?_
          rw [upd_same]
          unfold octs
          rw [if_pos h1]
          rfl
    · obtain ⟨fp, y2, y3, rfl, s2, nfp, hfp⟩ := hp
      rw [iv_len, List.take_length] at hfp
      exact ⟨_, rfl, q H2 fp s2 nfp hfp⟩
end
end FL


namespace FL
open PySem PySem.Spec PyProof.Rows L2
/-! ### how long a value by words is; the suite's own rows -/
theorem stepW_flat (wr : List Nat → List Nat) (rows : List (List Nat)) (o : List Nat) : (stepW wr rows o).flatten = rows.flatten ++ o := by
  unfold stepW
  by_cases h : rows ≠ [] ∧ (wr (rows.getLastD [] ++ o)).length ≤ 54
  · rw [if_pos h]
    obtain ⟨rs, r, rfl⟩ : ∃ rs r, rows = rs ++ [r] := ⟨rows.dropLast, rows.getLast h.1, (List.dropLast_concat_getLast h.1).symm⟩
    simp
  · rw [if_neg h]
    simp
theorem stepW_len (wr : List Nat → List Nat) (rows : List (List Nat)) (o : List Nat) : (stepW wr rows o).length ≤ rows.length + 1 := by
  unfold stepW
  by_cases h : rows ≠ [] ∧ (wr (rows.getLastD [] ++ o)).length ≤ 54
  · rw [if_pos h]
    simp only [List.length_append, List.length_dropLast, List.length_singleton]
    omega
  · rw [if_neg h]
    simp
theorem fold_rows (wr : List Nat → List Nat) (f : Nat → List Nat) : ∀ (l : List Nat) (rows : List (List Nat)), (l.foldl (fun rows s => stepW wr rows (f s)) rows).flatten = rows.flatten ++ l.flatMap f ∧ (l.foldl (fun rows s => stepW wr rows (f s)) rows).length ≤ rows.length + l.length
  | [], rows => by simp
  | a :: r, rows => by
    have ih := fold_rows wr f r (stepW wr rows (f a))
    have h1 := stepW_flat wr rows (f a)
    have h2 := stepW_len wr rows (f a)
    rw [List.foldl_cons, List.flatMap_cons, List.length_cons]
    refine ⟨?_, by omega⟩
    rw [ih.1, h1, List.append_assoc]
theorem words_len {wr : List Nat → List Nat} {c : Nat} (h : ∀ r, (wr r).length ≤ 3 * r.length + 2) : ∀ rows : List (List Nat), (TL.joinL [32] (rows.map (wordC wr c))).length ≤ 3 * rows.flatten.length + 9 * rows.length
  | [] => by simp [TL.joinL]
  | [r] => by
    have := h r
    simp [TL.joinL, wordC]
    omega
  | r :: r2 :: rs => by
    have ih := words_len (c := c) h (r2 :: rs)
    have := h r
    have e : TL.joinL [32] ((r :: r2 :: rs).map (wordC wr c)) = wordC wr c r ++ [32] ++ TL.joinL [32] ((r2 :: rs).map (wordC wr c)) := by
      simp [TL.joinL]
    rw [e, List.flatten_cons, List.length_append, List.length_append, List.length_append, List.length_cons]
    have e2 : (wordC wr c r).length = (wr r).length + 6 := by simp [wordC]
    rw [e2]
    have e3 : ([32] : List Nat).length = 1 := rfl
    simp only [List.length_cons, List.flatten_cons, List.length_append] at ih e3 ⊢
    omega
theorem byC_len {wr : List Nat → List Nat} {c : Nat} (h : ∀ r, (wr r).length ≤ 3 * r.length + 2) (l : List Nat) : (byC wr c l).length ≤ 18 * l.length := by
  unfold byC rowsW
  obtain ⟨h1, h2⟩ := fold_rows wr octs l []
  have h3 := words_len (c := c) h (l.foldl (fun rows s => stepW wr rows (octs s)) [])
  have h4 := octsOf_len l
  unfold octsOf at h4
  rw [List.flatten_nil, List.nil_append] at h1
  rw [h1] at h3
  rw [List.length_nil] at h2
  omega
theorem codedC_bnd {l : List Nat} (h : l.length ≤ 250) : (byC sixC 115 l).length ≤ 10000000 ∧ (byC marksC 109 l).length ≤ 10000000 := by
  have h1 := byC_len (c := 115) sixC_len3 l
  have h2 := byC_len (c := 109) marksC_len l
  omega
/-- the suite's words: those done and the signs of the one under way -/
def stepL (wr : List Nat → List Nat) (c : Nat) (st : List (List Nat) × List Nat) (t : Nat) : List (List Nat) × List Nat :=
  if st.2 ≠ [] ∧ 60 < (wordC wr c (octsOf (st.2 ++ [t]))).length then (st.1 ++ [wordC wr c (octsOf st.2)], [t]) else (st.1, st.2 ++ [t])
def foldL (wr : List Nat → List Nat) (c : Nat) (l : List Nat) : List (List Nat) × List Nat := l.foldl (stepL wr c) ([], [])
def lawBy (wr : List Nat → List Nat) (c : Nat) (l : List Nat) : List Nat := TL.joinL [32] ((foldL wr c l).1 ++ [wordC wr c (octsOf (foldL wr c l).2)])
theorem octsOf_snoc (l : List Nat) (t : Nat) : octsOf (l ++ [t]) = octsOf l ++ octs t := by
  unfold octsOf
  simp
theorem fold_law (wr : List Nat → List Nat) (c : Nat) : ∀ (l : List Nat) (rows0 : List (List Nat)) (s : List Nat), s ≠ [] → ∃ rows1 s', s' ≠ [] ∧ l.foldl (stepL wr c) (rows0.map (wordC wr c), s) = (rows1.map (wordC wr c), s') ∧ l.foldl (fun rows t => stepW wr rows (octs t)) (rows0 ++ [octsOf s]) = rows1 ++ [octsOf s']
  | [], rows0, s, hs => ⟨rows0, s, hs, rfl, rfl⟩
  | t :: r, rows0, s, hs => by
    rw [List.foldl_cons, List.foldl_cons]
    have e2 : (wordC wr c (octsOf (s ++ [t]))).length = (wr (octsOf s ++ octs t)).length + 6 := by simp [wordC, octsOf_snoc]
    by_cases h : 60 < (wordC wr c (octsOf (s ++ [t]))).length
    · have e3 : stepL wr c (rows0.map (wordC wr c), s) t = ((rows0 ++ [octsOf s]).map (wordC wr c), [t]) := by
        unfold stepL
        rw [if_pos ⟨hs, h⟩]
        simp
      have e4 : stepW wr (rows0 ++ [octsOf s]) (octs t) = (rows0 ++ [octsOf s]) ++ [octsOf [t]] := by
        unfold stepW
        rw [if_neg (fun z => by
          have := z.2
          simp at this
          omega)]
        simp [octsOf]
      rw [e3, e4]
      exact fold_law wr c r (rows0 ++ [octsOf s]) [t] (by simp)
    · have e3 : stepL wr c (rows0.map (wordC wr c), s) t = (rows0.map (wordC wr c), s ++ [t]) := by
        unfold stepL
        rw [if_neg (fun z => h z.2)]
      have e4 : stepW wr (rows0 ++ [octsOf s]) (octs t) = rows0 ++ [octsOf (s ++ [t])] := by
        unfold stepW
        rw [if_pos ⟨by simp, by simp; omega⟩]
        simp [octsOf_snoc]
      rw [e3, e4]
      exact fold_law wr c r rows0 (s ++ [t]) (by simp)
theorem lawBy_eq (wr : List Nat → List Nat) (c : Nat) {l : List Nat} (h : l ≠ []) : lawBy wr c l = byC wr c l := by
  cases l with
  | nil => exact absurd rfl h
  | cons a r =>
    have e1 : foldL wr c (a :: r) = r.foldl (stepL wr c) ((([] : List (List Nat)).map (wordC wr c)), [a]) := by
      unfold foldL
      rw [List.foldl_cons]
      unfold stepL
      rw [if_neg (fun z => z.1 rfl)]
      rfl
    have e2 : rowsW wr octs (a :: r) = r.foldl (fun rows t => stepW wr rows (octs t)) (([] : List (List Nat)) ++ [octsOf [a]]) := by
      unfold rowsW
      rw [List.foldl_cons]
      unfold stepW
      rw [if_neg (fun z => z.1 rfl)]
      simp [octsOf]
    obtain ⟨rows1, s', hs, h1, h2⟩ := fold_law wr c r [] [a] (by simp)
    unfold lawBy byC
    rw [e1, h1, e2, h2]
    simp
theorem foldL_snoc (wr : List Nat → List Nat) (c : Nat) (l : List Nat) (t : Nat) : foldL wr c (l ++ [t]) = stepL wr c (foldL wr c l) t := by
  unfold foldL
  rw [List.foldl_append]
  rfl
/-- what is done and what is under way are the signs so far -/
theorem foldL_bnd (wr : List Nat → List Nat) (c : Nat) {l : List Nat} (hl : ∀ n ∈ l, 32 ≤ n ∧ n ≤ 65535) : (∀ n ∈ (foldL wr c l).2, 32 ≤ n ∧ n ≤ 65535) ∧ (foldL wr c l).1.length + (foldL wr c l).2.length ≤ l.length ∧ (∀ x ∈ (foldL wr c l).1, ∃ s : List Nat, x = wordC wr c (octsOf s) ∧ s.length ≤ l.length) := by
  unfold foldL
  suffices h : ∀ (l : List Nat) (st : List (List Nat) × List Nat) (m : Nat), (∀ n ∈ l, 32 ≤ n ∧ n ≤ 65535) → (∀ n ∈ st.2, 32 ≤ n ∧ n ≤ 65535) → st.1.length + st.2.length ≤ m → (∀ x ∈ st.1, ∃ s : List Nat, x = wordC wr c (octsOf s) ∧ s.length ≤ m) →
      (∀ n ∈ (l.foldl (stepL wr c) st).2, 32 ≤ n ∧ n ≤ 65535) ∧ (l.foldl (stepL wr c) st).1.length + (l.foldl (stepL wr c) st).2.length ≤ m + l.length ∧ (∀ x ∈ (l.foldl (stepL wr c) st).1, ∃ s : List Nat, x = wordC wr c (octsOf s) ∧ s.length ≤ m + l.length) by
    have := h l ([], []) 0 hl (by simp) (by simp) (by simp)
    simpa using this
  intro l
  induction l with
  | nil => exact fun st m h1 h2 h3 h4 => ⟨h2, h3, h4⟩
  | cons t r ih =>
    intro st m h1 h2 h3 h4
    obtain ⟨w, s⟩ := st
    have ht := h1 t (List.mem_cons_self ..)
    have hr := fun n hn => h1 n (List.mem_cons_of_mem _ hn)
    rw [List.foldl_cons, List.length_cons]
    have key : ∀ st', st' = stepL wr c (w, s) t → (∀ n ∈ st'.2, 32 ≤ n ∧ n ≤ 65535) ∧ st'.1.length + st'.2.length ≤ m + 1 ∧ (∀ x ∈ st'.1, ∃ s : List Nat, x = wordC wr c (octsOf s) ∧ s.length ≤ m + 1) := fun st' e => by
      unfold stepL at e
      dsimp only at h2 h3 h4
      by_cases hh : s ≠ [] ∧ 60 < (wordC wr c (octsOf (s ++ [t]))).length
      · rw [if_pos hh] at e
        subst e
        have : 1 ≤ s.length := by
          cases s with
          | nil => exact absurd rfl hh.1
          | cons a b => simp
        refine ⟨fun n hn => ?_, by simp; omega, fun x hx => ?_⟩
        · rw [List.mem_singleton.mp hn]
          exact ht
        · rcases List.mem_append.mp hx with hx | hx
          · obtain ⟨s1, e1, e2⟩ := h4 x hx
            exact ⟨s1, e1, by omega⟩
          · exact ⟨s, List.mem_singleton.mp hx, by omega⟩
      · rw [if_neg hh] at e
        subst e
        refine ⟨fun n hn => ?_, by simp; omega, fun x hx => ?_⟩
        · rcases List.mem_append.mp hn with hn | hn
          · exact h2 n hn
          · rw [List.mem_singleton.mp hn]
            exact ht
        · obtain ⟨s1, e1, e2⟩ := h4 x hx
          exact ⟨s1, e1, by omega⟩
    obtain ⟨k1, k2, k3⟩ := key _ rfl
    obtain ⟨i1, i2, i3⟩ := ih (stepL wr c (w, s) t) (m + 1) hr k1 k2 k3
    exact ⟨i1, by omega, fun x hx => let ⟨s1, e1, e2⟩ := i3 x hx; ⟨s1, e1, by omega⟩⟩
end FL


namespace FL
open PySem PySem.Spec PyProof.Rows L2
/-! ### stretches of blanks and of others -/
def isB (c : Nat) : Bool := decide (c = 32)
def stch : List Nat → List (List Nat)
  | [] => []
  | c :: r => match stch r with
    | [] => [[c]]
    | s :: ss => if isB c = isB (s.headD 0) then (c :: s) :: ss else [c] :: s :: ss
theorem stch_head : ∀ (c : Nat) (r : List Nat), ∃ s ss, stch (c :: r) = (c :: s) :: ss
  | c, [] => ⟨[], [], rfl⟩
  | c, d :: r => by
    obtain ⟨s, ss, h⟩ := stch_head d r
    rw [stch, h]
    dsimp only
    by_cases e : isB c = isB ((d :: s).headD 0)
    · rw [if_pos e]
      exact ⟨_, _, rfl⟩
    · rw [if_neg e]
      exact ⟨_, _, rfl⟩
theorem stch_flat : ∀ l : List Nat, (stch l).flatten = l
  | [] => rfl
  | c :: r => by
    have ih := stch_flat r
    rw [stch]
    cases h : stch r with
    | nil =>
      rw [h] at ih
      rw [← ih]
      rfl
    | cons s ss =>
      rw [h] at ih
      dsimp only
      split
      · rw [List.flatten_cons, List.cons_append, ← List.flatten_cons, ih]
      · rw [List.flatten_cons, ih]
        rfl
theorem stch_cat : ∀ (a b : List Nat), a ≠ [] → b ≠ [] → (∀ c d, a.getLast? = some c → b.head? = some d → isB c ≠ isB d) → stch (a ++ b) = stch a ++ stch b
  | [], _, h, _, _ => absurd rfl h
  | [c], d :: b, _, _, h => by
    obtain ⟨s, ss, e⟩ := stch_head d b
    have hne := h c d rfl rfl
    show stch (c :: d :: b) = [[c]] ++ stch (d :: b)
    rw [stch, e]
    dsimp only
    rw [List.headD_cons, if_neg hne]
    rfl
  | _, [], _, h, _ => absurd rfl h
  | c :: c2 :: a, d :: b, _, _, h => by
    have ih := stch_cat (c2 :: a) (d :: b) (by simp) (by simp) (fun x y hx hy => h x y (by rw [List.getLast?_cons_cons]; exact hx) hy)
    obtain ⟨s, ss, e⟩ := stch_head c2 a
    have e2 : stch (c2 :: a ++ d :: b) = (c2 :: s) :: (ss ++ stch (d :: b)) := by
      rw [ih, e]
      rfl
    show stch (c :: (c2 :: a ++ d :: b)) = _
    rw [stch, e2]
    dsimp only
    rw [List.headD_cons]
    have e3 : stch (c :: c2 :: a) = if isB c = isB c2 then (c :: c2 :: s) :: ss else [c] :: (c2 :: s) :: ss := by
      rw [stch, e]
      rfl
    rw [e3]
    split <;> rfl
theorem stch_one {b : Bool} : ∀ (l : List Nat), l ≠ [] → (∀ c ∈ l, isB c = b) → stch l = [l]
  | [], h, _ => absurd rfl h
  | [c], _, _ => rfl
  | c :: d :: r, _, h => by
    have ih := stch_one (d :: r) (by simp) (fun x hx => h x (List.mem_cons_of_mem _ hx))
    rw [stch, ih]
    dsimp only
    rw [List.headD_cons, h c (List.mem_cons_self ..), h d (by simp), if_pos rfl]
theorem stch_run {b : Bool} {u r : List Nat} (hu : u ≠ []) (hb : ∀ c ∈ u, isB c = b) (hr : ∀ d, r.head? = some d → isB d ≠ b) : stch (u ++ r) = u :: stch r := by
  by_cases hn : r = []
  · subst hn
    rw [List.append_nil, stch_one u hu hb]
    rfl
  · rw [stch_cat u r hu hn, stch_one u hu hb]
    · rfl
    · intro c d hc hd
      rw [hb c (List.mem_of_getLast? hc)]
      exact (hr d hd).symm
/-! ### a coded word's saying -/
def sayO (o : List Nat) : Option (List Nat) := match sayR o o.length 0 with
  | some (.ok s) => some s
  | _ => none
def toldO (inner body : List Nat) (rd : RdC) (wr : List Nat → List Nat) : Option (List Nat) := match readBy rd body with
  | .error _ => none
  | .ok o => if wr o = inner then some o else none
def innerW (w : List Nat) : List Nat := (w.take (w.length - 2)).drop 4
def endsQ (w : List Nat) : Bool := decide (w.drop (w.length - 2) = [63, 61])
def rep95 (l : List Nat) : List Nat := l.flatMap fun c => if c = 95 then [61, 50, 48] else [c]
def octW (w : List Nat) : Option (List Nat) :=
  if innerW w = [] ∨ endsQ w = false then none
  else if w.take 4 = [61, 63, 115, 63] then toldO (innerW w) (innerW w ++ [10]) read6 sixC
  else if w.take 4 = [61, 63, 109, 63] then toldO (innerW w) (rep95 (innerW w) ++ [61, 10]) readMk marksC
  else none
def sayW (w : List Nat) : Option (List Nat) := match octW w with
  | none => none
  | some o => sayO o
theorem sayW_q {w : List Nat} (h : ∀ c, w.take 2 ≠ [61, 63] ∨ c = 0) : sayW w = none := by
  have h2 : w.take 2 ≠ [61, 63] := (h 1).resolve_right (by decide)
  have key : ∀ x y : Nat, w.take 4 ≠ [61, 63, x, y] := fun x y e => h2 (by
    have := congrArg (List.take 2) e
    rw [List.take_take] at this
    exact this)
  unfold sayW octW
  split
  · rfl
  · rename_i h
    split at h
    · cases h
    · rw [if_neg (key 115 63), if_neg (key 109 63)] at h
      cases h
theorem sayW_none {w : List Nat} (h : w.take 2 ≠ [61, 63]) : sayW w = none := sayW_q fun _ => .inl h
/-! ### a value's sayings -/
def nextT : List (List Nat) → Bool
  | [] => false
  | t :: _ => (sayW t).isSome
def decA : Bool → List (List Nat) → List Nat
  | _, [] => []
  | p, s :: ss => (match sayW s with
    | some x => x
    | none => if (p && nextT ss) = true then [] else s) ++ decA (sayW s).isSome ss
def lastT : Bool → List (List Nat) → Bool
  | p, [] => p
  | _, s :: ss => lastT (sayW s).isSome ss
def decL (l : List Nat) : List Nat := decA false (stch l)
theorem decA_app {C : List (List Nat)} (hC : nextT C = false) : ∀ (p : Bool) (A : List (List Nat)), decA p (A ++ C) = decA p A ++ decA (lastT p A) C
  | _, [] => rfl
  | p, s :: ss => by
    have ih := decA_app hC (sayW s).isSome ss
    show decA p (s :: (ss ++ C)) = _
    rw [decA, decA, ih, lastT, List.append_assoc]
    have hn : nextT (ss ++ C) = nextT ss := by
      cases ss with
      | nil => exact hC
      | cons t r => rfl
    rw [hn]
theorem lastT_app : ∀ (p : Bool) (A B : List (List Nat)), lastT p (A ++ B) = lastT (lastT p A) B
  | _, [], _ => rfl
  | _, s :: ss, B => lastT_app _ ss B
/-- a value: not empty, no blank at its ends, its sayings, whether words stand at its begin and its end -/
structure Vl (z out : List Nat) (b e : Bool) : Prop where
  ne : z ≠ []
  hd : z.head? ≠ some 32
  la : z.getLast? ≠ some 32
  out : decL z = out
  bg : nextT (stch z) = b
  en : lastT false (stch z) = e
theorem isB_ne {c : Nat} (h : c ≠ 32) : isB c = false := decide_eq_false h
theorem sayW_blanks (k : Nat) : sayW (List.replicate k 32) = none := by
  refine sayW_none ?_
  match k with
  | 0 => decide
  | 1 => decide
  | k + 2 =>
    intro h
    rw [List.replicate_succ, List.take_succ_cons] at h
    injection h with h _
    cases h
theorem Vl.cat {z1 z2 o1 o2 : List Nat} {b1 e1 b2 e2 : Bool} (h1 : Vl z1 o1 b1 e1) (h2 : Vl z2 o2 b2 e2) {k : Nat} (hk : 1 ≤ k) : Vl (z1 ++ (List.replicate k 32 ++ z2)) (o1 ++ ((if (e1 && b2) = true then [] else List.replicate k 32) ++ o2)) b1 e2 := by
  have hk0 : List.replicate k 32 ≠ [] := fun e => by
    have := congrArg List.length e
    rw [List.length_replicate] at this
    simp at this
    omega
  have s2 : stch (List.replicate k 32 ++ z2) = List.replicate k 32 :: stch z2 := stch_run (b := true) hk0 (fun c hc => by rw [(List.mem_replicate.mp hc).2]; rfl) (fun d hd => by
    rw [isB_ne fun e => h2.hd (by rw [hd, e])]
    exact Bool.false_ne_true)
  have s1 : stch (z1 ++ (List.replicate k 32 ++ z2)) = stch z1 ++ (List.replicate k 32 :: stch z2) := by
    rw [stch_cat z1 _ h1.ne (by simp [hk0]), s2]
    intro c d hc hd
    rw [isB_ne fun e => h1.la (by rw [hc, e])]
    have : d = 32 := by
      cases k with
      | zero => omega
      | succ k =>
        rw [List.replicate_succ, List.cons_append] at hd
        exact (Option.some.inj hd).symm
    rw [this]
    exact Bool.false_ne_true
  have hb := sayW_blanks k
  obtain ⟨c, r, hz1⟩ := List.exists_cons_of_ne_nil h1.ne
  have hnb : nextT (List.replicate k 32 :: stch z2) = false := by
    show (sayW (List.replicate k 32)).isSome = false
    rw [hb]
    rfl
  refine ⟨by simp [h1.ne], ?_, ?_, ?_, ?_, ?_⟩
  · rw [hz1]
    have := h1.hd
    rw [hz1] at this
    exact this
  · rw [List.getLast?_append, List.getLast?_append]
    cases hl : z2.getLast? with
    | none => exact absurd (List.getLast?_eq_none_iff.mp hl) h2.ne
    | some x =>
      have := h2.la
      rw [hl] at this
      exact this
  · unfold decL
    rw [s1, decA_app hnb, show decA false (stch z1) = o1 from h1.out, h1.en, decA, hb]
    dsimp only
    rw [h2.bg]
    congr 1
    congr 1
    exact h2.out
  · rw [s1]
    have := h1.bg
    cases hs : stch z1 with
    | nil =>
      obtain ⟨s, ss, e⟩ := stch_head c r
      rw [hz1, e] at hs
      cases hs
    | cons t ts =>
      rw [hs] at this
      exact this
  · rw [s1, lastT_app, lastT, hb]
    exact h2.en
/-- one coded word -/
theorem Vl.word {w s : List Nat} (hn : w ≠ []) (hb : ∀ c ∈ w, c ≠ 32) (hs : sayW w = some s) : Vl w s true true := by
  have h1 : stch w = [w] := stch_one (b := false) w hn fun c hc => isB_ne (hb c hc)
  refine ⟨hn, fun e => hb 32 (List.mem_of_head? e) rfl, fun e => hb 32 (List.mem_of_getLast? e) rfl, ?_, ?_, ?_⟩
  · unfold decL
    rw [h1, decA, hs]
    dsimp only
    rw [decA, List.append_nil]
  · rw [h1, nextT, hs]
    rfl
  · rw [h1, lastT, hs]
    rfl
/-- a text in which no word begins -/
theorem decA_plain : ∀ (p : Bool) (ss : List (List Nat)), p = false → (∀ s ∈ ss, sayW s = none) → decA p ss = ss.flatten
  | _, [], _, _ => rfl
  | p, s :: ss, hp, h => by
    have hs := h s (List.mem_cons_self ..)
    rw [decA, hs]
    dsimp only
    rw [hp, Bool.false_and, if_neg Bool.false_ne_true, List.flatten_cons]
    congr 1
    exact decA_plain _ ss rfl fun x hx => h x (List.mem_cons_of_mem _ hx)
theorem lastT_plain : ∀ (ss : List (List Nat)), (∀ s ∈ ss, sayW s = none) → lastT false ss = false
  | [], _ => rfl
  | s :: ss, h => by
    rw [lastT, h s (List.mem_cons_self ..)]
    exact lastT_plain ss fun x hx => h x (List.mem_cons_of_mem _ hx)
def NoQ (l : List Nat) : Prop := ∀ i, ¬ (l[i]? = some 61 ∧ l[i + 1]? = some 63)
theorem NoQ.part {a b c : List Nat} (h : NoQ (a ++ (b ++ c))) : NoQ b := fun i hi => by
  obtain ⟨h1, h2⟩ := hi
  have l1 := (List.getElem?_eq_some_iff.mp h1).1
  have l2 := (List.getElem?_eq_some_iff.mp h2).1
  refine h (a.length + i) ⟨?_, ?_⟩
  · rw [List.getElem?_append_right (by omega), show a.length + i - a.length = i by omega, List.getElem?_append_left l1, h1]
  · rw [List.getElem?_append_right (by omega), show a.length + i + 1 - a.length = i + 1 by omega, List.getElem?_append_left l2, h2]
theorem NoQ.none {l : List Nat} (h : NoQ l) : sayW l = none := by
  refine sayW_none fun e => h 0 ⟨?_, ?_⟩
  · have := congrArg (fun x : List Nat => x[0]?) e
    rw [List.getElem?_take_of_lt (by decide)] at this
    exact this
  · have := congrArg (fun x : List Nat => x[1]?) e
    rw [List.getElem?_take_of_lt (by decide)] at this
    exact this
theorem noq_all {l : List Nat} (h : NoQ l) : ∀ s ∈ stch l, sayW s = none := by
  intro s hs
  obtain ⟨a, b, e⟩ := List.append_of_mem hs
  have := stch_flat l
  rw [e, List.flatten_append, List.flatten_cons] at this
  rw [← this] at h
  exact (NoQ.part h).none
theorem dec_plain {l : List Nat} (h : NoQ l) : decL l = l := by
  unfold decL
  rw [decA_plain false _ rfl (noq_all h), stch_flat]
theorem Vl.plain {l : List Nat} (hn : l ≠ []) (h1 : l.head? ≠ some 32) (h2 : l.getLast? ≠ some 32) (h : NoQ l) : Vl l l false false := by
  refine ⟨hn, h1, h2, dec_plain h, ?_, lastT_plain _ (noq_all h)⟩
  have := noq_all h
  cases hs : stch l with
  | nil => rfl
  | cons s ss =>
    rw [hs] at this
    show (sayW s).isSome = false
    rw [this s (List.mem_cons_self ..)]
    rfl
/-- words with blanks between -/
theorem Vl.words {k : Nat} (hk : 1 ≤ k) : ∀ (ws : List (List Nat)) (ss : List (List Nat)), ws.length = ss.length → ws ≠ [] → (∀ (i : Nat) (w s : List Nat), ws[i]? = some w → ss[i]? = some s → Vl w s true true) → Vl (TL.joinL (List.replicate k 32) ws) ss.flatten true true
  | [], _, _, h, _ => absurd rfl h
  | [w], [s], _, _, h => by
    have := h 0 w s rfl rfl
    simpa [TL.joinL] using this
  | [_], [], h, _, _ => by simp at h
  | [_], _ :: _ :: _, h, _, _ => by simp at h
  | _ :: _ :: _, [], h, _, _ => by simp at h
  | w :: w2 :: ws, s :: ss, hl, _, h => by
    have ih := Vl.words hk (w2 :: ws) ss (by simpa using hl) (by simp) (fun i x y hx hy => h (i + 1) x y hx hy)
    have := (h 0 w s rfl rfl).cat ih hk
    rw [Bool.and_self, if_pos rfl, List.nil_append] at this
    show Vl (w ++ (List.replicate k 32 ++ TL.joinL (List.replicate k 32) (w2 :: ws))) _ _ _
    rw [List.flatten_cons]
    exact this
/-! ### the words of a coded saying tell its parts -/
theorem octs_one (s : Nat) : 1 ≤ (octs s).length := by
  unfold octs
  split
  · simp
  · split <;> simp
theorem octs_many : ∀ l : List Nat, l.length ≤ (octsOf l).length
  | [] => Nat.le_refl _
  | s :: r => by
    have h1 := octs_one s
    have h2 := octs_many r
    have e : octsOf (s :: r) = octs s ++ octsOf r := by unfold octsOf; rw [List.flatMap_cons]
    rw [e, List.length_append, List.length_cons]
    omega
theorem octs_ne {l : List Nat} (h : l ≠ []) : octsOf l ≠ [] := fun e => by
  have := octs_many l
  rw [e] at this
  exact h (List.eq_nil_of_length_eq_zero (by simpa using this))
theorem sayR_more {l : List Nat} : ∀ {n p : Nat} {R : Except Nat (List Nat)}, sayR l n p = some R → ∀ {m : Nat}, n ≤ m → sayR l m p = some R
  | 0, p, R, h, m, _ => by
    unfold sayR at h
    by_cases hp : p < l.length
    · rw [if_pos hp] at h
      cases h
    · rw [if_neg hp] at h
      cases m with
      | zero =>
        unfold sayR
        rw [if_neg hp]
        exact h
      | succ m =>
        unfold sayR
        rw [List.getElem?_eq_none (by omega)]
        exact h
  | n + 1, p, R, h, m, hm => by
    match m, hm with
    | m + 1, hm =>
      unfold sayR at h ⊢
      cases hp : l[p]? with
      | none =>
        rw [hp] at h
        exact h
      | some o =>
        rw [hp] at h
        dsimp only at h ⊢
        cases hs : signR ((l.drop p).take (sizeFrom o)) with
        | none =>
          rw [hs] at h
          exact h
        | some s =>
          rw [hs] at h
          dsimp only at h ⊢
          cases hr : sayR l n (p + ((l.drop p).take (sizeFrom o)).length) with
          | none =>
            rw [hr] at h
            cases h
          | some R2 =>
            rw [hr] at h
            rw [sayR_more hr (by omega : n ≤ m)]
            exact h
theorem sayO_of {l : List Nat} (h : ∀ n ∈ l, 32 ≤ n ∧ n ≤ 65535) : sayO (octsOf l) = some l := by
  unfold sayO
  have h1 := sayR_octs h [] l rfl
  have e0 : (octsOf ([] : List Nat)).length = 0 := rfl
  rw [e0] at h1
  have hn : l.length ≤ (octsOf l).length := octs_many l
  rw [sayR_more h1 hn]
theorem word_parts (c : Nat) (u : List Nat) : (([61, 63, c, 63] ++ u ++ [63, 61]).take 4 = [61, 63, c, 63]) ∧ innerW ([61, 63, c, 63] ++ u ++ [63, 61]) = u ∧ endsQ ([61, 63, c, 63] ++ u ++ [63, 61]) = true := by
  have hl : ([61, 63, c, 63] ++ u ++ [63, 61]).length - 2 = ([61, 63, c, 63] ++ u).length := by
    rw [List.length_append]
    rfl
  refine ⟨?_, ?_, ?_⟩
  · rw [List.append_assoc]
    rfl
  · unfold innerW
    rw [hl, List.take_left]
    rfl
  · unfold endsQ
    rw [hl, List.drop_left]
    exact decide_eq_true rfl
theorem wordC_eq (wr : List Nat → List Nat) (c : Nat) (row : List Nat) : wordC wr c row = [61, 63, c, 63] ++ wr row ++ [63, 61] := rfl
theorem line_one {l : List Nat} (h1 : 1 ≤ (sixC l).length) (h2 : (sixC l).length ≤ 72) : lines6 l = sixC l ++ [10] := by
  unfold lines6 linesX
  have : ((sixC l).length + 71) / 72 = 1 := by omega
  rw [this]
  show (lineAt (sixC l) 0 ++ []) = _
  unfold lineAt
  rw [Nat.mul_zero, List.drop_zero, List.take_of_length_le h2, List.append_nil]
theorem six_ne {l : List Nat} (h : l ≠ []) : sixC l ≠ [] := sixC_ne h
theorem told_six {l : List Nat} (hb : ∀ x ∈ l, x < 256) (hn : l ≠ []) (hl : (sixC l).length ≤ 72) : toldO (sixC l) (sixC l ++ [10]) read6 sixC = some l := by
  have h1 : 1 ≤ (sixC l).length := by
    cases h : sixC l with
    | nil => exact absurd h (six_ne hn)
    | cons a r => simp
  unfold toldO
  rw [← line_one h1 hl, readBy6 hb]
  exact if_pos rfl
theorem markC_c (o : Nat) : (o = 32 ∧ markC o = [95]) ∨ (o ≠ 32 ∧ o ≠ 95 ∧ o ≠ 61 ∧ markC o = [o]) ∨ (markC o = 61 :: hex2 o) := by
  unfold markC
  by_cases h : o = 32
  · exact .inl ⟨h, if_pos h⟩
  · rw [if_neg h]
    by_cases h2 : numb o = true ∧ (isLet o || isFig o) = true
    · rw [if_pos h2]
      have h3 := h2.2
      unfold isLet isFig at h3
      simp only [Bool.or_eq_true, decide_eq_true_eq] at h3
      exact .inr (.inl ⟨h, by omega, by omega, rfl⟩)
    · rw [if_neg h2]
      exact .inr (.inr rfl)
theorem rep95_app (a b : List Nat) : rep95 (a ++ b) = rep95 a ++ rep95 b := by unfold rep95; rw [List.flatMap_append]
theorem hexd_95 : ∀ k, k < 16 → hexd k ≠ 95 := by decide
theorem readM_marks : ∀ (r : List Nat) (n p : Nat) (acc : List Nat), (∀ x ∈ r, x < 256) → (rep95 (marksC r) ++ [61, 10]).length ≤ n → readM n (rep95 (marksC r) ++ [61, 10]) p acc = .ok (acc ++ r)
  | [], n, p, acc, _, hn => by
    match n, hn with
    | n + 1, _ =>
      show readM (n + 1) (61 :: 10 :: []) p acc = _
      rw [readM_soft, readM_nil, List.append_nil]
  | o :: r, n, p, acc, hb, hn => by
    have ho := hb o (List.mem_cons_self ..)
    have hr := fun x hx => hb x (List.mem_cons_of_mem _ hx)
    have e : marksC (o :: r) = markC o ++ marksC r := by unfold marksC; rw [List.flatMap_cons]
    rw [e, rep95_app, List.append_assoc] at hn ⊢
    have fin : ∀ n p, (rep95 (marksC r) ++ [61, 10]).length ≤ n → readM n (rep95 (marksC r) ++ [61, 10]) p (acc ++ [o]) = .ok (acc ++ o :: r) := fun n p h => by
      rw [readM_marks r n p (acc ++ [o]) hr h, List.append_assoc]
      rfl
    rcases markC_c o with ⟨h, hm⟩ | ⟨h1, h2, h3, hm⟩ | hm
    · rw [hm] at hn ⊢
      have e95 : rep95 [95] = 61 :: hexd (32 / 16) :: hexd (32 % 16) :: [] := by decide
      rw [e95] at hn ⊢
      match n, hn with
      | n + 1, hn =>
        show readM (n + 1) (61 :: hexd (32 / 16) :: hexd (32 % 16) :: (rep95 (marksC r) ++ [61, 10])) p acc = _
        rw [readM_hex (by decide), ← h]
        exact fin _ _ (by simp at hn ⊢; omega)
    · rw [hm] at hn ⊢
      have eo : rep95 [o] = [o] := by
        unfold rep95
        rw [List.flatMap_singleton, if_neg h2]
      rw [eo] at hn ⊢
      match n, hn with
      | n + 1, hn =>
        rw [List.cons_append, List.nil_append, readM, if_neg h3, if_neg h1]
        exact fin _ _ (by simp at hn ⊢; omega)
    · rw [hm] at hn ⊢
      have eh : rep95 (61 :: hex2 o) = 61 :: hexd (o / 16) :: hexd (o % 16) :: [] := by
        have a1 := hexd_95 (o / 16) (by omega)
        have a2 := hexd_95 (o % 16) (by omega)
        show rep95 [61, hexd (o / 16), hexd (o % 16)] = _
        unfold rep95
        simp [a1, a2]
      rw [eh] at hn ⊢
      match n, hn with
      | n + 1, hn =>
        show readM (n + 1) (61 :: hexd (o / 16) :: hexd (o % 16) :: (rep95 (marksC r) ++ [61, 10])) p acc = _
        rw [readM_hex ho]
        exact fin _ _ (by simp at hn ⊢; omega)
theorem told_marks {l : List Nat} (hb : ∀ x ∈ l, x < 256) : toldO (marksC l) (rep95 (marksC l) ++ [61, 10]) readMk marksC = some l := by
  unfold toldO readBy readMk
  rw [readM_marks l _ 0 [] hb (Nat.le_refl _)]
  dsimp only
  rw [if_neg (fun h => h.2 (by rw [List.getLast?_append]; rfl)), List.nil_append]
  exact if_pos rfl
theorem marks_ne {l : List Nat} (h : l ≠ []) : marksC l ≠ [] := by
  cases l with
  | nil => exact absurd rfl h
  | cons o r =>
    unfold marksC
    rw [List.flatMap_cons]
    rcases markC_c o with ⟨_, hm⟩ | ⟨_, _, _, hm⟩ | hm <;> (rw [hm]; simp)
theorem six_ok : ∀ c ∈ SIXS.cps.toList, c ≠ 32 ∧ c ≠ 10 := by decide +kernel
/-- a word of sixes, a word of marks -/
theorem sayW_six {p : List Nat} (hg : ∀ n ∈ p, 32 ≤ n ∧ n ≤ 65535) (hn : p ≠ []) (hl : (sixC (octsOf p)).length ≤ 72) : sayW (wordC sixC 115 (octsOf p)) = some p := by
  have hon : octsOf p ≠ [] := octs_ne hn
  obtain ⟨h1, h2, h3⟩ := word_parts 115 (sixC (octsOf p))
  unfold sayW octW
  rw [wordC_eq, h2, h3, if_neg (by rintro (h | h); exact six_ne hon h; cases h), if_pos h1, told_six (octsOf_lt hg) hon hl]
  exact sayO_of hg
theorem sayW_marks {p : List Nat} (hg : ∀ n ∈ p, 32 ≤ n ∧ n ≤ 65535) (hn : p ≠ []) : sayW (wordC marksC 109 (octsOf p)) = some p := by
  have hon : octsOf p ≠ [] := octs_ne hn
  obtain ⟨h1, h2, h3⟩ := word_parts 109 (marksC (octsOf p))
  unfold sayW octW
  rw [wordC_eq, h2, h3, if_neg (by rintro (h | h); exact marks_ne hon h; cases h), if_neg (by rw [h1]; decide), if_pos h1, told_marks (octsOf_lt hg)]
  exact sayO_of hg
end FL


namespace FL
open PySem PySem.Spec PyProof.Rows L2
/-! ### a coded saying's value -/
def Good (l : List Nat) : Prop := ∀ n ∈ l, 32 ≤ n ∧ n ≤ 65535
def PartsOk (wr : List Nat → List Nat) (ps : List (List Nat)) : Prop := ∀ p ∈ ps, p ≠ [] ∧ (wr (octsOf p)).length ≤ 54
theorem octsOf_one (s : Nat) : octsOf [s] = octs s := by
  unfold octsOf
  rw [List.flatMap_singleton]
theorem rows_parts {wr : List Nat → List Nat} (h1 : ∀ s, 32 ≤ s ∧ s ≤ 65535 → (wr (octs s)).length ≤ 54) : ∀ (l : List Nat) (ps : List (List Nat)), Good l → PartsOk wr ps →
    ∃ qs, l.foldl (fun rows s => stepW wr rows (octs s)) (ps.map octsOf) = qs.map octsOf ∧ qs.flatten = ps.flatten ++ l ∧ PartsOk wr qs
  | [], ps, _, h => ⟨ps, rfl, by rw [List.append_nil], h⟩
  | s :: l, ps, hg, h => by
    have hs := hg s (List.mem_cons_self ..)
    have hl : Good l := fun n hn => hg n (List.mem_cons_of_mem _ hn)
    rw [List.foldl_cons]
    have key : ∃ qs, stepW wr (ps.map octsOf) (octs s) = qs.map octsOf ∧ qs.flatten = ps.flatten ++ [s] ∧ PartsOk wr qs := by
      unfold stepW
      by_cases hc : ps.map octsOf ≠ [] ∧ (wr ((ps.map octsOf).getLastD [] ++ octs s)).length ≤ 54
      · rw [if_pos hc]
        rcases List.eq_nil_or_concat ps with rfl | ⟨qs, q, rfl⟩
        · exact absurd rfl hc.1
        · rw [List.concat_eq_append] at *
          have e1 : ((qs ++ [q]).map octsOf).getLastD [] = octsOf q := by simp
          have e2 : ((qs ++ [q]).map octsOf).dropLast = qs.map octsOf := by simp
          have e3 : octsOf q ++ octs s = octsOf (q ++ [s]) := (octsOf_snoc q s).symm
          rw [e1, e3] at hc
          rw [e1, e2, e3]
          refine ⟨qs ++ [q ++ [s]], by simp, by simp, fun p hp => ?_⟩
          rcases List.mem_append.mp hp with hp | hp
          · exact h p (List.mem_append_left _ hp)
          · rw [List.mem_singleton.mp hp]
            exact ⟨by simp, hc.2⟩
      · rw [if_neg hc]
        refine ⟨ps ++ [[s]], by rw [List.map_append, List.map_singleton, octsOf_one], by simp, fun p hp => ?_⟩
        rcases List.mem_append.mp hp with hp | hp
        · exact h p hp
        · rw [List.mem_singleton.mp hp]
          exact ⟨by simp, by rw [octsOf_one]; exact h1 s hs⟩
    obtain ⟨qs, e1, e2, e3⟩ := key
    rw [e1]
    obtain ⟨rs, f1, f2, f3⟩ := rows_parts h1 l qs hl e3
    exact ⟨rs, f1, by rw [f2, e2, List.append_assoc]; rfl, f3⟩
theorem octs_few {s : Nat} : (octs s).length ≤ 3 := by
  unfold octs
  split
  · simp
  · split <;> simp
theorem six_few (s : Nat) : (sixC (octs s)).length ≤ 54 := by
  have h1 := sixC_len3 (octs s)
  have h2 := octs_few (s := s)
  omega
theorem marks_few (s : Nat) : (marksC (octs s)).length ≤ 54 := by
  have h1 := marksC_len (octs s)
  have h2 := octs_few (s := s)
  omega
/-- one of the two ways -/
inductive Way where
  | s
  | m
def Way.c : Way → Nat
  | .s => 115
  | .m => 109
def Way.wr : Way → List Nat → List Nat
  | .s => sixC
  | .m => marksC
def Way.word (y : Way) (p : List Nat) : List Nat := wordC y.wr y.c (octsOf p)
theorem Way.parts (y : Way) {l : List Nat} (h : Good l) : ∃ ps, rowsW y.wr octs l = ps.map octsOf ∧ ps.flatten = l ∧ PartsOk y.wr ps := by
  obtain ⟨qs, e1, e2, e3⟩ := rows_parts (wr := y.wr) (fun s _ => by cases y; exact six_few s; exact marks_few s) l [] h (fun p hp => by cases hp)
  exact ⟨qs, e1, by rw [e2]; rfl, e3⟩
theorem six_no32 {l : List Nat} : ∀ c ∈ SIXS.cps.toList, c ≠ 32 := fun c hc => (six_ok c hc).1
theorem six_32 : ∀ n, n < 64 → six n ≠ 32 := by decide +kernel
theorem four_32 {l : List Nat} (hb : ∀ x ∈ l, x < 256) (hl : l.length ≤ 3) : ∀ c ∈ four l, c ≠ 32 := by
  match l, hb, hl with
  | [], _, _ => simp [four]
  | [a], hb, _ =>
    have := hb a (by simp)
    intro c hc
    simp [FL.four] at hc
    rcases hc with rfl | rfl | rfl
    · exact six_32 _ (by omega)
    · exact six_32 _ (by omega)
    · decide
  | [a, b], hb, _ =>
    have := hb a (by simp)
    have := hb b (by simp)
    intro c hc
    simp [FL.four] at hc
    rcases hc with rfl | rfl | rfl | rfl
    · exact six_32 _ (by omega)
    · exact six_32 _ (by omega)
    · exact six_32 _ (by omega)
    · decide
  | [a, b, d], hb, _ =>
    have := hb a (by simp)
    have := hb b (by simp)
    have := hb d (by simp)
    intro c hc
    simp [FL.four] at hc
    rcases hc with rfl | rfl | rfl | rfl
    · exact six_32 _ (by omega)
    · exact six_32 _ (by omega)
    · exact six_32 _ (by omega)
    · exact six_32 _ (by omega)
  | _ :: _ :: _ :: _ :: _, _, h => simp at h
theorem sixC_32 : ∀ (n : Nat) (l : List Nat), l.length ≤ n → (∀ x ∈ l, x < 256) → ∀ c ∈ sixC l, c ≠ 32
  | n, [], _, _, c, hc => by simp [sixC] at hc
  | 0, a :: r, h, _, _, _ => by simp at h
  | n + 1, a :: r, h, hb, c, hc => by
    rw [sixC_step (by simp)] at hc
    rcases List.mem_append.mp hc with hc | hc
    · exact four_32 (fun x hx => hb x (List.mem_of_mem_take hx)) (List.length_take_le _ _) c hc
    · exact sixC_32 n _ (by rw [List.length_drop]; simp at h ⊢; omega) (fun x hx => hb x (List.mem_of_mem_drop hx)) c hc
theorem marksC_32 {l : List Nat} (hb : ∀ x ∈ l, x < 256) : ∀ c ∈ marksC l, c ≠ 32 := by
  intro c hc
  unfold marksC at hc
  obtain ⟨o, ho, hc⟩ := List.mem_flatMap.mp hc
  have h256 := hb o ho
  rcases markC_c o with ⟨_, hm⟩ | ⟨h, _, _, hm⟩ | hm
  · rw [hm] at hc
    rw [List.mem_singleton.mp hc]
    decide
  · rw [hm] at hc
    rw [List.mem_singleton.mp hc]
    exact h
  · rw [hm] at hc
    rcases List.mem_cons.mp hc with rfl | hc
    · decide
    · have h1 := hexd_c (o / 16) (by omega)
      have h2 := hexd_c (o % 16) (by omega)
      simp [hex2] at hc
      rcases hc with rfl | rfl
      · exact h1.2.2.1
      · exact h2.2.2.1
theorem Way.word_32 (y : Way) {p : List Nat} (h : Good p) : ∀ c ∈ y.word p, c ≠ 32 := by
  intro c hc
  have hb := octsOf_lt h
  unfold Way.word wordC at hc
  rcases List.mem_append.mp hc with hc | hc
  · rcases List.mem_append.mp hc with hc | hc
    · cases y <;> simp [Way.c] at hc <;> omega
    · cases y with
      | s => exact sixC_32 _ _ (Nat.le_refl _) hb c hc
      | m => exact marksC_32 hb c hc
  · simp at hc
    omega
theorem Way.vl (y : Way) {p : List Nat} (h : Good p) (hn : p ≠ []) (hl : (y.wr (octsOf p)).length ≤ 54) : Vl (y.word p) p true true := by
  refine Vl.word ?_ (y.word_32 h) ?_
  · unfold Way.word wordC
    simp
  · cases y with
    | s => exact sayW_six h hn (Nat.le_trans hl (by decide))
    | m => exact sayW_marks h hn
/-- words of parts, so many blanks between -/
theorem Way.vls (y : Way) {k : Nat} (hk : 1 ≤ k) {ps : List (List Nat)} (hn : ps ≠ []) (hg : ∀ p ∈ ps, Good p) (h : PartsOk y.wr ps) : Vl (TL.joinL (List.replicate k 32) (ps.map y.word)) ps.flatten true true := by
  refine Vl.words hk _ _ (by rw [List.length_map]) (by simpa using hn) fun i w s hw hs => ?_
  rw [List.getElem?_map, hs] at hw
  have hw : y.word s = w := Option.some.inj hw
  rw [← hw]
  have hm := List.mem_of_getElem? hs
  exact y.vl (hg s hm) (h s hm).1 (h s hm).2
theorem Good.part {ps : List (List Nat)} (h : Good ps.flatten) : ∀ p ∈ ps, Good p := fun p hp n hn => h n (List.mem_flatten.mpr ⟨p, hp, hn⟩)
/-- what a coded saying is: itself, or words -/
theorem coded_cases (l : List Nat) (h : Good l) : (ownT l = true ∧ codedC l = l) ∨ (ownT l = false ∧ ∃ (y : Way) (ps : List (List Nat)), codedC l = TL.joinL [32] (ps.map y.word) ∧ ps.flatten = l ∧ PartsOk y.wr ps) := by
  unfold codedC
  cases ho : ownT l with
  | true => exact .inl ⟨rfl, if_pos rfl⟩
  | false =>
    refine .inr ⟨rfl, ?_⟩
    rw [if_neg Bool.false_ne_true]
    split
    · obtain ⟨ps, e1, e2, e3⟩ := Way.parts .s h
      refine ⟨.s, ps, ?_, e2, e3⟩
      unfold byC
      rw [show rowsW sixC octs l = ps.map octsOf from e1, List.map_map]
      rfl
    · obtain ⟨ps, e1, e2, e3⟩ := Way.parts .m h
      refine ⟨.m, ps, ?_, e2, e3⟩
      unfold byC
      rw [show rowsW marksC octs l = ps.map octsOf from e1, List.map_map]
      rfl
theorem q_at {z : Str} : hasQ z = true ↔ ∃ i, z.cps.toList[i]? = some 61 ∧ z.cps.toList[i + 1]? = some 63 := by
  unfold hasQ
  rw [PySem.StrLaws.found_iff]
  have e : ("=?" : Str).cps.toList = [61, 63] := by decide +kernel
  have el : ("=?" : Str).length = 2 := by decide +kernel
  rw [el]
  have key : ∀ i, (PySem.Builtin.Str.subAt z ("=?" : Str) i = true) ↔ (z.cps.toList.drop i).take 2 = [61, 63] := fun i => by
    rw [PySem.StrLaws.subAt_eq, el, e]
    exact beq_iff_eq
  constructor
  · rintro ⟨i, _, hi⟩
    have := (key i).mp hi
    refine ⟨i, ?_, ?_⟩
    · have h := congrArg (fun x : List Nat => x[0]?) this
      rw [List.getElem?_take_of_lt (by decide), List.getElem?_drop] at h
      exact h
    · have h := congrArg (fun x : List Nat => x[1]?) this
      rw [List.getElem?_take_of_lt (by decide), List.getElem?_drop] at h
      exact h
  · rintro ⟨i, h1, h2⟩
    have l2 := (List.getElem?_eq_some_iff.mp h2).1
    rw [len_cps] at l2
    refine ⟨i, by omega, (key i).mpr ?_⟩
    rw [drop_at h1, drop_at h2]
    try rfl
theorem own_noq {l : List Nat} (h : ownT l = true) : NoQ l := by
  unfold ownT at h
  have h2 := (Bool.and_eq_true_iff.mp (Bool.and_eq_true_iff.mp h).2).2
  intro i hi
  have : hasQ (mk l) = true := q_at.mpr ⟨i, by rw [mk_codes]; exact hi⟩
  rw [this] at h2
  cases h2
theorem own_trim {l : List Nat} (h : ownT l = true) : l.head? ≠ some 32 ∧ l.getLast? ≠ some 32 := by
  unfold ownT at h
  have h2 := of_decide_eq_true (Bool.and_eq_true_iff.mp (Bool.and_eq_true_iff.mp h).2).1
  have h3 := congrArg (fun t : Str => t.cps.toList) h2
  rw [strip_codes, mk_codes] at h3
  obtain ⟨a, b⟩ := stripL_id.mp h3.symm
  refine ⟨a, ?_⟩
  rw [List.head?_reverse] at b
  exact b
theorem own_numb {l : List Nat} (h : ownT l = true) : ∀ c ∈ l, numb c = true := List.all_eq_true.mp (Bool.and_eq_true_iff.mp h).1
theorem join_one32 : (List.replicate 1 32 : List Nat) = [32] := rfl
/-- a coded saying is a value that tells it -/
theorem coded_vl {l : List Nat} (h : Good l) (hn : l ≠ []) : Vl (codedC l) l (!ownT l) (!ownT l) := by
  rcases coded_cases l h with ⟨ho, e⟩ | ⟨ho, y, ps, e, hf, hp⟩
  · rw [ho, e]
    exact Vl.plain hn (own_trim ho).1 (own_trim ho).2 (own_noq ho)
  · rw [ho, e]
    have hps : ps ≠ [] := fun z => hn (by rw [← hf, z]; rfl)
    have := y.vls (k := 1) (Nat.le_refl 1) hps (Good.part (by rw [hf]; exact h)) hp
    rw [hf] at this
    exact this
theorem coded_nil : codedC [] = [] := by decide +kernel
theorem dec_coded {l : List Nat} (h : Good l) : decL (codedC l) = l := by
  by_cases hn : l = []
  · subst hn
    rw [coded_nil]
    rfl
  · exact (coded_vl h hn).out
theorem Way.word_q (y : Way) (p : List Nat) : ∃ r, y.word p = 61 :: 63 :: r := ⟨_, rfl⟩
theorem coded_q {l : List Nat} (h : Good l) (hn : l ≠ []) : hasQ (mk (codedC l)) = !ownT l := by
  rcases coded_cases l h with ⟨ho, e⟩ | ⟨ho, y, ps, e, hf, hp⟩
  · rw [ho, e]
    unfold ownT at ho
    have := (Bool.and_eq_true_iff.mp (Bool.and_eq_true_iff.mp ho).2).2
    cases hq : hasQ (mk l) with
    | false => rfl
    | true =>
      rw [hq] at this
      cases this
  · rw [ho, e]
    refine q_at.mpr ⟨0, ?_⟩
    rw [mk_codes]
    cases ps with
    | nil => exact absurd (by rw [← hf]; rfl) hn
    | cons p ps =>
      cases ps with
      | nil =>
        have : TL.joinL [32] ([p].map y.word) = y.word p := by simp [TL.joinL]
        rw [this]
        exact ⟨rfl, rfl⟩
      | cons p2 ps => exact ⟨rfl, rfl⟩
end FL


namespace FL
open PySem PySem.Spec PyProof.Rows L2
/-! ### e.replace(text, f(..)), f a def that makes a new text: its token is told -/
def FrRun (P : Program) (w : World) (K : PySem.W.Frag) (mg : Str → Option Value) (base : Heap) (CX : CXT) (k : Nat) (f : Addr) (fd : FuncData) (ps : List Str) (sp : Sp) : Prop :=
  ∀ (A : Around) (outer : List Env) (s : Shared) (H : Hp) (args : Args) (us : List Value) (vs : List V) (Q : VK) (E : XK), Room k A → Env0 P w K mg base A outer s H → BindsTo s fd args (ps.zip us) → Vals vs us → sp vs H Q E →
    codeAny (model P w) A (.call (.ref f) args) (fun r s' => CR CX outer P w H s Q E r s' ∧ ∀ v, r = .ok (.ret v) → ∃ z t, v = Value.str z t ∧ s.toks ≤ t) s
theorem pj_runT {X : Cx} {n : Nat} {pins : List (Addr × Obj)} {σ : L2.St} {es : List Expr} {ts : List TE} (h : PJ X es ts) : ∀ (acc : Str) (s : Shared) (H : Hp) (Q : Str → Hp → Prop) (R : Str → Shared → Prop), acc.length ≤ sizeLine → n ≤ s.toks → Inv X pins σ H s → tJs ts acc σ H Q →
    (∀ out s1 H1, out.length ≤ sizeLine → n ≤ s1.toks → Inv X pins σ H1 s1 → Q out H1 → R out s1) → Joins (model X.prog X.w) X.A X.xe (evalEach es X.env) acc R s := by
  induction h with
  | nil =>
    intro acc s H Q R hz hn I q k
    have e0 : evalEach [] X.env = [] := by first | rfl | simp [evalEach]
    rw [e0]
    exact k acc s H hz hn I q
  | @cons e t es ts he r ih =>
    intro acc s H Q R hz hn I q k
    have e0 : evalEach (e :: es) X.env = eval e X.env :: evalEach es X.env := by first | rfl | simp [evalEach]
    rw [e0]
    refine wpAny_mono (PySem.wpAny_toks_of hn (he.run pins s σ H _ I q)) (fun v s1 hv => ?_) fun _ _ z => z.2
    obtain ⟨hk, x, H1, I1, r1, y, rfl, hy, q1⟩ := hv
    obtain ⟨tk, rfl⟩ := r1
    exact ⟨y, tk, rfl, hy, ih (acc ++ y) s1 H1 Q R hy hk I1 q1 k⟩
/-- a def of one line that returns a text put together -/
theorem frRun {P : Program} {w : World} {K : PySem.W.Frag} {mg : Str → Option Value} {base : Heap} {x qual : Str} {st : Stmt} {f : Addr} {fd : FuncData} {N ps : List Str} {k : Nat} {sp : Sp} {v1 v2 : Expr} {rest : List Expr} {jp rp : Pos} (F : Fun K x qual st f fd) (S : FnScope N ps (defScope st))
    (many : ∀ vs H Q E, sp vs H Q E → vs.length = ps.length) (hbd : defBody st = [.Return (some (.JoinedStr (v1 :: v2 :: rest) jp)) rp])
    (body : ∀ (cdv : Value) (A : Around) (around : List Env) (s : Shared) (H : Hp) (vs : List V) (Q : VK) (E : XK), Room k (A.deeper (envOfC qual (defScope st) s.heap.objs.size f cdv)) → sp vs H Q E →
      ∃ ts, PJ (cxOf CX0 P w K mg base N qual (defScope st) f cdv A around s H E) (v1 :: v2 :: rest) ts ∧ tJs ts Str.empty (start N vs) H fun out H1 => Q (.str out) H1) : FrRun P w K mg base CX0 (k + 1) f fd ps sp := by
  obtain ⟨oc, od, kV, doc, pm, an, cdv, ct, osl, rfl, lk, hcd⟩ := F.ex
  intro A around s H args us vs Q E room e0 hb rv hsp
  have hlen := many _ _ _ _ hsp
  have inK : K.In s.heap := e0.mod.kin.keeps fun b o e => (e0.bs b o e).1
  have noL : s.heap.NoLimit := e0.mod.nolimit.keeps fun b o e => (e0.bs b o e).1
  have kinds : ∀ y ∈ ps.zip us, (defScope st).names.lookup y.1 = some .local ∨ ((defScope st).names.lookup y.1 = some .cell ∧ ((cellsFrom (s.heap.objs.size + 1) (defScope st).names []).lookup y.1).isSome = true) := fun ⟨m, v⟩ hy => by
    cases S.par m (List.of_mem_zip hy).1 with
    | inl q => exact .inl q
    | inr q => exact .inr ⟨q, PySem.W.cellsFrom_some _ _ _ (.inl q)⟩
  refine codeAny_call_function room.depth (inK _ _ lk) rfl S.co S.gen rfl (PySem.W.codeRec_of inK hcd) (hb _ _ _ _ (wpAny_with_toks (n := s.toks) (Nat.le_refl _) (wpAny_newFunctionEnv_cells S.kind kinds fun env he s1 ic hk => ?_)))
  subst he
  refine ⟨noL.keeps ic.toInCall.keep, codeAny_func ?_⟩
  obtain ⟨ts, h0, hq⟩ := body cdv A around s H vs Q E (room.deeper _) hsp
  have I : Inv (cxOf CX0 P w K mg base N qual (defScope st) f cdv A around s H E) [] (start N vs) H s1 := inv_start S room.hd e0 hlen rv ic
  have main : wpAny (model P w) (cxOf CX0 P w K mg base N qual (defScope st) f cdv A around s H E).A (eval (.JoinedStr (v1 :: v2 :: rest) jp) (cxOf CX0 P w K mg base N qual (defScope st) f cdv A around s H E).env)
      (fun u s' => CE around P w H s Q u s' ∧ ∃ z t, u = Value.str z t ∧ s.toks ≤ t) (cxOf CX0 P w K mg base N qual (defScope st) f cdv A around s H E).xe s1 := by
    refine wpAny_JoinedStr (pj_runT h0 Str.empty s1 H (fun out H1 => Q (.str out) H1) _ (Nat.zero_le _) hk I hq fun out s2 H2 hz hk2 J q => ?_)
    have J2 := J.tok (s2.toks + 1)
    exact ⟨hz, ⟨.str out, H2, J2.os, J2.bare, J2.base, J2.hok, ⟨_, rfl⟩, q⟩, _, _, rfl, hk2⟩
  have main2 : wpAny (model P w) (cxOf CX0 P w K mg base N qual (defScope st) f cdv A around s H E).A (execs [.Return (some (.JoinedStr (v1 :: v2 :: rest) jp)) rp] (cxOf CX0 P w K mg base N qual (defScope st) f cdv A around s H E).env)
      (fun fl s' => ∃ u, fl = .ret u ∧ CE around P w H s Q u s' ∧ ∃ z t, u = Value.str z t ∧ s.toks ≤ t) (cxOf CX0 P w K mg base N qual (defScope st) f cdv A around s H E).xe s1 :=
    wpAny_execs_cons (wpAny_Return_some (wpAny_mono main (fun u s' h => ⟨u, rfl, h⟩) (fun _ _ h => h)))
  rw [← hbd] at main2
  refine wpAny_mono main2 (fun fl s' h => ?_) fun e s' hs => ?_
  · obtain ⟨u, e, h1, h2⟩ := h
    subst e
    exact ⟨h1, fun v e => by cases e; exact h2⟩
  · exact wpAny_mono hs (fun x s'' h => ⟨h, fun v e => by cases e⟩) fun e' s'' h => ⟨h, fun v e => by cases e⟩
def tReplF (to : TE) (y : Str) (sp : Sp) (E : XK) (t : TA) : TE := fun σ H Q => to σ H fun v H1 => ∃ x, v = .str x ∧ t σ H1 fun vs H2 => sp vs H2 (fun u H3 => ∃ z, u = .str z ∧ (y == z) = false ∧
  x.length + (x.length + 1) * z.length ≤ 16777216 ∧ Q (.str (Txt.replace x y z)) H3) E
section
variable {X : Cx} {o a : Expr} {es : List Expr} {to : TE} {t : TA} {y x : Str} {j k : Nat} {f : Addr} {fd : FuncData} {ps : List Str} {sp : Sp} {E : XK} {c0 apos pos p cp : Pos}
theorem pet_replF (ho : PE X o to) (F : FrRun X.prog X.w X.K X.mg X.base CX0 k f fd ps sp) (many : ∀ vs H Q E, sp vs H Q E → vs.length = ps.length) (hr : Room k X.A) (hg : Gl X x) (hm : X.mg x = some (.ref f)) (hk : PySem.W.keepIn X.K (.ref f) = true) (hb : Binds X.K fd ps []) (hx : Passes CX0 X E) (ha : PA X (a :: es) t)
    (hdb : (x == ("__debug__" : Str)) = false := by decide) (he : starEach (a :: es) X.env = (false, eval a X.env) :: starEach es X.env := by rfl) (hpl : (backTo cp (starEach es X.env)).any (·.1) = false := by rfl)
    (hst : starEach [.Constant (.str y) j c0, .Call (.Name x p) (a :: es) [] cp] X.env = [(false, eval (.Constant (.str y) j c0) X.env), (false, eval (.Call (.Name x p) (a :: es) [] cp) X.env)] := by rfl)
    (hbase : attributeBase o "replace" X.env (eval o X.env) = eval o X.env := by rfl) (hline : (apos.endLine == pos.line) = true := by rfl) :
    PET X (.Call (.Attribute o "replace" apos) [.Constant (.str y) j c0, .Call (.Name x p) (a :: es) [] cp] [] pos) (tReplF to y sp E t) := by
  intro pins s σ H Q h0 I h
  refine PySem.Call_method2 hbase hst hline (wpAny_mono (PySem.wpAny_toks (ho.run pins s σ H _ I h)) (fun v s1 q => ?_) fun _ _ z => z.2)
  obtain ⟨hk1, v', H1, I1, r1, z, e1, q⟩ := q
  subst e1
  obtain ⟨tx, e2⟩ := r1
  subst e2
  refine ⟨"str", _, PySem.F.plainAttrs_str, PySem.F.slot_str_replace, PySem.F.type_str_replace, typeIs_str _ _ _, (fun _ e => nomatch e), Calls.callWith_builtin rfl (Calls.evalArgs_plain (Calls.spliced_cons ?_))⟩
  refine Calls.Constant_str (Calls.spliced_cons ?_)
  have I1' := I1.tok (s1.toks + 1)
  refine wpAny_Call_Name_kw (ld_glob I1' hg hm ?_ hdb)
  refine PySem.W.callWith_K (h₀ := X.base) I.ok.mod.kin hk (wpAny_mono (PySem.wpAny_toks (ha.run cp pins { s1 with toks := s1.toks + 1 } σ H1 _ I1' q)) (fun us s2 q2 => ?_) fun _ _ z => z.2) he hpl
  obtain ⟨hk2, vs, H2, I2, r, q2⟩ := q2
  refine ⟨I2.kIn, ?_⟩
  have hk2 : s1.toks + 1 ≤ s2.toks := hk2
  have hl : us.length = ps.length := by rw [← r.length]; exact many _ _ _ _ q2
  have hbb : BindsTo s2 fd ⟨us, []⟩ (ps.zip us) := by
    have := hb s2 us I2.kIn (by rw [List.append_nil]; exact hl)
    rw [List.append_nil] at this
    exact this
  refine wpAny_call (codeAny_mono (F X.A X.stack s2 H2 ⟨us, []⟩ us vs _ E hr I2.env0 hbb r q2) fun r s' hq => ?_)
  obtain ⟨hq, ht⟩ := hq
  cases r with
  | error e => exact hx pins σ H2 s2 e s' I2 hq
  | ok fl =>
    cases fl with
    | next => exact False.elim hq
    | brk => exact False.elim hq
    | cont => exact False.elim hq
    | ret u =>
      obtain ⟨zz, t', e3, ht'⟩ := ht _ rfl
      subst e3
      obtain ⟨v3, H3, I3, r3, z3, e4, hne, hb16, qq⟩ := I2.after hq
      subst e4
      obtain ⟨t4, e5⟩ := r3
      cases e5
      refine Calls.spliced_nil ?_
      exact PySem.SC.replace (by show s1.toks ≠ 0; omega) (Nat.ne_of_gt (Nat.lt_of_lt_of_le (Nat.lt_of_le_of_lt (Nat.zero_le s1.toks) hk2) ht')) (Nat.ne_of_lt (Nat.lt_of_lt_of_le hk2 ht')) hne hb16 fun t' k => ⟨.str (Txt.replace z y zz), H3, I3.tok k, ⟨t', rfl⟩, qq⟩
end
end FL


namespace FL
open PySem PySem.Spec PyProof.Rows L2
def Way.cd : Way → Cd
  | .s => .sx
  | .m => .mr
/-- so long a body is read -/
def Way.bd : Way → Nat
  | .s => 2950
  | .m => 8950
theorem Way.bd_le (y : Way) : y.bd ≤ 10000 := by cases y <;> decide
theorem Way.oct (y : Way) {s o : List Nat} (hs : allSig s = true) (hl : s.length ≤ y.bd) (h : readBy y.cd.rd s = .ok o) : (∀ n ∈ o, n < 256) ∧ o.length ≤ 9000 := by
  cases y with
  | s =>
    obtain ⟨h1, h2⟩ := Cd.oct .sx hs h
    have hl : s.length ≤ 2950 := hl
    exact ⟨h1, by omega⟩
  | m =>
    have h5 : readMk s = .ok o := readBy_ok (rd := readMk) h
    obtain ⟨h1, h2⟩ := readM_oct _ _ _ [] o (sig_lt3 hs) (fun x hx => by cases hx) h5
    have hl : s.length ≤ 8950 := hl
    rw [List.length_nil] at h2
    exact ⟨h1, by omega⟩
/-- which def writes a word's inner signs -/
def Way.at (f6 fM : Addr) : Way → Addr
  | .s => f6
  | .m => fM
def wrS (f6 fM : Addr) : Addr → Option Sp := fun f => if f = f6 then some (spWr sixC) else if f = fM then some (spWr marksC) else none
theorem Way.wrS (y : Way) {f6 fM : Addr} (h : f6 ≠ fM) : FL.wrS f6 fM (y.at f6 fM) = some (spWr y.wr) := by
  unfold FL.wrS
  cases y with
  | s => exact if_pos rfl
  | m => exact (if_neg (fun e : fM = f6 => h e.symm)).trans (if_pos rfl)
section
variable {P : Program} {w : World} {K : PySem.W.Frag} {mg : Str → Option Value} {base : Heap}
def spOctTold (f6 fM : Addr) : Sp := fun vs H Q _ => ∃ (y : Way) (inner body : Str), vs = [.str inner, .str body, .str y.cd.word, .ref (y.at f6 fM)] ∧ body.length ≤ y.bd ∧ allSig body.cps.toList = true ∧
  (∀ o, toldO inner.cps.toList body.cps.toList y.cd.rd y.wr = some o → ∀ H' p, Same H H' → H p = none → H' p = some (.lst (iv o)) → Q (.ref p) H') ∧
  (toldO inner.cps.toList body.cps.toList y.cd.rd y.wr = none → ∀ H', Same H H' → Q .non H')
theorem scOctetsTold : FnScope ["inner", "body", "code", "write", "octets"] ["inner", "body", "code", "write"] (defScope sOctetsTold) := ⟨rfl, rfl, rfl, by decide +kernel, rfl, by decide +kernel, by decide +kernel⟩
theorem r_octets_told {C f6 fM : Addr} (gC : mg "NoCode" = some (.ref C)) (te : PySem.W.exmOne K (.ref C) (.ref C) = some true) (A : FnAt K mg "_octets_told" sOctetsTold) (RR : ReadyKX P w K mg base 7 "read_by" ["text", "code"] (spRd3 K C) (kbR K))
    (hne : f6 ≠ fM) (GA : ∀ f sp, FL.wrS f6 fM f = some sp → Held P w K mg base 4 f sp) :
    Ready P w K mg base 8 "_octets_told" ["inner", "body", "code", "write"] (spOctTold f6 fM) := by
  obtain ⟨f2, fd2, g2, k2, b2, kb2, G2⟩ := RR
  refine ready_of A (fun _ _ _ _ _ _ us hl => match us, hl with | [_, _, _, _], _ => rfl) fun f fd F => ?_
  refine F.ok scOctetsTold (fun vs H Q E h => ?_) (fun cdv A outer s H vs Q E hr h => ?_)
  · obtain ⟨y, i, b, rfl, _⟩ := h
    rfl
  · obtain ⟨y, inner, body, rfl, hz, hsig, qs, qn⟩ := h
    have sc := scOctetsTold
    refine ⟨_, pss_cons (ps_try_only (c := .ref C) (tb := fun W => tAsg (tCallS (spRd3 K C) (WE W) (tCons (tVar 1) (tCons (tVar 2) tNil))) (gName 4)) (ts := fun _ _ _ => tRet (tC .non)) (Wout := fun _ _ _ _ => False) rfl rfl ⟨rfl, by decide, Or.inl gC⟩ takes0
        (fun W pn xe tk _ => pss_one (ps_set (i := 4) sc.nd rfl (.inl rfl) (by exact (pe_callS G2 hr rfl g2 k2 b2 (fun σ => passAt tk σ) (by exact (pa_cons (pv 1) (pa_cons (pv 2) pa_nil)))))))
        (fun a oe cls d pn hz hf => pss_one (ps_ret pe_non)))
      (pss_cons (ps_if (pt_cmpR op_ne (pe_callA (i := 3) GA (hr.mono (by decide)) rfl (by first | exact .inl rfl | exact .inr (.inl rfl) | exact .inr (.inr rfl)) (pa_cons (pv 4) pa_nil)) (pv 0) (nomark _))
        (pss_one (ps_ret pe_non))
        pss_nil)
      (pss_one (ps_ret (pv 4)))), ?_⟩
    refine ⟨_, rfl, _, rfl, y.cd, _, rfl, .inl ⟨body, rfl, Nat.le_trans hz y.bd_le, hsig, fun o ho H1 p s1 np hp => ?_, fun pp hpp => ?_⟩⟩
    case refine_2 =>
      intro d H' s' nd hd
      refine ⟨true, te, fun _ ea na => qn ?_ _ s', fun z => by cases z⟩
      unfold toldO
      rw [hpp]
    have hbl : body.cps.toList.length = body.length := len_cps _
    obtain ⟨hb, hol⟩ := y.oct hsig (by rw [hbl]; exact hz) ho
    refine ⟨_, _, rfl, y.wrS hne, _, rfl, p, o, rfl, hp, hb, by omega, fun H2 s2 => ?_⟩
    have ht : toldO inner.cps.toList body.cps.toList y.cd.rd y.wr = if y.wr o = inner.cps.toList then some o else none := by
      unfold toldO
      rw [ho]
    refine ⟨_, rfl, rfl, _, rfl, ?_⟩
    by_cases hw : y.wr o = inner.cps.toList
    · rw [if_pos hw] at ht
      have hv : V.str (mk (y.wr o)) = V.str inner := congrArg V.str (by rw [hw, mk_of])
      rw [decide_eq_true hv]
      refine iteF ⟨_, rfl, ?_⟩
      exact qs o ht H2 p (s1.trans s2) np (s2 _ _ hp)
    · rw [if_neg hw] at ht
      have hn : ¬ V.str (mk (y.wr o)) = V.str inner := fun e => hw (by
        have := V.str.inj e
        rw [← this, mk_codes])
      rw [decide_eq_false hn]
      exact iteT (qn ht _ (s1.trans s2))
end
end FL


namespace FL
open PySem PySem.Spec PyProof.Rows L2
theorem replL_oneW {y : Nat} {z : List Nat} : ∀ l : List Nat, PySem.StrLaws.replL [y] z l = l.flatMap fun c => if c = y then z else [c]
  | [] => PySem.StrLaws.replL_nil
  | c :: r => by
    have ih := replL_oneW (y := y) (z := z) r
    rw [List.flatMap_cons]
    by_cases h : c = y
    · subst h
      rw [PySem.StrLaws.replL_hit (by simp) (by simp), if_pos rfl]
      show z ++ PySem.StrLaws.replL [c] z r = _
      rw [ih]
    · rw [PySem.StrLaws.replL_miss (by simp [h]), if_neg h, ih]
      rfl
theorem pet_call {X : Cx} {CX : CXT} {k : Nat} {f : Addr} {fd : FuncData} {ps : List Str} {sp : Sp} {dvs : List V} {ds : List Value} {E : XK} {x : Str} {p pos : Pos} {e : Expr} {es : List Expr} {t : TA} (F : FnOk X.prog X.w X.K X.mg X.base CX k f fd ps sp) (hr : Room k X.A) (hg : Gl X x) (hm : X.mg x = some (.ref f)) (hk : PySem.W.keepIn X.K (.ref f) = true) (hb : L2.Binds X.K fd ps ds) (hd : Vals dvs ds) (hx : Passes CX X E)
    (ha : PAT X (e :: es) t) (hdb : (x == ("__debug__" : Str)) = false := by decide) (he : starEach (e :: es) X.env = (false, eval e X.env) :: starEach es X.env := by rfl) (hpl : (backTo pos (starEach es X.env)).any (·.1) = false := by rfl) :
    PET X (.Call (.Name x p) (e :: es) [] pos) (tCall sp dvs E t) := by
  intro pins s σ H Q h0 I h
  refine wpAny_Call_Name_kw (ld_glob I hg hm ?_ hdb)
  refine PySem.W.callWith_K (h₀ := X.base) I.ok.mod.kin hk (thn (ha pos pins s σ H _ h0 I h) fun us s1 ⟨vs, H1, I1, r, q⟩ => ⟨I1.kIn, ?_⟩) he hpl
  exact run_fn F hr hb hd hx I1 r q
theorem cut_inner (z : Str) : (cutS z (some 4) (some (-2))).cps.toList = innerW z.cps.toList := by
  unfold cutS innerW
  have e1 : HT.sIx z.length 0 (some 4) = min 4 z.length := HT.sIx_nat _ _ 4
  have e2 : HT.sIx z.length z.length (some (-2)) = z.length - 2 := by
    show (if (-2 : Int) < 0 then ((-2 : Int) + (z.length : Int)).toNat else min (-2 : Int).toNat z.length) = _
    rw [if_pos (by decide)]
    omega
  rw [e1, e2]
  show (List.take _ (List.drop _ _)) = _
  have hl := len_cps z
  rw [List.drop_take, hl]
  by_cases h : 4 ≤ z.length
  · rw [Nat.min_eq_left h]
  · rw [Nat.min_eq_right (by omega), List.drop_eq_nil_of_le (by omega), List.drop_eq_nil_of_le (by omega)]
    simp
theorem ends_q (z : Str) : Txt.endswith z ("?=" : Str) = endsQ z.cps.toList := by
  unfold Txt.endswith endsQ
  have hl := len_cps z
  have l2 : ("?=" : Str).length = 2 := by decide +kernel
  have c2 : ("?=" : Str).cps.toList = [63, 61] := by decide +kernel
  rw [PySem.StrLaws.subAt_eq, l2, c2, hl]
  by_cases h : 2 ≤ z.length
  · rw [decide_eq_true (by omega : 0 + 2 ≤ z.length), List.take_of_length_le (by rw [List.length_drop]; omega)]
    rw [Bool.true_and]
    rw [Bool.eq_iff_iff]
    simp
  · rw [decide_eq_false (by omega : ¬ 0 + 2 ≤ z.length), Bool.false_and]
    symm
    refine decide_eq_false fun e => ?_
    have := congrArg List.length e
    rw [List.length_drop, hl] at this
    have h2 : ([63, 61] : List Nat).length = 2 := rfl
    omega
theorem starts4 (z y : Str) {l : List Nat} (hy : y.cps.toList = l) (hl4 : l.length = 4) : Txt.startswith z y = decide (z.cps.toList.take 4 = l) := by
  unfold Txt.startswith
  have hl := len_cps z
  have ly : y.length = 4 := by rw [← len_cps, hy, hl4]
  rw [PySem.StrLaws.subAt_eq, ly, hy, List.drop_zero]
  by_cases h : 4 ≤ z.length
  · rw [decide_eq_true (by omega : 0 + 4 ≤ z.length), Bool.true_and, Bool.eq_iff_iff]
    simp
  · rw [decide_eq_false (by omega : ¬ 0 + 4 ≤ z.length), Bool.false_and]
    symm
    refine decide_eq_false fun e => ?_
    have := congrArg List.length e
    rw [List.length_take, hl4] at this
    omega
theorem inner_len (l : List Nat) : (innerW l).length ≤ l.length := by
  unfold innerW
  rw [List.length_drop, List.length_take]
  omega
theorem inner_sig {l : List Nat} (h : allSig l = true) : allSig (innerW l) = true := List.all_eq_true.mpr fun c hc => List.all_eq_true.mp h c (List.mem_of_mem_take (List.mem_of_mem_drop hc))
theorem rep95_sig {l : List Nat} (h : allSig l = true) : allSig (rep95 l) = true := by
  refine List.all_eq_true.mpr fun c hc => ?_
  obtain ⟨d, hd, hc⟩ := List.mem_flatMap.mp hc
  by_cases e : d = 95
  · rw [if_pos e] at hc
    have : ∀ c ∈ [61, 50, 48], isSig c = true := by decide
    exact this c hc
  · rw [if_neg e] at hc
    rw [List.mem_singleton.mp hc]
    exact List.all_eq_true.mp h d hd
theorem rep95_len (l : List Nat) : (rep95 l).length ≤ 3 * l.length := by
  unfold rep95
  induction l with
  | nil => exact Nat.le_refl _
  | cons c r ih =>
    rw [List.flatMap_cons, List.length_append, List.length_cons]
    have h1 : (if c = 95 then [61, 50, 48] else [c]).length ≤ 3 := by split <;> simp
    omega
theorem app_sig {a b : List Nat} (ha : allSig a = true) (hb : allSig b = true) : allSig (a ++ b) = true := by
  unfold allSig at *
  rw [List.all_append, ha, hb]
  rfl
theorem rep95_of (z : Str) : (Txt.replace z ("_" : Str) (mk (61 :: hex2 32))).cps.toList = rep95 z.cps.toList := by
  have e : ("_" : Str).cps.toList = [95] := by decide +kernel
  have e2 : (mk (61 :: hex2 32)).cps.toList = [61, 50, 48] := by decide +kernel
  rw [PySem.StrLaws.replace_list (by decide +kernel), e, replL_oneW, e2]
  rfl
section
variable {P : Program} {w : World} {K : PySem.W.Frag} {mg : Str → Option Value} {base : Heap}
theorem okTW {x qual : Str} {st : Stmt} {f : Addr} {fd : FuncData} {N ps : List Str} {k : Nat} {sp : Sp} (F : Fun K x qual st f fd) (S : FnScope N ps (defScope st)) (hnc : ∀ y ∈ (defScope st).names, y.2 ≠ .cell) (hps : 1 ≤ ps.length) (len : ∀ vs H Q E, sp vs H Q E → vs.length = ps.length)
    (hbody : ∀ (cdv : Value) (A : Around) (outer : List Env) (s : Shared) (H : Hp) (vs : List V) (Q : VK) (E : XK), Room k (A.deeper (envOfC qual (defScope st) s.heap.objs.size f cdv)) → sp vs H Q E →
      ∃ t, PSsT (cxOf CX0 P w K mg base N qual (defScope st) f cdv A outer s H E) (defBody st) t ∧ t { nx := fun _ H' => Q .non H', rt := Q } (start N vs) H) : FnOk P w K mg base CX0 (k + 1) f fd ps sp := by
  obtain ⟨oc, od, kV, doc, pm, an, cdv, ct, osl, rfl, lk, hcd⟩ := F.ex
  exact fn_ofT lk hcd S hnc hps len fun A outer s H vs Q E hr hsp => hbody cdv A outer s H vs Q E hr hsp
def spOctWord : Sp := fun vs H Q _ => ∃ z : Str, vs = [.str z] ∧ z.length ≤ 2900 ∧ allSig z.cps.toList = true ∧
  (∀ o, octW z.cps.toList = some o → ∀ H' p, Same H H' → H p = none → H' p = some (.lst (iv o)) → Q (.ref p) H') ∧ (octW z.cps.toList = none → ∀ H', Same H H' → Q .non H')
theorem scOctetsOfWord : FnScope ["word", "inner"] ["word"] (defScope sOctetsOfWord) := ⟨rfl, rfl, rfl, by decide +kernel, rfl, by decide +kernel, by decide +kernel⟩
theorem fr_by_sixteen {f : Addr} {fd : FuncData} (F : Fun K "by_sixteen" "by_sixteen" sBySixteen f fd) : FrRun P w K mg base CX0 1 f fd ["octet"] spSixteen := by
  refine frRun F scBySixteen (fun vs H Q E h => ?_) rfl (fun cdv A outer s H vs Q E hr h => ?_)
  · obtain ⟨n, rfl, _⟩ := h
    rfl
  · obtain ⟨n, rfl, hn, q⟩ := h
    have sc := scBySixteen
    refine ⟨_, .cons pe_str (.cons (pe_fmtX (pv 0)) .nil), ?_⟩
    have c1 := catX (rfl : Str.empty = mk []) e61
    refine ⟨_, rfl, szE c1 (by simp), ?_⟩
    have c2 := catX c1 (rfl : mk (hex2 n) = _)
    refine ⟨_, rfl, n, rfl, hn, _, rfl, szE c2 (by simp [hex2]), ?_⟩
    show Q (.str _) H
    rw [c2]
    exact q
theorem r_octets_of_word {f6 fM : Addr} (A : FnAt K mg "_octets_of_word" sOctetsOfWord) (R1 : Ready P w K mg base 8 "_octets_told" ["inner", "body", "code", "write"] (spOctTold f6 fM)) (A2 : FnAt K mg "by_sixteen" sBySixteen)
    {t1 : Tok} (m_BLANK : mg "BLANK" = some (.int 32 t1)) (m_sixes_of : mg "sixes_of" = some (.ref f6)) (m__marks_of : mg "_marks_of" = some (.ref fM)) :
    Ready P w K mg base 9 "_octets_of_word" ["word"] spOctWord := by
  obtain ⟨f1, fd1, g1, k1, b1, G1⟩ := R1
  obtain ⟨f2, fd2, F2, g2⟩ := A2.ex
  have k2 := F2.kp
  have b2 : L2.Binds K fd2 ["octet"] [] := F2.binds (fun _ _ _ _ _ _ us hl => match us, hl with | [_], _ => rfl)
  have G2 : FrRun P w K mg base CX0 1 f2 fd2 ["octet"] spSixteen := fr_by_sixteen F2
  refine ready_of A (fun _ _ _ _ _ _ us hl => match us, hl with | [_], _ => rfl) fun f fd F => ?_
  refine okTW F scOctetsOfWord (by decide +kernel) (by decide) (fun vs H Q E h => ?_) (fun cdv A outer s H vs Q E hr h => ?_)
  · obtain ⟨z, rfl, _⟩ := h
    rfl
  · obtain ⟨z, rfl, hz, hsig, qs, qn⟩ := h
    have sc := scOctetsOfWord
    refine ⟨_, psst_cons (PST.of (ps_set (i := 1) sc.nd rfl (.inl rfl) (pe_slice sl_str (pv 0) (po_some pe_int) (po_some (pe_un un_neg pe_int)))))
      (psst_cons (PST.of (ps_if (PW.pt (pw_or (pt_cmpR op_eq (pv 1) pe_str (nomark _)) (pw_or1 (pt_not (pt_val (pe_m1 PySem.F.slot_str_endswith PySem.F.type_str_endswith mt_endswith (pv 0) pe_str))))))
        (pss_one (ps_ret pe_non))
        pss_nil))
      (psst_cons (PST.of (ps_if (pt_val (pe_m1 PySem.F.slot_str_startswith PySem.F.type_str_startswith mt_startswith (pv 0) pe_str))
        (pss_one (ps_ret (pe_call G1 (hr.mono (by decide)) (by rfl) g1 k1 b1 .nil pass0 (pa_cons (pv 1) (pa_cons (pe_op op_add_str (pv 1) pe_str) (pa_cons pe_str (pa_cons (pe_glob (v := .ref f6) rfl m_sixes_of rfl) pa_nil)))))))
        pss_nil))
      (psst_cons (CwR.pst_if (pt_val (pe_m1 PySem.F.slot_str_startswith PySem.F.type_str_startswith mt_startswith (pv 0) pe_str))
        (CwR.psst_one (CwR.pst_ret (pet_call G1 (hr.mono (by decide)) (by rfl) g1 k1 b1 .nil pass0 (pat_cons (CwR.PET.of (pv 1)) (pat_cons (CwR.pet_op op_add_str (pet_replF (pv 1) G2 (fun vs H Q E h => by obtain ⟨n, rfl, _⟩ := h; rfl) (hr.mono (by decide)) (by rfl) g2 k2 b2 pass0 (pa_cons (pe_glob (v := .int 32) rfl m_BLANK ⟨_, rfl⟩) pa_nil)) (CwR.PET.of pe_str)) (pat_cons (CwR.PET.of pe_str) (pat_cons (CwR.PET.of (pe_glob (v := .ref fM) rfl m__marks_of rfl)) pat_nil)))))))
        CwR.psst_nil)
      (PSsT.of (pss_one (ps_ret pe_non)))))), ?_⟩
    have hzl := len_cps z
    refine ⟨_, rfl, 4, rfl, 2, rfl, _, rfl, z, rfl, Nat.le_of_lt (szl (by omega)), ?_⟩
    have hcut : cutS z (some 4) (some (-2)) = mk (innerW z.cps.toList) := mk_eq (cut_inner z)
    rw [show cutS z (some 4) (some ((fun i : Int => -i) 2)) = mk (innerW z.cps.toList) from hcut]
    refine ⟨_, rfl, rfl, _, rfl, ?_⟩
    have e0 : ("" : Str) = mk [] := by decide +kernel
    by_cases h0 : innerW z.cps.toList = []
    · rw [decide_eq_true (by rw [h0, e0] : V.str (mk (innerW z.cps.toList)) = V.str ("" : Str))]
      refine iteT (iteT ?_)
      exact qn (by unfold octW; rw [if_pos (.inl h0)]) _ (Same.refl H)
    · rw [decide_eq_false (fun e => h0 (by have := V.str.inj e; rw [e0] at this; have := congrArg (fun t : Str => t.cps.toList) this; rw [mk_codes, mk_codes] at this; exact this))]
      refine iteF ⟨_, rfl, ⟨_, rfl⟩, _, _, rfl, rfl, ?_⟩
      rw [ends_q]
      refine ⟨_, rfl, ?_⟩
      cases he : endsQ z.cps.toList with
      | false =>
        refine iteT ?_
        exact qn (by unfold octW; rw [if_pos (.inr he)]) _ (Same.refl H)
      | true =>
        refine iteF ⟨_, rfl, ⟨_, rfl⟩, _, _, rfl, rfl, ?_⟩
        have hno : ¬ (innerW z.cps.toList = [] ∨ endsQ z.cps.toList = false) := fun x => x.elim h0 (fun y => by rw [he] at y; cases y)
        have hil := inner_len z.cps.toList
        have his := inner_sig hsig
        rw [starts4 z "=?s?" (l := [61, 63, 115, 63]) (by decide +kernel) rfl]
        refine ⟨_, rfl, ?_⟩
        by_cases h1 : z.cps.toList.take 4 = [61, 63, 115, 63]
        · rw [decide_eq_true h1]
          have ho : octW z.cps.toList = toldO (innerW z.cps.toList) (innerW z.cps.toList ++ [10]) read6 sixC := by
            unfold octW
            rw [if_neg hno, if_pos h1]
          rw [ho] at qs qn
          have ea : mk (innerW z.cps.toList) ++ ("\n" : Str) = mk (innerW z.cps.toList ++ [10]) := mk_app _ _
          refine iteT ⟨_, rfl, _, rfl, _, _, rfl, rfl, ?_, ?_⟩
          · rw [mk_len, sizeLine_eq]
            have : ("\n" : Str).length = 1 := rfl
            omega
          · rw [ea]
            refine ⟨.s, _, _, rfl, ?_, ?_, ?_, ?_⟩
            · rw [mk_len, List.length_append]
              show _ + 1 ≤ 2950
              omega
            · rw [mk_codes]
              exact app_sig his (by decide)
            · rw [mk_codes, mk_codes]
              exact qs
            · rw [mk_codes, mk_codes]
              exact qn
        · rw [decide_eq_false h1]
          refine iteF ⟨_, rfl, ⟨_, rfl⟩, _, _, rfl, rfl, ?_⟩
          rw [starts4 z "=?m?" (l := [61, 63, 109, 63]) (by decide +kernel) rfl]
          refine ⟨_, rfl, ?_⟩
          by_cases h2 : z.cps.toList.take 4 = [61, 63, 109, 63]
          · rw [decide_eq_true h2]
            have ho : octW z.cps.toList = toldO (innerW z.cps.toList) (rep95 (innerW z.cps.toList) ++ [61, 10]) readMk marksC := by
              unfold octW
              rw [if_neg hno, if_neg h1, if_pos h2]
            rw [ho] at qs qn
            have er : Txt.replace (mk (innerW z.cps.toList)) ("_" : Str) (mk (61 :: hex2 32)) = mk (rep95 (innerW z.cps.toList)) := mk_eq (by rw [rep95_of, mk_codes])
            have ea : mk (rep95 (innerW z.cps.toList)) ++ ("=\n" : Str) = mk (rep95 (innerW z.cps.toList) ++ [61, 10]) := mk_app _ _
            have hr3 := rep95_len (innerW z.cps.toList)
            have h3 : (mk (61 :: hex2 32)).length = 3 := by decide +kernel
            refine iteT ⟨_, rfl, _, rfl, _, rfl, 32, rfl, by decide, _, rfl, by decide +kernel, ?_, ?_⟩
            · rw [h3, mk_len]
              omega
            · rw [er]
              refine ⟨_, _, rfl, rfl, ?_, ?_⟩
              · rw [mk_len, sizeLine_eq]
                have : ("=\n" : Str).length = 2 := rfl
                omega
              · rw [ea]
                refine ⟨.m, _, _, rfl, ?_, ?_, ?_, ?_⟩
                · rw [mk_len, List.length_append]
                  show _ + 2 ≤ 8950
                  omega
                · rw [mk_codes]
                  exact app_sig (rep95_sig his) (by decide)
                · rw [mk_codes, mk_codes]
                  exact qs
                · rw [mk_codes, mk_codes]
                  exact qn
          · rw [decide_eq_false h2]
            refine iteF ?_
            exact qn (by unfold octW; rw [if_neg hno, if_neg h1, if_neg h2]) _ (Same.refl H)
end
end FL


namespace FL
open PySem PySem.Spec PyProof.Rows L2
theorem toldO_go {i b : List Nat} {y : Way} {o : List Nat} (hb : allSig b = true) (hl : b.length ≤ y.bd) (h : toldO i b y.cd.rd y.wr = some o) : GO o := by
  unfold toldO at h
  cases hr : readBy y.cd.rd b with
  | error e =>
    rw [hr] at h
    cases h
  | ok o2 =>
    rw [hr] at h
    dsimp only at h
    split at h
    · injection h with h
      subst h
      obtain ⟨h1, h2⟩ := y.oct hb hl hr
      exact ⟨h1, by omega⟩
    · cases h
theorem octW_go {w o : List Nat} (hs : allSig w = true) (hl : w.length ≤ 2900) (h : octW w = some o) : GO o := by
  have h1 := inner_len w
  have h2 := inner_sig hs
  have h3 := rep95_len (innerW w)
  unfold octW at h
  split at h
  · cases h
  · split at h
    · exact toldO_go (y := .s) (app_sig h2 (by decide)) (by rw [List.length_append]; show _ + 1 ≤ 2950; omega) h
    · split at h
      · exact toldO_go (y := .m) (app_sig (rep95_sig h2) (by decide)) (by rw [List.length_append]; show _ + 2 ≤ 8950; omega) h
      · cases h
theorem sayR_tot (l : List Nat) : ∀ (n p : Nat), l.length - p ≤ n → ∃ R, sayR l n p = some R
  | 0, p, h => by
    unfold sayR
    rw [if_neg (by omega)]
    exact ⟨_, rfl⟩
  | n + 1, p, h => by
    rw [sayR]
    cases hp : l[p]? with
    | none => exact ⟨_, rfl⟩
    | some o =>
      dsimp only
      have hlt := (List.getElem?_eq_some_iff.mp hp).1
      cases hs : signR ((l.drop p).take (sizeFrom o)) with
      | none => exact ⟨_, rfl⟩
      | some s =>
        dsimp only
        have hsz : 1 ≤ sizeFrom o := by unfold sizeFrom; split <;> (try split) <;> omega
        obtain ⟨R, hR⟩ := sayR_tot l n (p + ((l.drop p).take (sizeFrom o)).length) (by rw [List.length_take, List.length_drop]; omega)
        rw [hR]
        exact ⟨_, rfl⟩
section
variable {P : Program} {w : World} {K : PySem.W.Frag} {mg : Str → Option Value} {base : Heap}
def spSayWord : Sp := fun vs H Q _ => ∃ z : Str, vs = [.str z] ∧ z.length ≤ 2900 ∧ allSig z.cps.toList = true ∧
  (∀ s, sayW z.cps.toList = some s → ∀ H' p, Same H H' → H p = none → H' p = some (.lst (iv s)) → Q (.ref p) H') ∧ (sayW z.cps.toList = none → ∀ H', Same H H' → Q .non H')
theorem scSayingOfWord : FnScope ["word", "octets"] ["word"] (defScope sSayingOfWord) := ⟨rfl, rfl, rfl, by decide +kernel, rfl, by decide +kernel, by decide +kernel⟩
theorem r_saying_of_word {CS CN : Addr} (gC : mg "NoSaying" = some (.ref CS)) (te : PySem.W.exmOne K (.ref CS) (.ref CS) = some true) (A : FnAt K mg "saying_of_word" sSayingOfWord) (R1 : Ready P w K mg base 9 "_octets_of_word" ["word"] spOctWord)
    (R2 : ReadyKX P w K mg base 4 "saying_of" ["octets"] (spSayingOfX K CS CN) (fun fd => KBs K fd ["octets"])) :
    Ready P w K mg base 10 "saying_of_word" ["word"] spSayWord := by
  obtain ⟨f1, fd1, g1, k1, b1, G1⟩ := R1
  obtain ⟨f2, fd2, g2, k2, b2, kb2, G2⟩ := R2
  refine ready_of A (fun _ _ _ _ _ _ us hl => match us, hl with | [_], _ => rfl) fun f fd F => ?_
  refine F.ok scSayingOfWord (fun vs H Q E h => ?_) (fun cdv A outer s H vs Q E hr h => ?_)
  · obtain ⟨z, rfl, _⟩ := h
    rfl
  · obtain ⟨z, rfl, hz, hsig, qs, qn⟩ := h
    have sc := scSayingOfWord
    refine ⟨_, pss_cons (ps_set (i := 1) sc.nd rfl (.inl rfl) (pe_call G1 (hr.mono (by decide)) (by rfl) g1 k1 b1 .nil pass0 (pa_cons (pv 0) pa_nil)))
      (pss_cons (ps_if (pt_cmpR op_isN (pv 1) pe_non (nomark _))
        (pss_one (ps_ret pe_non))
        pss_nil)
      (pss_one (ps_try_only (c := .ref CS) (tb := fun W => tRet (tCallS (spSayingOfX K CS CN) (WE W) (tCons (tVar 1) tNil))) (ts := fun _ _ _ => tRet (tC .non)) (Wout := fun _ _ _ _ => False) rfl rfl ⟨rfl, by decide, Or.inl gC⟩ takes0
        (fun W pn xe tk _ => pss_one (ps_ret (by exact (pe_callS G2 (hr.mono (by decide)) rfl g2 k2 b2 (fun σ => passAt tk σ) (by exact (pa_cons (pv 1) pa_nil))))))
        (fun a oe cls d pn hz hf => pss_one (ps_ret pe_non))))), ?_⟩
    have hzl := len_cps z
    refine ⟨_, rfl, z, rfl, hz, hsig, fun o ho H1 p s1 np hp => ?_, fun ho H1 s1 => ?_⟩
    · obtain ⟨R, hR⟩ := sayR_tot o o.length 0 (by omega)
      have hw : sayW z.cps.toList = sayO o := by
        unfold sayW
        rw [ho]
      refine ⟨_, rfl, rfl, _, rfl, ?_⟩
      rw [decide_eq_false (show ¬ V.ref p = V.non from fun e => by cases e)]
      refine iteF ⟨_, rfl, _, rfl, .inl ⟨p, o, o.length, R, rfl, hp, octW_go hsig (by omega) ho, hR, fun r hr2 H2 q s2 nq hq => ?_, fun q hq => ?_⟩⟩
      · refine qs r ?_ H2 q (s1.trans s2) (Same.free s1 nq) hq
        rw [hw]
        unfold sayO
        rw [hR, hr2]
      · intro d H' s' nd hd
        refine ⟨true, te, fun _ ea na => qn ?_ _ (s1.trans s'), fun z => by cases z⟩
        rw [hw]
        unfold sayO
        rw [hR, hq]
    · have hw : sayW z.cps.toList = none := by
        unfold sayW
        rw [ho]
      refine ⟨_, rfl, rfl, _, rfl, ?_⟩
      exact iteT (qn hw _ s1)
end
end FL


namespace FL
open PySem PySem.Spec PyProof.Rows L2
structure SInv (l : List Nat) (p b : Nat) (done : List (List Nat)) : Prop where
  le : b ≤ p
  pl : p ≤ l.length
  fin : p = l.length → done = stch l
  on : p < l.length → ∃ c, l[b]? = some c ∧ done ++ stch (l.drop b) = stch l ∧ ∀ d ∈ (l.drop b).take (p + 1 - b), isB d = isB c
theorem SInv.zero (l : List Nat) : SInv l 0 0 [] where
  le := Nat.le_refl 0
  pl := Nat.zero_le _
  fin h := by
    rw [List.eq_nil_of_length_eq_zero h.symm]
    rfl
  on h := by
    cases l with
    | nil => exact absurd h (Nat.lt_irrefl 0)
    | cons c r =>
      refine ⟨c, rfl, rfl, fun d hd => ?_⟩
      simp at hd
      rw [hd]
theorem SInv.cut {l : List Nat} {p b c : Nat} {done : List (List Nat)} (h : SInv l p b done) (hp : p < l.length) (hc : l[b]? = some c) (hq : p + 1 = l.length ∨ ∃ d, l[p + 1]? = some d ∧ isB d ≠ isB c) : SInv l (p + 1) (p + 1) (done ++ [(l.drop b).take (p + 1 - b)]) := by
  obtain ⟨c2, hc2, hd, hall⟩ := h.on hp
  rw [hc] at hc2
  injection hc2 with hc2
  subst hc2
  have hb := h.le
  have hne : (l.drop b).take (p + 1 - b) ≠ [] := fun e => by
    have := congrArg List.length e
    rw [List.length_take, List.length_drop, List.length_nil] at this
    omega
  refine ⟨Nat.le_refl _, by omega, fun e => ?_, fun hlt => ?_⟩
  · have e1 : (l.drop b).take (p + 1 - b) = l.drop b := List.take_of_length_le (by rw [List.length_drop]; omega)
    rw [e1] at hne hall ⊢
    rw [← hd, stch_one _ hne hall]
  · obtain ⟨d, hd2, hdc⟩ := hq.resolve_left (by omega)
    refine ⟨d, hd2, ?_, fun x hx => ?_⟩
    · have e1 : l.drop b = (l.drop b).take (p + 1 - b) ++ l.drop (p + 1) := by
        have := (List.take_append_drop (p + 1 - b) (l.drop b)).symm
        rw [List.drop_drop, show b + (p + 1 - b) = p + 1 by omega] at this
        exact this
      have e2 := stch_run (r := l.drop (p + 1)) hne hall (fun x hx => by
        rw [drop_at hd2] at hx
        injection hx with hx
        rw [← hx]
        exact hdc)
      rw [← e1] at e2
      rw [List.append_assoc, ← hd, e2]
      rfl
    · rw [drop_at hd2, show p + 1 + 1 - (p + 1) = 1 by omega] at hx
      simp at hx
      rw [hx]
theorem SInv.keep {l : List Nat} {p b c d : Nat} {done : List (List Nat)} (h : SInv l p b done) (hp : p + 1 < l.length) (hc : l[b]? = some c) (hd : l[p + 1]? = some d) (he : isB d = isB c) : SInv l (p + 1) b done := by
  obtain ⟨c2, hc2, hdn, hall⟩ := h.on (by omega)
  rw [hc] at hc2
  injection hc2 with hc2
  subst hc2
  have hb := h.le
  refine ⟨by omega, by omega, fun e => by omega, fun _ => ⟨c, hc, hdn, fun x hx => ?_⟩⟩
  rw [show p + 1 + 1 - b = (p + 1 - b) + 1 by omega] at hx
  have hg : (l.drop b)[p + 1 - b]? = some d := by
    rw [List.getElem?_drop, show b + (p + 1 - b) = p + 1 by omega]
    exact hd
  rw [take_more hg] at hx
  rcases List.mem_append.mp hx with hx | hx
  · exact hall x hx
  · rw [List.mem_singleton.mp hx]
    exact he
section
variable {P : Program} {w : World} {K : PySem.W.Frag} {mg : Str → Option Value} {base : Heap}
def spStretch2 : Sp := fun vs H Q _ => ∃ z : Str, vs = [.str z] ∧ z.length ≤ 10000 ∧ ∀ H' p, Same H H' → H p = none → H' p = some (.lst ((stch z.cps.toList).map fun l => V.str (mk l))) → Q (.ref p) H'
theorem scStretches : FnScope ["value", "cut", "begin", "place"] ["value"] (defScope sStretches) := ⟨rfl, rfl, rfl, by decide +kernel, rfl, by decide +kernel, by decide +kernel⟩
theorem stch_few (l : List Nat) : (stch l).length ≤ l.length := by
  induction l with
  | nil => exact Nat.le_refl _
  | cons c r ih =>
    rw [stch]
    split
    · exact Nat.le_trans (by simp) (Nat.succ_le_succ (Nat.zero_le _))
    · rename_i s ss h
      rw [h] at ih
      split <;> simp at ih ⊢ <;> omega
theorem r_stretches (A : FnAt K mg "_stretches" sStretches) (m_len : mg "len" = none) (m_range : mg "range" = none) : Ready P w K mg base 1 "_stretches" ["value"] spStretch2 := by
  refine ready_of A (fun _ _ _ _ _ _ us hl => match us, hl with | [_], _ => rfl) fun f fd F => ?_
  refine F.ok scStretches (fun vs H Q E h => ?_) (fun cdv A outer s H vs Q E hr h => ?_)
  · obtain ⟨z, rfl, _⟩ := h
    rfl
  · obtain ⟨z, rfl, hz, q⟩ := h
    have sc := scStretches
    refine ⟨_, pss_cons (ps_set (i := 1) sc.nd rfl (.inl rfl) (pe_lst pa_nil))
      (pss_cons (ps_set (i := 2) sc.nd rfl (.inl rfl) pe_int)
      (pss_cons (ps_for PassesOwn.never rfl (pi_range2 (by rfl) m_range (pa_cons pe_int (pa_cons (pe_op op_add (pe_callB call_len_str (by rfl) m_len PySem.boot_len (pa_cons (pv 0) pa_nil)) pe_int) pa_nil))) (pg_name (i := 3) sc.nd rfl (.inl rfl))
        (pss_one (ps_if (PW.pt (pw_or (pt_cmpR op_eq (pv 3) (pe_callB call_len_str (by rfl) m_len PySem.boot_len (pa_cons (pv 0) pa_nil)) (nomark _)) (pw_or1 (pt_cmpR op_ne (pe_cmpR op_eq (pe_item_str (pv 0) (pv 3) (fun _ _ => rfl)) pe_str (nomark _)) (pe_cmpR op_eq (pe_item_str (pv 0) (pv 2) (fun _ _ => rfl)) pe_str (nomark _)) (nomark _)))))
            (pss_cons (ps_expr (pe_bm PySem.F.plainAttrs_list PySem.F.slot_list_append PySem.F.type_list_append mt_append (pv 1) (pa_cons (pe_slice sl_str (pv 0) (po_some (pv 2)) (po_some (pv 3))) pa_nil)))
              (pss_one (ps_set (i := 2) sc.nd rfl (.inl rfl) (pv 3))))
            pss_nil)))
      (pss_one (ps_ret (pv 1))))), ?_⟩
    have hzl := len_cps z
    have hst := stch_few z.cps.toList
    refine ⟨by decide, fun cp ncp => ?_⟩
    have hcp : (upd H cp (.lst [])) cp = some (.lst []) := upd_same
    refine ⟨_, rfl, _, rfl, Nat.le_of_lt (szl (by omega)), _, _, rfl, rfl, _, _, rfl, ⟨by omega, by omega, by omega, by omega⟩, ?_⟩
    have en : (((z.length : Nat) : Int) + 1 - 1).toNat = z.length := by omega
    refine for_it walk_range (fun i σ H' => ∃ (b : Nat) (y3 : Option V) (done : List (List Nat)), σ = [some (.str z), some (.ref cp), some (.int (b : Nat)), y3] ∧ SInv z.cps.toList i b done ∧ done.length ≤ i ∧ Same H H' ∧ H' cp = some (.lst (done.map fun l => V.str (mk l))))
      ⟨0, none, [], rfl, SInv.zero _, Nat.le_refl _, same_new ncp, hcp⟩ (fun _ _ _ _ _ => trivial) (fun i x σ H1 H2 hi hp hyx => ?_) (fun σ H1 hp => ?_)
    · obtain ⟨b, y3, done, rfl, si, hdl, sm, hd⟩ := hp
      obtain ⟨rfl, hx⟩ := hyx
      have hx' : x = .int ((i + 1 : Nat) : Int) := by
        rw [hx]
        exact congrArg V.int (by omega)
      subst hx'
      have hi : i < z.cps.toList.length := by
        have h5 : i < (((z.length : Nat) : Int) + 1 - 1).toNat := hi
        omega
      obtain ⟨c, hc, _, _⟩ := si.on hi
      have hb := si.le
      have hcut : cutS z (some (b : Nat)) (some ((i + 1 : Nat) : Int)) = mk ((z.cps.toList.drop b).take (i + 1 - b)) := mk_eq (cutS_nat z (by omega) (by omega))
      have h32 : (" " : Str) = ⟨#[32]⟩ := by decide +kernel
      refine ⟨_, rfl, _, rfl, z, rfl, Nat.le_of_lt (szl (by omega)), rfl, _, rfl, ?_⟩
      by_cases hq : i + 1 = z.cps.toList.length
      · rw [decide_eq_true (congrArg V.int (by omega : ((i + 1 : Nat) : Int) = (z.length : Nat)))]
        refine iteT (iteT ⟨_, rfl, .inl ⟨rfl, _, SqL.of hd⟩, _, rfl, _, rfl, _, rfl, _, rfl, _, rfl, z, rfl, Nat.le_of_lt (szl (by omega)), cp, _, _, rfl, rfl, hd, by rw [List.length_map]; exact szl (by omega), _, rfl, ?_⟩)
        rw [hcut]
        exact ⟨i + 1, _, done ++ [_], rfl, si.cut hi hc (.inl hq), by rw [List.length_append, List.length_singleton]; omega, same_set sm ncp, by rw [upd_same, List.map_append]; rfl⟩
      · obtain ⟨d, hd2⟩ : ∃ d, z.cps.toList[i + 1]? = some d := ⟨_, List.getElem?_eq_getElem (by omega)⟩
        rw [decide_eq_false (fun e => by injection e with e; omega)]
        refine iteF ⟨_, rfl, _, rfl, z, _, d, rfl, rfl, by omega, by omega, by omega, (by rw [Int.toNat_natCast, ← Array.getElem?_toList]; exact hd2), rfl, _, rfl, _, rfl, z, _, c, rfl, rfl, by omega, by omega, by omega, (by rw [Int.toNat_natCast, ← Array.getElem?_toList]; exact hc), rfl, rfl, _, rfl, ?_⟩
        rw [sign_is h32, sign_is h32]
        by_cases he : isB d = isB c
        · have e1 : V.bl (decide (d = 32)) = V.bl (decide (c = 32)) := congrArg V.bl he
          rw [decide_eq_true e1]
          refine iteF ?_
          exact ⟨b, _, done, rfl, si.keep (by omega) hc hd2 he, by omega, sm, hd⟩
        · have e1 : ¬ V.bl (decide (d = 32)) = V.bl (decide (c = 32)) := fun e => he (by injection e)
          rw [decide_eq_false e1]
          refine iteT ⟨_, rfl, .inl ⟨rfl, _, SqL.of hd⟩, _, rfl, _, rfl, _, rfl, _, rfl, _, rfl, z, rfl, Nat.le_of_lt (szl (by omega)), cp, _, _, rfl, rfl, hd, by rw [List.length_map]; exact szl (by omega), _, rfl, ?_⟩
          rw [hcut]
          exact ⟨i + 1, _, done ++ [_], rfl, si.cut hi hc (.inr ⟨d, hd2, he⟩), by rw [List.length_append, List.length_singleton]; omega, same_set sm ncp, by rw [upd_same, List.map_append]; rfl⟩
    · obtain ⟨b, y3, done, rfl, si, hdl, sm, hd⟩ := hp
      rw [en] at si
      rw [si.fin hzl.symm] at hd
      exact ⟨_, rfl, q H1 cp sm ncp hd⟩
end
end FL


namespace FL
open PySem PySem.Spec PyProof.Rows L2
def isNon (v : V) : Bool := decide (v = .non)
/-- whether both neighbours tell sayings -/
def bet (xs : List V) (i : Nat) : Bool := decide (0 < i ∧ i + 1 < xs.length) && (!isNon (xs.getD (i - 1) .non) && !isNon (xs.getD (i + 1) .non))
section
variable {P : Program} {w : World} {K : PySem.W.Frag} {mg : Str → Option Value} {base : Heap}
def spBetween : Sp := fun vs H Q _ => ∃ (a : Addr) (xs : List V) (i : Nat), vs = [.ref a, .int (i : Nat)] ∧ H a = some (.lst xs) ∧ xs.length ≤ 10000 ∧ Q (.bl (bet xs i)) H
theorem scIsBetweenTold : FnScope ["told", "number"] ["told", "number"] (defScope sIsBetweenTold) := ⟨rfl, rfl, rfl, by decide +kernel, rfl, by decide +kernel, by decide +kernel⟩
theorem r_is_between (A : FnAt K mg "_is_between_told" sIsBetweenTold) (m_len : mg "len" = none) : Ready P w K mg base 1 "_is_between_told" ["told", "number"] spBetween := by
  refine ready_of A (fun _ _ _ _ _ _ us hl => match us, hl with | [_, _], _ => rfl) fun f fd F => ?_
  refine F.ok scIsBetweenTold (fun vs H Q E h => ?_) (fun cdv A outer s H vs Q E hr h => ?_)
  · obtain ⟨a, xs, i, rfl, _⟩ := h
    rfl
  · obtain ⟨a, xs, i, rfl, hH, hl, q⟩ := h
    have sc := scIsBetweenTold
    refine ⟨_, pss_one (ps_ret (pe_and (pe_chain op_lt op_lt pe_int (pv 1) (pe_op op_sub (pe_callB call_len_seq (by rfl) m_len PySem.boot_len (pa_cons (pv 0) pa_nil)) pe_int) (by with_unfolding_all rfl)) (pe_and (pe_cmpR op_notN (pe_ix ix_list (pv 0) (pe_op op_sub (pv 1) pe_int) (fun _ _ => rfl)) pe_non (nomark _)) (pe_one (pe_cmpR op_notN (pe_ix ix_list (pv 0) (pe_op op_add (pv 1) pe_int) (fun _ _ => rfl)) pe_non (nomark _)))))), ?_⟩
    refine ⟨_, rfl, 0, _, rfl, rfl, _, rfl, ?_⟩
    by_cases h0 : 0 < i
    · rw [decide_eq_true (by omega : (0 : Int) < ((i : Nat) : Int))]
      refine iteT ⟨_, rfl, a, xs, rfl, .inl (SqL.of hH), _, _, rfl, rfl, _, _, rfl, rfl, _, rfl, ?_⟩
      by_cases h1 : i + 1 < xs.length
      · rw [decide_eq_true (by omega : ((i : Nat) : Int) < ((xs.length : Nat) : Int) - 1)]
        obtain ⟨v1, e1⟩ : ∃ v, xs[i - 1]? = some v := ⟨_, List.getElem?_eq_getElem (by omega)⟩
        obtain ⟨v2, e2⟩ : ∃ v, xs[i + 1]? = some v := ⟨_, List.getElem?_eq_getElem h1⟩
        have a1 : atI xs (((i : Nat) : Int) - 1) = some v1 := by
          rw [show ((i : Nat) : Int) - 1 = ((i - 1 : Nat) : Int) by omega]
          exact atI_nat e1
        have a2 : atI xs (((i : Nat) : Int) + 1) = some v2 := atI_nat (j := i + 1) e2
        have hb : bet xs i = (!decide (v1 = .non) && !decide (v2 = .non)) := by
          unfold bet isNon
          rw [decide_eq_true (⟨h0, h1⟩ : 0 < i ∧ i + 1 < xs.length), Bool.true_and, List.getD_eq_getElem?_getD, List.getD_eq_getElem?_getD, e1, e2]
          rfl
        rw [hb] at q
        refine iteT ⟨_, rfl, _, rfl, _, _, rfl, rfl, a, xs, _, v1, rfl, rfl, SqL.of hH, a1, rfl, _, rfl, ?_⟩
        cases n1 : decide (v1 = .non) with
        | true =>
          rw [n1] at q
          exact iteF q
        | false =>
          rw [n1] at q
          refine iteT ⟨_, rfl, _, rfl, _, _, rfl, rfl, a, xs, _, v2, rfl, rfl, SqL.of hH, a2, rfl, q⟩
      · rw [decide_eq_false (by omega : ¬ ((i : Nat) : Int) < ((xs.length : Nat) : Int) - 1)]
        have hb : bet xs i = false := by
          unfold bet
          rw [decide_eq_false (fun e => h1 e.2), Bool.false_and]
        rw [hb] at q
        exact iteF q
    · rw [decide_eq_false (by omega : ¬ (0 : Int) < ((i : Nat) : Int))]
      have hb : bet xs i = false := by
        unfold bet
        rw [decide_eq_false (fun e => h0 e.1), Bool.false_and]
      rw [hb] at q
      exact iteF ⟨_, rfl, iteF q⟩
end
end FL


namespace FL
open PySem PySem.Spec PyProof.Rows L2
/-- what stands for a stretch -/
def ToldA (D : Addr) (H' : Hp) (s : List Nat) (x : V) : Prop := (sayW s = none ∧ x = .non) ∨ ∃ t p, sayW s = some t ∧ x = .ref p ∧ p ≠ D ∧ H' p = some (.lst (iv t))
theorem ToldA.same {D : Addr} {H' H2 : Hp} {s : List Nat} {x : V} (h : ToldA D H' s x) (k : Same H' H2) : ToldA D H2 s x := h.imp id fun ⟨t, p, a, b, c, d⟩ => ⟨t, p, a, b, c, k _ _ d⟩
theorem ToldA.upd {D : Addr} {H' : Hp} {s : List Nat} {x : V} {o : HO} (h : ToldA D H' s x) : ToldA D (upd H' D o) s x := h.imp id fun ⟨t, p, a, b, c, d⟩ => ⟨t, p, a, b, c, by rw [upd_ne c]; exact d⟩
theorem ToldA.non {D : Addr} {H' : Hp} {s : List Nat} {x : V} (h : ToldA D H' s x) : isNon x = !(sayW s).isSome := by
  rcases h with ⟨a, rfl⟩ | ⟨t, p, a, rfl, _⟩
  · rw [a]
    rfl
  · rw [a]
    rfl
def Tolds (D : Addr) (H' : Hp) (ss : List (List Nat)) (xs : List V) : Prop := xs.length = ss.length ∧ ∀ (j : Nat) (s : List Nat) (x : V), ss[j]? = some s → xs[j]? = some x → ToldA D H' s x
theorem Tolds.same {D : Addr} {H' H2 : Hp} {ss : List (List Nat)} {xs : List V} (h : Tolds D H' ss xs) (k : Same H' H2) : Tolds D H2 ss xs := ⟨h.1, fun j s x a b => (h.2 j s x a b).same k⟩
theorem Tolds.upd {D : Addr} {H' : Hp} {ss : List (List Nat)} {xs : List V} {o : HO} (h : Tolds D H' ss xs) : Tolds D (upd H' D o) ss xs := ⟨h.1, fun j s x a b => (h.2 j s x a b).upd⟩
theorem Tolds.snoc {D : Addr} {H' : Hp} {ss : List (List Nat)} {xs : List V} {s : List Nat} {x : V} (h : Tolds D H' ss xs) (k : ToldA D H' s x) : Tolds D H' (ss ++ [s]) (xs ++ [x]) := by
  refine ⟨by rw [List.length_append, List.length_append, h.1]; rfl, fun j s2 x2 a b => ?_⟩
  by_cases hj : j < ss.length
  · rw [List.getElem?_append_left hj] at a
    rw [List.getElem?_append_left (by rw [h.1]; exact hj)] at b
    exact h.2 j s2 x2 a b
  · rw [List.getElem?_append_right (by omega)] at a
    rw [List.getElem?_append_right (by rw [h.1]; omega), h.1] at b
    cases hk : j - ss.length with
    | zero =>
      rw [hk] at a b
      injection a with a
      injection b with b
      rw [← a, ← b]
      exact k
    | succ n =>
      rw [hk] at a
      cases a
def prevT (ss : List (List Nat)) : Nat → Bool
  | 0 => false
  | j + 1 => match ss[j]? with
    | some s => (sayW s).isSome
    | none => false
theorem bet_told {D : Addr} {H' : Hp} {ss : List (List Nat)} {xs : List V} (h : Tolds D H' ss xs) {j : Nat} (hj : j < ss.length) : bet xs j = (prevT ss j && nextT (ss.drop (j + 1))) := by
  unfold bet
  cases j with
  | zero =>
    rw [decide_eq_false (fun e => absurd e.1 (Nat.lt_irrefl 0))]
    rfl
  | succ j =>
    obtain ⟨s0, e0⟩ : ∃ s, ss[j]? = some s := ⟨_, List.getElem?_eq_getElem (by omega)⟩
    obtain ⟨x0, f0⟩ : ∃ s, xs[j]? = some s := ⟨_, List.getElem?_eq_getElem (by have := h.1; omega)⟩
    have n0 := (h.2 j s0 x0 e0 f0).non
    have p0 : prevT ss (j + 1) = (sayW s0).isSome := by
      show (match ss[j]? with
        | some s => (sayW s).isSome
        | none => false) = _
      rw [e0]
    by_cases hn : j + 1 + 1 < ss.length
    · obtain ⟨s1, e1⟩ : ∃ s, ss[j + 1 + 1]? = some s := ⟨_, List.getElem?_eq_getElem hn⟩
      obtain ⟨x1, f1⟩ : ∃ s, xs[j + 1 + 1]? = some s := ⟨_, List.getElem?_eq_getElem (by rw [h.1]; exact hn)⟩
      have n1 := (h.2 _ s1 x1 e1 f1).non
      have hd : ss.drop (j + 1 + 1) = s1 :: ss.drop (j + 1 + 1 + 1) := by
        have hh := (List.getElem?_eq_some_iff.mp e1).2
        rw [List.drop_eq_getElem_cons hn, hh]
      rw [decide_eq_true (⟨Nat.succ_pos _, by rw [h.1]; exact hn⟩ : 0 < j + 1 ∧ j + 1 + 1 < xs.length), Bool.true_and, List.getD_eq_getElem?_getD, List.getD_eq_getElem?_getD, Nat.add_sub_cancel, f0, f1, p0, hd]
      show (!isNon x0 && !isNon x1) = _
      rw [n0, n1, Bool.not_not, Bool.not_not]
      rfl
    · rw [decide_eq_false (fun e => hn (by rw [← h.1]; exact e.2)), Bool.false_and, List.drop_eq_nil_of_le (by omega : ss.length ≤ j + 1 + 1)]
      show false = (_ && false)
      rw [Bool.and_false]
def pieceT (p : Bool) (s : List Nat) (r : List (List Nat)) : List Nat := match sayW s with
  | some x => x
  | none => if (p && nextT r) = true then [] else s
theorem decA_cons (p : Bool) (s : List Nat) (r : List (List Nat)) : decA p (s :: r) = pieceT p s r ++ decA (sayW s).isSome r := rfl
theorem prevT_succ {ss : List (List Nat)} {j : Nat} {s : List Nat} (h : ss[j]? = some s) : prevT ss (j + 1) = (sayW s).isSome := by
  show (match ss[j]? with
    | some s => (sayW s).isSome
    | none => false) = _
  rw [h]
theorem stch_part {l s : List Nat} (h : s ∈ stch l) : s.length ≤ l.length ∧ ∀ c ∈ s, c ∈ l := by
  have e := stch_flat l
  refine ⟨?_, fun c hc => ?_⟩
  · rw [← e]
    exact (List.sublist_flatten_of_mem h).length_le
  · rw [← e]
    exact List.mem_flatten.mpr ⟨s, h, hc⟩
section
variable {P : Program} {w : World} {K : PySem.W.Frag} {mg : Str → Option Value} {base : Heap}
def spDecoded : Sp := fun vs H Q _ => ∃ z : Str, vs = [.str z] ∧ z.length ≤ 2900 ∧ isLn z.cps.toList = true ∧ (decL z.cps.toList).length ≤ 10000 ∧ ∀ H' p, Same H H' → H p = none → H' p = some (.lst (iv (decL z.cps.toList))) → Q (.ref p) H'
theorem scDecoded : FnScope ["value", "stretches", "stretch", "told", "saying", "number"] ["value"] (defScope sDecoded) := ⟨rfl, rfl, rfl, by decide +kernel, rfl, by decide +kernel, by decide +kernel⟩
theorem r_decoded (A : FnAt K mg "decoded" sDecoded) (R1 : Ready P w K mg base 3 "is_line" ["value"] (spLine K isLn)) (R2 : Ready P w K mg base 1 "_stretches" ["value"] spStretch2) (R3 : Ready P w K mg base 10 "saying_of_word" ["word"] spSayWord)
    (R4 : Ready P w K mg base 1 "_is_between_told" ["told", "number"] spBetween) (R5 : Ready P w K mg base 1 "numbers_of" ["text"] spNumbersOf) (m_enumerate : mg "enumerate" = none) : ∃ f fd, mg "decoded" = some (.ref f) ∧ PySem.W.keepIn K (.ref f) = true ∧ L2.Binds K fd ["value"] [] ∧ KBs K fd ["value"] ∧ FnOk P w K mg base CX0 11 f fd ["value"] spDecoded := by
  obtain ⟨f1, fd1, g1, k1, b1, G1⟩ := R1
  obtain ⟨f2, fd2, g2, k2, b2, G2⟩ := R2
  obtain ⟨f3, fd3, g3, k3, b3, G3⟩ := R3
  obtain ⟨f4, fd4, g4, k4, b4, G4⟩ := R4
  obtain ⟨f5, fd5, g5, k5, b5, G5⟩ := R5
  obtain ⟨f, fd, F, g⟩ := A.ex
  refine ⟨f, fd, g, F.kp, F.binds (fun _ _ _ _ _ _ us hl => match us, hl with | [_], _ => rfl), kb_of F (fun _ _ _ _ _ _ us hl => match us, hl with | [_], _ => rfl), ?_⟩
  refine F.ok scDecoded (fun vs H Q E h => ?_) (fun cdv A outer s H vs Q E hr h => ?_)
  · obtain ⟨z, rfl, _⟩ := h
    rfl
  · obtain ⟨z, rfl, hz, hln, hdl, q⟩ := h
    have sc := scDecoded
    refine ⟨_, pss_cons (ps_if (pt_not (pt_val (pe_call G1 (hr.mono (by decide)) (by rfl) g1 k1 b1 .nil pass0 (pa_cons (pv 0) pa_nil))))
        (pss_one ps_never)
        pss_nil)
      (pss_cons (ps_set (i := 1) sc.nd rfl (.inl rfl) (pe_call G2 (hr.mono (by decide)) (by rfl) g2 k2 b2 .nil pass0 (pa_cons (pv 0) pa_nil)))
      (pss_cons (ps_setLc (i := 3) (own := [("stretch", 2)]) (g := gName 2) (tt := tYes) (te := (tCall spSayWord [] E0 (tCons (tVar 2) tNil))) (by rfl) sc.nd rfl rfl (sw_true rfl rfl rfl (by decide +kernel)) (pi_list (pv 1)) (blkOk_by (own := [("stretch", 2)]) (N := ["value", "stretches", "stretch", "told", "saying", "number"]) (sc := defScope sDecoded) (by decide +kernel)) (fun _ _ _ _ _ => (pg_name (i := 2) sc.nd rfl (.inl rfl))) (fun _ _ _ _ _ => pts_nil) (fun _ _ _ _ _ => (pe_call G3 (hr.mono (by decide)) (by rfl) g3 k3 b3 .nil pass0 (pa_cons (pv 2) pa_nil))))
      (pss_cons (ps_set (i := 4) sc.nd rfl (.inl rfl) (pe_lst pa_nil))
      (pss_cons (ps_for PassesOwn.never rfl (pi_enum (by rfl) m_enumerate (pa_cons (pv 1) pa_nil)) (pg_tup rfl (pgs_cons (pg_name (i := 5) sc.nd rfl (.inl rfl)) (pgs_cons (pg_name (i := 2) sc.nd rfl (.inl rfl)) pgs_nil)))
        (pss_one (ps_if (pt_cmpR op_notN (pe_ix ix_list (pv 3) (pv 5) (fun _ _ => rfl)) pe_non (nomark _))
            (pss_one (ps_expr (pe_bm PySem.F.plainAttrs_list PySem.F.slot_list_extend PySem.F.type_list_extend mt_extend (pv 4) (pa_cons (pe_ix ix_list (pv 3) (pv 5) (fun _ _ => rfl)) pa_nil))))
            (pss_one (ps_if (pt_not (pt_val (pe_call G4 (hr.mono (by decide)) (by rfl) g4 k4 b4 .nil pass0 (pa_cons (pv 3) (pa_cons (pv 5) pa_nil)))))
                (pss_one (ps_expr (pe_bm PySem.F.plainAttrs_list PySem.F.slot_list_extend PySem.F.type_list_extend mt_extend (pv 4) (pa_cons (pe_call G5 (hr.mono (by decide)) (by rfl) g5 k5 b5 .nil pass0 (pa_cons (pv 2) pa_nil)) pa_nil))))
                pss_nil)))))
      (pss_one (ps_ret (pv 4))))))), ?_⟩
    have hzl := len_cps z
    have hst := stch_few z.cps.toList
    have hsig : allSig z.cps.toList = true := (Bool.and_eq_true_iff.mp hln).1
    have hpart : ∀ s ∈ stch z.cps.toList, (mk s).length ≤ 2900 ∧ allSig s = true := fun s hs => by
      obtain ⟨h1, h2⟩ := stch_part hs
      exact ⟨by rw [mk_len]; omega, List.all_eq_true.mpr fun c hc => List.all_eq_true.mp hsig c (h2 c hc)⟩
    unfold decL at hdl q
    obtain ⟨ss, hss⟩ : ∃ ss, stch z.cps.toList = ss := ⟨_, rfl⟩
    rw [hss] at hst hpart hdl q
    refine ⟨_, rfl, _, rfl, .inl ⟨z, rfl, by omega, fun H1 s1 => ?_⟩⟩
    rw [hln]
    refine ⟨_, rfl, iteF ⟨_, rfl, z, rfl, by omega, fun H2 p1 s2 np1 hp1 => ?_⟩⟩
    rw [hss] at hp1
    have sm2 := s1.trans s2
    refine ⟨_, rfl, p1, rfl, ⟨_, SqL.of hp1⟩, fun D nD => ?_⟩
    refine lc_it (walk_list (K := K) (a := p1) (xs := ss.map fun l => V.str (mk l))) (fun i H' => ∃ xs, Same H2 H' ∧ H' D = some (.lst xs) ∧ Tolds D H' (ss.take i) xs) ⟨[], same_new nD, upd_same, rfl, fun j s x a b => by cases b⟩ (fun i H' _ p => by obtain ⟨xs, sm, _⟩ := p; exact SqL.of (sm _ _ hp1)) (fun i x H3 H4 hi hp hy => ?_) (fun H5 hp => ?_)
    · obtain ⟨rfl, hx⟩ := hy
      obtain ⟨xs, sm, hd, ht⟩ := hp
      rw [List.length_map] at hi
      have hn := List.getElem?_eq_getElem hi
      have hm := List.getElem_mem hi
      generalize ss[i] = s0 at hn hm
      rw [List.getElem?_map, hn] at hx
      injection hx with hx
      subst hx
      refine ⟨rfl, ?_⟩
      unfold tYes
      refine iteT ?_
      obtain ⟨h1, h2⟩ := hpart s0 hm
      have hxl : xs.length ≤ ss.length := by rw [ht.1]; exact List.length_take_le' _ _
      refine ⟨_, rfl, mk s0, rfl, h1, by rw [mk_codes]; exact h2, fun t hst2 H6 p s6 np hp6 => ?_, fun hst2 H6 s6 => ?_⟩
      · rw [mk_codes] at hst2
        have hpD : p ≠ D := fun e => by rw [e, hd] at np; cases np
        refine ⟨xs, s6 _ _ hd, szl (by omega), xs ++ [_], same_set (sm.trans s6) nD, upd_same, ?_⟩
        rw [take_more hn]
        exact ((ht.same s6).snoc (.inr ⟨t, p, hst2, rfl, hpD, hp6⟩)).upd
      · rw [mk_codes] at hst2
        refine ⟨xs, s6 _ _ hd, szl (by omega), xs ++ [_], same_set (sm.trans s6) nD, upd_same, ?_⟩
        rw [take_more hn]
        exact ((ht.same s6).snoc (.inl ⟨hst2, rfl⟩)).upd
    · obtain ⟨xs, sm5, hd, ht⟩ := hp
      rw [List.length_map, List.take_length] at ht
      have hp5 := sm5 _ _ hp1
      refine ⟨by decide, fun sp nsp => ?_⟩
      refine ⟨_, rfl, p1, _, rfl, SqL.of (by rw [upd_ne (fun e => by rw [e, nsp] at hp5; cases hp5)]; exact hp5), ?_⟩
      refine for_it (walk_enum (K := K) (a := p1) (xs := ss.map fun l => V.str (mk l))) (fun i σ H' => ∃ (acc : List Nat) (y2 y5 : Option V), σ = [some (.str z), some (.ref p1), y2, some (.ref D), some (.ref sp), y5] ∧ Same H5 H' ∧ H' sp = some (.lst (iv acc)) ∧ acc ++ decA (prevT ss i) (ss.drop i) = decA false ss)
        ⟨[], _, _, rfl, same_new nsp, upd_same, rfl⟩ (fun i σ H' _ p => by obtain ⟨acc, y2, y5, _, sm, _⟩ := p; exact SqL.of (sm _ _ hp5)) (fun i x σ H6 H7 hi hp hy => ?_) (fun σ H6 hp => ?_)
      · obtain ⟨acc, y2, y5, rfl, sm6, hsp, hE⟩ := hp
        obtain ⟨T, xx, yy, rfl, nT, rfl, hxx, hyy⟩ := hy
        injection hxx with hxx
        subst hxx
        rw [List.length_map] at hi
        have hn := List.getElem?_eq_getElem hi
        have hm := List.getElem_mem hi
        have hdr : ss.drop i = ss[i] :: ss.drop (i + 1) := List.drop_eq_getElem_cons hi
        generalize ss[i] = s0 at hn hm hdr
        have hyy : (ss.map fun l => V.str (mk l))[i]? = some yy := hyy
        rw [List.getElem?_map, hn] at hyy
        injection hyy with hyy
        subst hyy
        have sT : Same H6 (upd H6 T (.tup [.int (i : Nat), .str (mk s0)])) := same_new nT
        have hT : (upd H6 T (.tup [.int (i : Nat), .str (mk s0)])) T = some (.tup [.int (i : Nat), .str (mk s0)]) := upd_same
        generalize upd H6 T (.tup [.int (i : Nat), .str (mk s0)]) = H7 at sT hT ⊢
        have sm7 := sm6.trans sT
        have hsp7 := sT _ _ hsp
        obtain ⟨x0, hx0⟩ : ∃ x, xs[i]? = some x := ⟨_, List.getElem?_eq_getElem (by rw [ht.1]; exact hi)⟩
        have ht0 := (ht.same sm7).2 i s0 x0 hn hx0
        have hbet := bet_told ht hi
        rw [hdr, decA_cons, ← prevT_succ hn] at hE
        refine ⟨T, _, rfl, SqT.of hT, rfl, _, _, rfl, _, _, rfl, rfl, _, rfl, _, rfl, D, _, _, x0, rfl, rfl, SqL.of (sm7 _ _ hd), atI_nat hx0, rfl, _, rfl, ?_⟩
        have hlen : ∀ t : List Nat, pieceT (prevT ss i) s0 (ss.drop (i + 1)) = t → (acc ++ t).length ≤ 10000 ∧ (acc ++ t) ++ decA (prevT ss (i + 1)) (ss.drop (i + 1)) = decA false ss := fun t e => by
          rw [e, ← List.append_assoc] at hE
          refine ⟨?_, hE⟩
          have := congrArg List.length hE
          rw [List.length_append] at this
          omega
        have hsz : ∀ t : List Nat, (acc ++ t).length ≤ 10000 → (iv acc).length + (iv t).length ≤ sizeLine := fun t h => by
          rw [iv_len, iv_len, sizeLine_eq]
          rw [List.length_append] at h
          omega
        rcases ht0 with ⟨hs0, rfl⟩ | ⟨t, p, hs0, rfl, hpD, hpt⟩
        · refine iteF ?_
          refine ⟨_, rfl, _, rfl, D, xs, i, rfl, sm7 _ _ hd, by rw [ht.1]; omega, ?_⟩
          rw [hbet]
          refine ⟨_, rfl, ?_⟩
          cases hb : (prevT ss i && nextT (ss.drop (i + 1))) with
          | true =>
            obtain ⟨_, hE2⟩ := hlen [] (by unfold pieceT; rw [hs0]; exact if_pos hb)
            rw [List.append_nil] at hE2
            refine iteF ⟨acc, _, _, rfl, sm7, hsp7, hE2⟩
          | false =>
            obtain ⟨hl2, hE2⟩ := hlen s0 (by unfold pieceT; rw [hs0]; exact if_neg (by rw [hb]; exact Bool.false_ne_true))
            refine iteT ⟨_, rfl, .inl ⟨rfl, _, SqL.of hsp7⟩, _, rfl, mk s0, rfl, by have := (hpart s0 hm).1; omega, fun H8 np s8 nnp hnp => ?_⟩
            rw [mk_codes] at hnp
            refine ⟨sp, np, _, _, rfl, rfl, s8 _ _ hsp7, hnp, hsz s0 hl2, acc ++ s0, _, _, rfl, same_set (sm7.trans s8) nsp, by rw [upd_same, iv_app], hE2⟩
        · obtain ⟨hl2, hE2⟩ := hlen t (by unfold pieceT; rw [hs0])
          rw [decide_eq_false (show ¬ V.ref p = V.non from fun e => by cases e)]
          refine iteT ⟨_, rfl, .inl ⟨rfl, _, SqL.of hsp7⟩, _, rfl, _, rfl, D, _, _, _, rfl, rfl, SqL.of (sm7 _ _ hd), atI_nat hx0, sp, p, _, _, rfl, rfl, hsp7, hpt, hsz t hl2, acc ++ t, _, _, rfl, same_set sm7 nsp, by rw [upd_same, iv_app], hE2⟩
      · obtain ⟨acc, y2, y5, rfl, sm6, hsp, hE⟩ := hp
        rw [List.length_map, List.drop_length] at hE
        have e : acc = decA false ss := by rw [← hE]; show _ = acc ++ []; rw [List.append_nil]
        subst e
        refine ⟨_, rfl, q H6 sp ((sm2.trans sm5).trans sm6) (Same.free (sm2.trans sm5) nsp) hsp⟩
end
end FL


namespace FL
open PySem PySem.Spec PyProof.Rows L2
/-! ### words joined: their signs, their length, what they tell -/
def Nmb (l : List Nat) : Prop := ∀ c ∈ l, numb c = true
theorem Nmb.app {a b : List Nat} (ha : Nmb a) (hb : Nmb b) : Nmb (a ++ b) := fun c hc => (List.mem_append.mp hc).elim (ha c) (hb c)
theorem Nmb.bl (k : Nat) : Nmb (List.replicate k 32) := fun c hc => by rw [(List.mem_replicate.mp hc).2]; decide
theorem Nmb.join {k : Nat} : ∀ ws : List (List Nat), (∀ w ∈ ws, Nmb w) → Nmb (TL.joinL (List.replicate k 32) ws)
  | [], _ => fun c hc => by cases hc
  | [w], h => h w (List.mem_cons_self ..)
  | w :: w2 :: ws, h => (h w (List.mem_cons_self ..)).app ((Nmb.bl k).app (Nmb.join (w2 :: ws) fun x hx => h x (List.mem_cons_of_mem _ hx)))
theorem Nmb.isLn {l : List Nat} (h : Nmb l) : isLn l = true := by
  unfold FL.isLn
  have h1 : allSig l = true := List.all_eq_true.mpr fun c hc => by
    obtain ⟨a, b, d⟩ := numb_iff.mp (h c hc)
    unfold isSig
    rw [decide_eq_true (⟨a, by omega⟩ : 32 ≤ c ∧ c ≤ 126), decide_eq_false d]
    simp
  have h2 : ¬ 10 ∈ l := fun e => by
    have := h 10 e
    exact absurd this (by decide)
  rw [h1, decide_eq_false h2]
  rfl
theorem six_numb : ∀ n, n < 64 → numb (six n) = true := by decide +kernel
theorem four_numb {l : List Nat} (hb : ∀ x ∈ l, x < 256) (hl : l.length ≤ 3) : ∀ c ∈ four l, numb c = true := by
  match l, hb, hl with
  | [], _, _ => simp [four]
  | [a], hb, _ =>
    have := hb a (by simp)
    intro c hc
    simp [FL.four] at hc
    rcases hc with rfl | rfl | rfl
    · exact six_numb _ (by omega)
    · exact six_numb _ (by omega)
    · decide
  | [a, b], hb, _ =>
    have := hb a (by simp)
    have := hb b (by simp)
    intro c hc
    simp [FL.four] at hc
    rcases hc with rfl | rfl | rfl | rfl
    · exact six_numb _ (by omega)
    · exact six_numb _ (by omega)
    · exact six_numb _ (by omega)
    · decide
  | [a, b, d], hb, _ =>
    have := hb a (by simp)
    have := hb b (by simp)
    have := hb d (by simp)
    intro c hc
    simp [FL.four] at hc
    rcases hc with rfl | rfl | rfl | rfl
    · exact six_numb _ (by omega)
    · exact six_numb _ (by omega)
    · exact six_numb _ (by omega)
    · exact six_numb _ (by omega)
  | _ :: _ :: _ :: _ :: _, _, h => simp at h
theorem sixC_numb : ∀ (n : Nat) (l : List Nat), l.length ≤ n → (∀ x ∈ l, x < 256) → ∀ c ∈ sixC l, numb c = true
  | n, [], _, _, c, hc => by simp [sixC] at hc
  | 0, a :: r, h, _, _, _ => by simp at h
  | n + 1, a :: r, h, hb, c, hc => by
    rw [sixC_step (by simp)] at hc
    rcases List.mem_append.mp hc with hc | hc
    · exact four_numb (fun x hx => hb x (List.mem_of_mem_take hx)) (List.length_take_le _ _) c hc
    · exact sixC_numb n _ (by rw [List.length_drop]; simp at h ⊢; omega) (fun x hx => hb x (List.mem_of_mem_drop hx)) c hc
theorem hexd_numb : ∀ k, k < 16 → numb (hexd k) = true := by decide
theorem marksC_numb {l : List Nat} (hb : ∀ x ∈ l, x < 256) : ∀ c ∈ marksC l, numb c = true := by
  intro c hc
  unfold marksC at hc
  obtain ⟨o, ho, hc⟩ := List.mem_flatMap.mp hc
  have h256 := hb o ho
  unfold markC at hc
  split at hc
  · rw [List.mem_singleton.mp hc]
    decide
  · split at hc
    · rename_i h
      rw [List.mem_singleton.mp hc]
      exact h.1
    · rcases List.mem_cons.mp hc with rfl | hc
      · decide
      · have h1 := hexd_numb (o / 16) (by omega)
        have h2 := hexd_numb (o % 16) (by omega)
        simp [hex2] at hc
        rcases hc with rfl | rfl
        · exact h1
        · exact h2
theorem Way.word_numb (y : Way) {p : List Nat} (h : Good p) : Nmb (y.word p) := by
  have hb := octsOf_lt h
  have h1 : Nmb [61, 63, y.c, 63] := by
    have e : ∀ x, x = 115 ∨ x = 109 → ∀ c ∈ [61, 63, x, 63], numb c = true := fun x hx => by rcases hx with rfl | rfl <;> decide
    exact e y.c (by cases y; exact .inl rfl; exact .inr rfl)
  have h2 : Nmb (y.wr (octsOf p)) := by
    cases y with
    | s => exact sixC_numb _ _ (Nat.le_refl _) hb
    | m => exact marksC_numb hb
  have h3 : Nmb [63, 61] := fun c hc => by simp at hc; rcases hc with rfl | rfl <;> decide
  exact (h1.app h2).app h3
theorem Way.word_len (y : Way) (p : List Nat) (hn : p ≠ []) : (y.word p).length ≤ 17 * p.length := by
  have h1 := octsOf_len p
  have h2 : 1 ≤ p.length := List.length_pos_iff.mpr hn
  have h3 : (y.wr (octsOf p)).length ≤ 3 * (octsOf p).length + 2 := by
    cases y with
    | s => exact sixC_len3 _
    | m => exact marksC_len _
  have e : (y.word p).length = (y.wr (octsOf p)).length + 6 := by
    unfold Way.word wordC
    simp
  omega
theorem join_len {k : Nat} {y : Way} : ∀ ps : List (List Nat), (∀ p ∈ ps, p ≠ []) → (TL.joinL (List.replicate k 32) (ps.map y.word)).length ≤ (17 + k) * ps.flatten.length
  | [], _ => by simp [TL.joinL]
  | [p], h => by
    have h1 := y.word_len p (h p (List.mem_cons_self ..))
    show (y.word p).length ≤ (17 + k) * ([p].flatten).length
    rw [List.flatten_cons, List.flatten_nil, List.append_nil, Nat.add_mul]
    omega
  | p :: p2 :: ps, h => by
    have h1 := y.word_len p (h p (List.mem_cons_self ..))
    have h2 := join_len (k := k) (y := y) (p2 :: ps) (fun x hx => h x (List.mem_cons_of_mem _ hx))
    have h3 : 1 ≤ p.length := List.length_pos_iff.mpr (h p (List.mem_cons_self ..))
    show (y.word p ++ (List.replicate k 32 ++ TL.joinL (List.replicate k 32) ((p2 :: ps).map y.word))).length ≤ _
    rw [List.length_append, List.length_append, List.length_replicate, List.flatten_cons, List.length_append, Nat.mul_add, Nat.add_mul]
    have h4 : k ≤ k * p.length := Nat.le_mul_of_pos_right k h3
    omega
structure Parts (y : Way) (ps : List (List Nat)) : Prop where
  good : ∀ p ∈ ps, Good p
  ok : PartsOk y.wr ps
theorem Parts.dec {y : Way} {k : Nat} {ps : List (List Nat)} (h : Parts y ps) (hk : 1 ≤ k) : decL (TL.joinL (List.replicate k 32) (ps.map y.word)) = ps.flatten := by
  by_cases hn : ps = []
  · subst hn
    rfl
  · exact (y.vls hk hn h.good h.ok).out
theorem Parts.numb {y : Way} {k : Nat} {ps : List (List Nat)} (h : Parts y ps) : Nmb (TL.joinL (List.replicate k 32) (ps.map y.word)) := Nmb.join _ fun w hw => by
  obtain ⟨p, hp, rfl⟩ := List.mem_map.mp hw
  exact y.word_numb (h.good p hp)
theorem Parts.len {y : Way} {k : Nat} {ps : List (List Nat)} (h : Parts y ps) : (TL.joinL (List.replicate k 32) (ps.map y.word)).length ≤ (17 + k) * ps.flatten.length := join_len ps fun p hp => (h.ok p hp).1
theorem Parts.take {y : Way} {ps : List (List Nat)} (h : Parts y ps) (i : Nat) : Parts y (ps.take i) := ⟨fun p hp => h.good p (List.mem_of_mem_take hp), fun p hp => h.ok p (List.mem_of_mem_take hp)⟩
theorem Parts.drop {y : Way} {ps : List (List Nat)} (h : Parts y ps) (i : Nat) : Parts y (ps.drop i) := ⟨fun p hp => h.good p (List.mem_of_mem_drop hp), fun p hp => h.ok p (List.mem_of_mem_drop hp)⟩
theorem Parts.app {y : Way} {ps qs : List (List Nat)} (h : Parts y ps) (g : Parts y qs) : Parts y (ps ++ qs) :=
  ⟨fun p hp => (List.mem_append.mp hp).elim (h.good p) (g.good p), fun p hp => (List.mem_append.mp hp).elim (h.ok p) (g.ok p)⟩
/-- a coded saying's signs and length -/
theorem codedC_numb {l : List Nat} (h : Good l) : Nmb (codedC l) := by
  rcases coded_cases l h with ⟨ho, e⟩ | ⟨ho, y, ps, e, hf, hp⟩
  · rw [e]
    exact own_numb ho
  · rw [e]
    exact Parts.numb (k := 1) ⟨Good.part (by rw [hf]; exact h), hp⟩
theorem codedC_len {l : List Nat} (h : Good l) : (codedC l).length ≤ 18 * l.length := by
  rcases coded_cases l h with ⟨ho, e⟩ | ⟨ho, y, ps, e, hf, hp⟩
  · rw [e]
    omega
  · rw [e, ← hf]
    exact Parts.len (k := 1) ⟨Good.part (by rw [hf]; exact h), hp⟩
theorem split_bl {ps : List (List Nat)} (hne : ps ≠ []) (hp : ∀ p ∈ ps, 32 ∉ p) : Txt.split (mk (TL.joinL [32] ps)) (" " : Str) = ps.map mk := by
  have hu : (" " : Str) = mk [32] := by decide +kernel
  have hj : mk (TL.joinL [32] ps) = Txt.join (" " : Str) (ps.map mk) := by
    symm
    refine mk_eq ?_
    show TL.tl _ = _
    rw [TL.join_eq, TL.tl_join]
    have e : TL.tl (" " : Str) = [32] := by
      show (" " : Str).cps.toList = [32]
      rw [hu, mk_codes]
    rw [e, List.map_map]
    congr 1
    exact (List.map_congr_left (fun p _ => mk_codes p)).trans (List.map_id _)
  rw [hj]
  refine TL.split_join (s := 32) (S := []) ?_ ?_ (by simpa using hne) fun p h => ?_
  · show (" " : Str).cps.toList = [32]
    rw [hu, mk_codes]
  · rw [hu]
    show (#[32] : Array Nat).all (· < 256) = true
    simp
  · obtain ⟨q, hq, rfl⟩ := List.mem_map.mp h
    show 32 ∉ (mk q).cps.toList
    rw [mk_codes]
    exact hp q hq
theorem join_bl {u : Str} {k : Nat} (hu : u.cps.toList = List.replicate k 32) (ps : List (List Nat)) : Txt.join u (ps.map mk) = mk (TL.joinL (List.replicate k 32) ps) := by
  refine mk_eq ?_
  show TL.tl _ = _
  rw [TL.join_eq, TL.tl_join]
  have e : TL.tl u = List.replicate k 32 := hu
  rw [e, List.map_map]
  congr 1
  exact (List.map_congr_left (fun p _ => mk_codes p)).trans (List.map_id _)
/-- the parts of a saying that doesn't stand for itself -/
theorem coded_parts {l : List Nat} (h : Good l) (hq : ownT l = false) : ∃ (y : Way) (ps : List (List Nat)), codedC l = TL.joinL [32] (ps.map y.word) ∧ ps.flatten = l ∧ Parts y ps := by
  rcases coded_cases l h with ⟨ho, e⟩ | ⟨ho, y, ps, e, hf, hp⟩
  · rw [ho] at hq
    cases hq
  · exact ⟨y, ps, e, hf, Good.part (by rw [hf]; exact h), hp⟩
end FL


namespace FL
open PySem PySem.Spec PyProof.Rows L2
/-! ### the suite's text of numbers -/
def LSIG : Str := " !\"#$&'()*+,-./0123456789:;<=>?@ABCDEFGHIJKLMNOPQRSTUVWXYZ[\\]^_`abcdefghijklmnopqrstuvwxyz{|}~"
theorem lsig_len : LSIG.length = 94 := by decide +kernel
theorem lsig_at : ∀ n, n < 127 → 32 ≤ n → n ≠ 37 → LSIG.cps[n - 32 - (if 37 < n then 1 else 0)]? = some n := by decide +kernel
def textV (l : List Nat) : V := if l.all numb = true then .str (mk l) else .non
section
variable {P : Program} {w : World} {K : PySem.W.Frag} {mg : Str → Option Value} {base : Heap}
def spLawText : Sp := fun vs H Q _ => ∃ (a : Addr) (l : List Nat), vs = [.ref a] ∧ H a = some (.lst (iv l)) ∧ l.length ≤ 1000 ∧ ∀ H', Same H H' → Q (textV l) H'
theorem scLawText : FnScope ["_law_numbers_here", "_law_signs", "_law_found", "_law_number"] ["_law_numbers_here"] (defScope sLawText) := ⟨rfl, rfl, rfl, by decide +kernel, rfl, by decide +kernel, by decide +kernel⟩
theorem r_law_text (A : FnAt K mg "_law_text" sLawText) (m_int : mg "int" = none) : Ready P w K mg base 1 "_law_text" ["_law_numbers_here"] spLawText := by
  refine ready_of A (fun _ _ _ _ _ _ us hl => match us, hl with | [_], _ => rfl) fun f fd F => ?_
  refine F.ok scLawText (fun vs H Q E h => ?_) (fun cdv A outer s H vs Q E hr h => ?_)
  · obtain ⟨a, l, rfl, _⟩ := h
    rfl
  · obtain ⟨a, l, rfl, ha, hl, q⟩ := h
    have sc := scLawText
    refine ⟨_, pss_cons (ps_set (i := 1) sc.nd rfl (.inl rfl) pe_str)
      (pss_cons (ps_set (i := 2) sc.nd rfl (.inl rfl) pe_str)
      (pss_cons (ps_for PassesOwn.never rfl (pi_list (pv 0)) (pg_name (i := 3) sc.nd rfl (.inl rfl))
        (pss_cons (ps_if (PW.pt (pw_or (pt_not (pt_chain op_le op_le pe_int (pv 3) pe_int (by with_unfolding_all rfl))) (pw_or1 (pt_cmpR op_eq (pv 3) pe_int (nomark _)))))
            (pss_one (ps_ret pe_non))
            pss_nil)
          (pss_one (ps_set (i := 2) sc.nd rfl (.inl rfl) (pe_op op_add_str (pv 2) (pe_item_str (pv 1) (pe_op op_sub (pe_op op_sub (pv 3) pe_int) (pe_callTy call_int1 (by rfl) m_int (by decide +kernel) (pa_cons (pe_cmpR op_gt (pv 3) pe_int (nomark _)) pa_nil))) (fun _ _ => rfl)))))))
      (pss_one (ps_ret (pv 2))))), ?_⟩
    have e0x : ("" : Str) = mk [] := by decide +kernel
    refine ⟨_, rfl, a, rfl, ⟨_, SqL.of ha⟩, ?_⟩
    refine for_it (walk_list (K := K) (a := a) (xs := iv l)) (fun i σ H' => ∃ (y3 : Option V), σ = [some (.ref a), some (.str LSIG), some (.str (mk (l.take i))), y3] ∧ H' = H ∧ (l.take i).all numb = true) ⟨none, by rw [List.take_zero, ← e0x]; rfl, rfl, rfl⟩ (fun i σ H' _ hp => ?_) (fun i x σ H1 H2 hi hp hy => ?_) (fun σ H1 hp => ?_)
    · obtain ⟨y3, rfl, rfl, _⟩ := hp
      exact SqL.of ha
    · obtain ⟨y3, rfl, rfl, hall⟩ := hp
      obtain ⟨rfl, hx⟩ := hy
      rw [iv_len] at hi
      have hn := List.getElem?_eq_getElem hi
      have hmem := List.getElem_mem hi
      generalize l[i] = n at hn hmem
      rw [iv_at hn] at hx
      injection hx with hx
      subst hx
      have hbad : numb n ≠ true → Q .non H2 := fun h => by
        have := q H2 (Same.refl _)
        unfold textV at this
        rw [if_neg (fun z => h (List.all_eq_true.mp z n hmem))] at this
        exact this
      refine ⟨_, rfl, _, _, rfl, rfl, _, rfl, ?_⟩
      by_cases h1 : (32 : Int) ≤ (n : Nat)
      · rw [decide_eq_true h1]
        refine iteT ⟨_, _, rfl, rfl, _, rfl, ?_⟩
        by_cases h2 : ((n : Nat) : Int) ≤ 126
        · refine iteNS h2 ?_
          refine ⟨_, rfl, rfl, _, rfl, ite2 (fun h3 => ?_) (fun h3 => ?_)⟩
          · have e : n = 37 := by have := V.int.inj (of_decide_eq_true h3); omega
            exact hbad (by rw [e]; decide)
          · have hne : n ≠ 37 := fun z => h3 (decide_eq_true (by rw [z]; rfl))
            have hb : numb n = true := numb_iff.mpr ⟨by omega, by omega, hne⟩
            refine ⟨_, rfl, _, rfl, _, rfl, _, _, rfl, rfl, _, rfl, _, _, rfl, rfl, .inr ⟨_, rfl, ?_⟩⟩
            have hidx := lsig_at n (by omega) (by omega) hne
            have hc := catX (rfl : mk (l.take i) = _) (rfl : mk [n] = _)
            have hfin : ∀ (j : Int) , j = ((n - 32 - (if 37 < n then 1 else 0) : Nat) : Int) → ∃ (a_1 : Str) (i_1 : Int) (c : Nat), V.str LSIG = V.str a_1 ∧ V.int j = V.int i_1 ∧ 0 ≤ i_1 ∧ i_1 < 2 ^ 63 ∧ i_1 < a_1.length ∧ a_1.cps[i_1.toNat]? = some c ∧
                ∃ (i_2 j_1 : Str), V.str (mk (l.take i)) = V.str i_2 ∧ V.str ⟨#[c]⟩ = V.str j_1 ∧ i_2.length + j_1.length ≤ sizeLine ∧ ∃ (y3 : Option V), [some (V.ref a), some (V.str LSIG), some (V.str (i_2 ++ j_1)), some (.int (n : Nat))] = [some (.ref a), some (.str LSIG), some (.str (mk (l.take (i + 1)))), y3] ∧ H2 = H2 ∧ (l.take (i + 1)).all numb = true := fun j hj => by
              refine ⟨LSIG, j, n, rfl, rfl, by omega, by split at hj <;> omega, by rw [lsig_len]; split at hj <;> omega, by rw [hj, Int.toNat_natCast]; exact hidx, _, _, rfl, rfl, ?_, some (.int (n : Nat)), ?_, rfl, ?_⟩
              · rw [← len_append]
                refine szE hc ?_
                have := List.length_take_le i l
                simp
                omega
              · rw [take_more hn, ← hc]
                rfl
              · rw [take_more hn, List.all_append, hall]
                simp [hb]
            by_cases h4 : n > 37
            · rw [decide_eq_true (by omega : ((n : Nat) : Int) > 37)]
              refine ⟨_, _, rfl, rfl, hfin _ ?_⟩
              rw [if_pos h4]
              show ((n : Nat) : Int) - 32 - 1 = _
              omega
            · rw [decide_eq_false (by omega : ¬ ((n : Nat) : Int) > 37)]
              refine ⟨_, _, rfl, rfl, hfin _ ?_⟩
              rw [if_neg h4]
              show ((n : Nat) : Int) - 32 - 0 = _
              omega
        · rw [decide_eq_false h2]
          exact iteT (hbad fun z => h2 (by have := numb_iff.mp z; omega))
      · rw [decide_eq_false h1]
        exact iteF ⟨_, rfl, iteT (hbad fun z => h1 (by have := numb_iff.mp z; omega))⟩
    · obtain ⟨y3, rfl, rfl, hall⟩ := hp
      rw [iv_len, List.take_length] at hall ⊢
      have := q H1 (Same.refl _)
      unfold textV at this
      rw [if_pos hall] at this
      exact ⟨_, rfl, this⟩
end
end FL


namespace FL
open PySem PySem.Spec PyProof.Rows L2
/-! ### the suite's coded words -/
def WayOk (c : Nat) (wr : List Nat → List Nat) : Prop := (c = 115 ∧ wr = sixC) ∨ (c = 109 ∧ wr = marksC)
theorem WayOk.len {c : Nat} {wr : List Nat → List Nat} (h : WayOk c wr) (r : List Nat) : (wr r).length ≤ 3 * r.length + 2 := by
  rcases h with ⟨_, rfl⟩ | ⟨_, rfl⟩
  · exact sixC_len3 r
  · exact marksC_len r
theorem alnum1 : ∀ n, n < 127 → numb n = true → Txt.isalnum (mk [n]) = (isLet n || isFig n) := by decide +kernel
theorem alnum0 : Txt.isalnum ("" : Str) = false := by decide +kernel
def HEXS : Str := "0123456789ABCDEF"
theorem hexs_at : ∀ k, k < 16 → HEXS.cps[k]? = some (hexd k) := by decide +kernel
theorem hexs_len : HEXS.length = 16 := by decide +kernel
section
variable {P : Program} {w : World} {K : PySem.W.Frag} {mg : Str → Option Value} {base : Heap}
def spLawWord : Sp := fun vs H Q _ => ∃ (a : Addr) (l : List Nat) (c : Nat) (wr : List Nat → List Nat), vs = [.ref a, .str (mk [c])] ∧ WayOk c wr ∧ H a = some (.lst (iv l)) ∧ (∀ n ∈ l, n < 256) ∧ l.length ≤ 900 ∧ ∀ H', Same H H' → Q (.str (mk (wordC wr c l))) H'
theorem scLawWord : FnScope ["_law_eights", "_law_way", "_law_found", "_law_octet", "_law_line"] ["_law_eights", "_law_way"] (defScope sLawWord) := ⟨rfl, rfl, rfl, by decide +kernel, rfl, by decide +kernel, by decide +kernel⟩
theorem r_law_word (A : FnAt K mg "_law_word" sLawWord) (R1 : Ready P w K mg base 1 "_law_sixes" ["_law_eights"] spSixesL) (R2 : Ready P w K mg base 1 "_law_text" ["_law_numbers_here"] spLawText) : Ready P w K mg base 2 "_law_word" ["_law_eights", "_law_way"] spLawWord := by
  obtain ⟨f1, fd1, g1, k1, b1, G1⟩ := R1
  obtain ⟨f2, fd2, g2, k2, b2, G2⟩ := R2
  refine ready_of A (fun _ _ _ _ _ _ us hl => match us, hl with | [_, _], _ => rfl) fun f fd F => ?_
  refine F.ok scLawWord (fun vs H Q E h => ?_) (fun cdv A outer s H vs Q E hr h => ?_)
  · obtain ⟨a, l, c, wr, rfl, _⟩ := h
    rfl
  · obtain ⟨a, l, c, wr, rfl, hw, ha, hb, hl, q⟩ := h
    have sc := scLawWord
    refine ⟨_, pss_cons (ps_if (pt_cmpR op_eq (pv 1) pe_str (nomark _))
        (pss_one (ps_ret (pe_op op_add_str (pe_op op_add_str pe_str (pe_call G1 (hr.mono (by decide)) (by rfl) g1 k1 b1 .nil pass0 (pa_cons (pv 0) pa_nil))) pe_str)))
        pss_nil)
      (pss_cons (ps_set (i := 2) sc.nd rfl (.inl rfl) pe_str)
      (pss_cons (ps_for PassesOwn.never rfl (pi_list (pv 0)) (pg_name (i := 3) sc.nd rfl (.inl rfl))
        (pss_cons (ps_set (i := 4) sc.nd rfl (.inl rfl) (pe_orT (pe_call G2 (hr.mono (by decide)) (by rfl) g2 k2 b2 .nil pass0 (pa_cons (pe_lst (pa_cons (pv 3) pa_nil)) pa_nil)) (pe_one pe_str)))
          (pss_cons (ps_if (pt_cmpR op_eq (pv 3) pe_int (nomark _))
            (pss_one (ps_set (i := 4) sc.nd rfl (.inl rfl) pe_str))
            (pss_one (ps_if (pt_not (pt_val (pe_bm0 PySem.F.plainAttrs_str PySem.F.slot_str_isalnum PySem.F.type_str_isalnum mt_isalnum (pv 4))))
                (pss_one (ps_set (i := 4) sc.nd rfl (.inl rfl) (pe_op op_add_str (pe_op op_add_str pe_str (pe_item_str pe_str (pe_op op_fdiv (pv 3) pe_int) (fun _ _ => rfl))) (pe_item_str pe_str (pe_op op_mod (pv 3) pe_int) (fun _ _ => rfl)))))
                pss_nil)))
          (pss_one (ps_set (i := 2) sc.nd rfl (.inl rfl) (pe_op op_add_str (pv 2) (pv 4)))))))
      (pss_one (ps_ret (pe_op op_add_str (pe_op op_add_str pe_str (pv 2)) pe_str))))), ?_⟩
    have e0x : ("" : Str) = mk [] := by decide +kernel
    have eE : ("?=" : Str) = mk [63, 61] := by decide +kernel
    have e95 : ("_" : Str) = mk [95] := by decide +kernel
    rcases hw with ⟨rfl, rfl⟩ | ⟨rfl, rfl⟩
    · have eB : ("=?s?" : Str) = mk [61, 63, 115, 63] := by decide +kernel
      refine ⟨_, rfl, rfl, _, rfl, ?_⟩
      rw [show decide (V.str (mk [115]) = V.str ("s" : Str)) = true by decide +kernel]
      refine iteT ⟨_, rfl, a, l, rfl, ha, hb, by omega, fun H1 s1 => ?_⟩
      have c1 := catX eB (rfl : mk (sixC l) = _)
      have c2 := catX c1 eE
      have hb6 := sixC_len l
      refine ⟨_, _, rfl, rfl, (by rw [← len_append]; exact szE c1 (by simp; omega)), _, _, rfl, rfl, (by rw [← len_append]; exact szE c2 (by simp; omega)), ?_⟩
      rw [c2]
      exact q _ s1
    · have eB : ("=?m?" : Str) = mk [61, 63, 109, 63] := by decide +kernel
      refine ⟨_, rfl, rfl, _, rfl, ?_⟩
      rw [show decide (V.str (mk [109]) = V.str ("s" : Str)) = false by decide +kernel]
      refine iteF ?_
      refine ⟨_, rfl, a, rfl, ⟨_, SqL.of ha⟩, ?_⟩
      refine for_it (walk_list (K := K) (a := a) (xs := iv l)) (fun i σ H' => ∃ (y3 y4 : Option V), σ = [some (.ref a), some (.str (mk [109])), some (.str (mk (marksC (l.take i)))), y3, y4] ∧ Same H H') ⟨none, none, by rw [List.take_zero, show marksC [] = [] from rfl, ← e0x]; rfl, Same.refl H⟩ (fun i σ H' _ hp => ?_) (fun i x σ H1 H2 hi hp hy => ?_) (fun σ H1 hp => ?_)
      · obtain ⟨y3, y4, rfl, sm⟩ := hp
        exact SqL.of (sm _ _ ha)
      · obtain ⟨y3, y4, rfl, sm⟩ := hp
        obtain ⟨rfl, hx⟩ := hy
        rw [iv_len] at hi
        have hn := List.getElem?_eq_getElem hi
        have hbn := hb _ (List.getElem_mem hi)
        generalize l[i] = n at hn hbn
        rw [iv_at hn] at hx
        injection hx with hx
        subst hx
        have hml := marksC_len (l.take i)
        have hti := List.length_take_le i l
        have fin : ∀ (H3 : Hp) (v : List Nat), Same H2 H3 → v = markC n → ∃ w1, [some (V.ref a), some (V.str (mk [109])), some (V.str (mk (marksC (l.take i)))), some (V.int (n : Nat)), some (V.str (mk v))][2]? = some (some w1) ∧ ∃ w2, [some (V.ref a), some (V.str (mk [109])), some (V.str (mk (marksC (l.take i)))), some (V.int (n : Nat)), some (V.str (mk v))][4]? = some (some w2) ∧
            ∃ p q, w1 = .str p ∧ w2 = .str q ∧ p.length + q.length ≤ sizeLine ∧ ∃ (y3 y4 : Option V), ([some (V.ref a), some (V.str (mk [109])), some (V.str (mk (marksC (l.take i)))), some (V.int (n : Nat)), some (V.str (mk v))].set 2 (some (.str (p ++ q)))) = [some (.ref a), some (.str (mk [109])), some (.str (mk (marksC (l.take (i + 1))))), y3, y4] ∧ Same H H3 := fun H3 v s3 hv => by
          have c1 := catX (rfl : mk (marksC (l.take i)) = _) (rfl : mk v = _)
          have hmc := markC_len n
          refine ⟨_, rfl, _, rfl, _, _, rfl, rfl, (by rw [← len_append]; exact szE c1 (by rw [List.length_append, hv]; omega)), some (.int (n : Nat)), some (.str (mk v)), ?_, sm.trans s3⟩
          rw [c1, take_more hn]
          have e : marksC (l.take i ++ [n]) = marksC (l.take i) ++ v := by
            unfold marksC
            rw [List.flatMap_append, hv]
            simp
          rw [e]
          rfl
        refine ⟨_, rfl, (by show 1 ≤ sizeLine; decide), fun p np => ?_⟩
        refine ⟨p, [n], rfl, by rw [upd_same]; rfl, by simp, fun H3 s3 => ?_⟩
        have s4 : Same H2 H3 := (same_new np).trans s3
        have hhex : ¬ (numb n = true ∧ (isLet n || isFig n) = true) → n ≠ 32 → 61 :: hex2 n = markC n := fun z z2 => by
          unfold markC
          rw [if_neg z2, if_neg z]
        have hexE : ∀ (x : V), n ≠ 32 → ¬ (numb n = true ∧ (isLet n || isFig n) = true) → ∀ (T : V → VK → Prop), True → True := fun _ _ _ _ _ => trivial
        have ch := catX e61 (rfl : mk [hexd (n / 16)] = _)
        have ch2 := catX ch (rfl : mk [hexd (n % 16)] = _)
        have e32 : n = 32 → [95] = markC n := fun z => by rw [z]; rfl
        by_cases hnb : numb n = true
        · have hv : textV [n] = .str (mk [n]) := by
            unfold textV
            rw [if_pos (by simp [hnb])]
          rw [hv]
          refine ⟨true, ⟨by rw [mk_len]; exact Nat.le_of_lt (szl (by simp)), by rw [mk_len]; rfl⟩, iteT ?_⟩
          refine ⟨_, rfl, rfl, _, rfl, ite2 (fun h3 => ?_) (fun h3 => ?_)⟩
          · have e : n = 32 := by have := V.int.inj (of_decide_eq_true h3); omega
            rw [e95]
            exact fin H3 _ s4 (e32 e)
          · have hne : n ≠ 32 := fun z => h3 (decide_eq_true (by rw [z]; rfl))
            have hnl := numb_iff.mp hnb
            refine ⟨_, rfl, rfl, _, rfl, rfl, trivial, ?_⟩
            refine ⟨_, rfl, ?_⟩
            rw [alnum1 n (by omega) hnb]
            cases hal : (isLet n || isFig n) with
            | true =>
              refine iteF (fin H3 _ s4 ?_)
              unfold markC
              rw [if_neg hne, if_pos ⟨hnb, hal⟩]
            | false =>
              refine iteT ?_
              refine ⟨_, rfl, _, _, rfl, rfl, ⟨by decide, by decide⟩, ?_⟩
              refine ⟨HEXS, _, hexd (n / 16), rfl, rfl, by omega, by omega, by rw [hexs_len]; omega, ?_, ?_⟩
              · rw [show ((n : Nat) : Int) / 16 = ((n / 16 : Nat) : Int) by omega, Int.toNat_natCast]
                exact hexs_at _ (by omega)
              refine ⟨_, _, rfl, rfl, (by rw [← len_append]; exact szE ch (by simp)), _, rfl, _, _, rfl, rfl, (by show (0 : Int) < 16; decide), ?_⟩
              refine ⟨HEXS, _, hexd (n % 16), rfl, rfl, by omega, by omega, by rw [hexs_len]; omega, ?_, ?_⟩
              · rw [show ((n : Nat) : Int) % 16 = ((n % 16 : Nat) : Int) by omega, Int.toNat_natCast]
                exact hexs_at _ (by omega)
              refine ⟨_, _, rfl, rfl, (by rw [← len_append]; exact szE ch2 (by simp)), ?_⟩
              rw [show (("=" : Str) ++ (⟨#[hexd (n / 16)]⟩ : Str) ++ (⟨#[hexd (n % 16)]⟩ : Str)) = mk (61 :: hex2 n) from ch2]
              exact fin H3 _ s4 (hhex (fun z => by rw [z.2] at hal; cases hal) hne)
        · have hv : textV [n] = .non := by
            unfold textV
            rw [if_neg (by simp [hnb])]
          rw [hv]
          refine ⟨false, rfl, iteF ?_⟩
          refine ⟨_, rfl, rfl, _, rfl, ite2 (fun h3 => ?_) (fun h3 => ?_)⟩
          · exfalso
            have e : n = 32 := by have := V.int.inj (of_decide_eq_true h3); omega
            exact hnb (by rw [e]; decide)
          · have hne : n ≠ 32 := fun z => h3 (decide_eq_true (by rw [z]; rfl))
            refine ⟨_, rfl, rfl, _, rfl, rfl, trivial, ?_⟩
            refine ⟨_, rfl, ?_⟩
            rw [alnum0]
            refine iteT ?_
            refine ⟨_, rfl, _, _, rfl, rfl, ⟨by decide, by decide⟩, ?_⟩
            refine ⟨HEXS, _, hexd (n / 16), rfl, rfl, by omega, by omega, by rw [hexs_len]; omega, ?_, ?_⟩
            · rw [show ((n : Nat) : Int) / 16 = ((n / 16 : Nat) : Int) by omega, Int.toNat_natCast]
              exact hexs_at _ (by omega)
            refine ⟨_, _, rfl, rfl, (by rw [← len_append]; exact szE ch (by simp)), _, rfl, _, _, rfl, rfl, (by show (0 : Int) < 16; decide), ?_⟩
            refine ⟨HEXS, _, hexd (n % 16), rfl, rfl, by omega, by omega, by rw [hexs_len]; omega, ?_, ?_⟩
            · rw [show ((n : Nat) : Int) % 16 = ((n % 16 : Nat) : Int) by omega, Int.toNat_natCast]
              exact hexs_at _ (by omega)
            refine ⟨_, _, rfl, rfl, (by rw [← len_append]; exact szE ch2 (by simp)), ?_⟩
            rw [show (("=" : Str) ++ (⟨#[hexd (n / 16)]⟩ : Str) ++ (⟨#[hexd (n % 16)]⟩ : Str)) = mk (61 :: hex2 n) from ch2]
            exact fin H3 _ s4 (hhex (fun z => hnb z.1) hne)
      · obtain ⟨y3, y4, rfl, sm⟩ := hp
        rw [iv_len, List.take_length]
        have c1 := catX eB (rfl : mk (marksC l) = _)
        have c2 := catX c1 eE
        have hb6 := marksC_len l
        refine ⟨_, rfl, _, _, rfl, rfl, (by rw [← len_append]; exact szE c1 (by simp; omega)), _, _, rfl, rfl, (by rw [← len_append]; exact szE c2 (by simp; omega)), ?_⟩
        rw [c2]
        exact q _ sm
end
end FL


namespace FL
open PySem PySem.Spec PyProof.Rows L2
/-! ### a short text from its end -/
def tRevS (te : TE) : TE := fun σ H Q => te σ H fun x H1 => ∃ z : Str, x = .str z ∧ z.length ≤ 2 ∧ ∀ r : Str, r.length ≤ 2 → (∀ c ∈ r.cps.toList, c ∈ z.cps.toList) → Q (.str r) H1
theorem sidx_small : ∀ n, n ≤ 2 → (Builtin.Str.strSliceIndices none none (-1) n).length ≤ 2 := by decide +kernel
theorem pe_revS {X : Cx} {e : Expr} {te : TE} {k : Nat} {p1 p2 p3 pos : Pos} (he : PE X e te) : PE X (.Subscript e (.Slice none none (some (.UnaryOp .USub (.Constant (.int 1) k p1) p2)) p3) pos) (tRevS te) := by
  refine ⟨fun pins s σ H Q I h => ?_⟩
  refine Subscript_ (thn (he.run pins s σ H _ I h) fun v s1 ⟨x, H1, I1, r1, q1⟩ => ?_)
  obtain ⟨z, ex, hz, q⟩ := q1
  subst ex
  obtain ⟨t, rfl⟩ := r1
  have hst : PO X (some (.UnaryOp .USub (.Constant (.int 1) k p1) p2)) (tPart (tUn (rU fun i => .int (-i)) (tC (.int 1)))) := po_some (pe_un un_neg pe_int)
  refine wpAny_Slice (thn (po_none.run pins s1 σ H1 (fun o H2 => o = none ∧ H2 = H1) I1 ⟨rfl, rfl⟩) fun vl s2 ⟨l, H2, I2, pl, el, e2⟩ => ?_)
  subst el e2
  refine thn (po_none.run pins s2 σ H2 (fun o H3 => o = none ∧ H3 = H2) I2 ⟨rfl, rfl⟩) fun vu s3 ⟨u, H3, I3, pu, eu, e3⟩ => ?_
  subst eu e3
  refine thn (hst.run pins s3 σ H3 (fun o H4 => o = some (-1) ∧ H4 = H3) I3 ⟨1, rfl, -1, rfl, rfl, rfl⟩) fun vs s4 ⟨o, H4, I4, ps, eo, e4⟩ => ?_
  subst eo e4
  have I5 : Inv X pins σ H4 { s4 with heap := s4.heap.push { cls := .type "slice", data := .fields #[vl, vu, vs] } } := I4.kept (t' := s4.toks) fun b ob q => Heap.get?_push_of_some _ q
  obtain ⟨l', rfl, hl'⟩ := IsPart.raw pl
  obtain ⟨u', rfl, hu'⟩ := IsPart.raw pu
  obtain ⟨s', rfl, hs'⟩ := IsPart.raw ps
  refine tail_any (ops := [.str z t, .ref s4.heap.objs.size]) (typeIs_str _ _ _) (F.slot_str_getitem.lookup) ?_ (by with_unfolding_all rfl)
  have h0 : ((s'.map (·.1)).getD 1 == 0) = false := by
    rw [hs']
    rfl
  refine wpAny_getItem_str_slice (l := l') (u := u') (st := s') ⟨_, Heap.get?_push_size _ rfl, rfl, rfl⟩ h0 ?_
  have hpk : slicePicked z l' u' s' = Builtin.Str.strSliceIndices none none (-1) z.length := by
    unfold slicePicked
    rw [hl', hu', hs']
    rfl
  have hlen : (((slicePicked z l' u' s').filterMap (z.cps[·]?)).toArray : Array Nat).size ≤ 2 := by
    rw [hpk, List.size_toArray]
    exact Nat.le_trans (List.length_filterMap_le _ _) (sidx_small _ hz)
  unfold sliceMade
  rw [hs']
  show Made.post (if (((-1 : Int) == 1) && _) = true then Made.val (.str z t) else Made.str ⟨((slicePicked z l' u' s').filterMap (z.cps[·]?)).toArray⟩) _ _
  rw [if_neg (by rw [show ((-1 : Int) == 1) = false from rfl, Bool.false_and]; decide)]
  refine ⟨Nat.le_trans hlen (by decide), .str ⟨((slicePicked z l' u' s').filterMap (z.cps[·]?)).toArray⟩, H4, I5.tok _, ⟨_, rfl⟩, q _ hlen fun c hc => ?_⟩
  obtain ⟨i, _, hi⟩ := List.mem_filterMap.mp (by simpa using hc)
  exact Array.mem_toList_iff.mpr (Array.mem_of_getElem? hi)
end FL


namespace FL
open PySem PySem.Spec PyProof.Rows L2
def mid (b : Nat) : Bool := decide (128 ≤ b ∧ b < 192)
/-- the suite's own reading of the sign at the begin -/
def decL11 : List Nat → Option (Nat × Nat)
  | [] => none
  | o :: r => if 32 ≤ o ∧ o < 128 then some (o, 1)
    else if 194 ≤ o ∧ o < 224 ∧ (r.take 1).map mid = [true] then some (64 * (o - 192) + r.getD 0 0 - 128, 2)
    else if 224 ≤ o ∧ o < 240 ∧ (r.take 2).map mid = [true, true] then
      (if 4096 * (o - 224) + 64 * (r.getD 0 0 - 128) + r.getD 1 0 - 128 > 2047 then some (4096 * (o - 224) + 64 * (r.getD 0 0 - 128) + r.getD 1 0 - 128, 3) else none)
    else none
theorem decL_cons (o : Nat) (r : List Nat) : decL11 (o :: r) = if 32 ≤ o ∧ o < 128 then some (o, 1)
    else if 194 ≤ o ∧ o < 224 ∧ (r.take 1).map mid = [true] then some (64 * (o - 192) + r.getD 0 0 - 128, 2)
    else if 224 ≤ o ∧ o < 240 ∧ (r.take 2).map mid = [true, true] then
      (if 4096 * (o - 224) + 64 * (r.getD 0 0 - 128) + r.getD 1 0 - 128 > 2047 then some (4096 * (o - 224) + 64 * (r.getD 0 0 - 128) + r.getD 1 0 - 128, 3) else none)
    else none := rfl
theorem signR_iff (t : List Nat) (s : Nat) : signR t = some s ↔ (32 ≤ s ∧ s ≤ 65535 ∧ octs s = t) := by
  constructor
  · exact signR_some
  · rintro ⟨h1, h2, rfl⟩
    exact signR_octs h1 h2
theorem signR_none {t : List Nat} (h : ∀ s, 32 ≤ s → s ≤ 65535 → octs s = t → False) : signR t = none := by
  cases e : signR t with
  | none => rfl
  | some s =>
    obtain ⟨h1, h2, h3⟩ := signR_some e
    exact (h s h1 h2 h3).elim
theorem octs1 {s : Nat} (h : s < 128) : octs s = [s] := by unfold octs; rw [if_pos h]
theorem octs2 {s : Nat} (h1 : 128 ≤ s) (h2 : s < 2048) : octs s = [192 + s / 64, 128 + s % 64] := by unfold octs; rw [if_neg (by omega), if_pos h2]
theorem octs3 {s : Nat} (h2 : 2048 ≤ s) : octs s = [224 + s / 4096, 128 + s % 4096 / 64, 128 + s % 64] := by unfold octs; rw [if_neg (by omega), if_neg (by omega)]
theorem octs_c (s : Nat) : (s < 128 ∧ octs s = [s]) ∨ (128 ≤ s ∧ s < 2048 ∧ octs s = [192 + s / 64, 128 + s % 64]) ∨ (2048 ≤ s ∧ octs s = [224 + s / 4096, 128 + s % 4096 / 64, 128 + s % 64]) := by
  by_cases h1 : s < 128
  · exact .inl ⟨h1, octs1 h1⟩
  · by_cases h2 : s < 2048
    · exact .inr (.inl ⟨by omega, h2, octs2 (by omega) h2⟩)
    · exact .inr (.inr ⟨by omega, octs3 (by omega)⟩)
theorem dec_sign : ∀ {o : Nat} {r : List Nat}, (∀ n ∈ o :: r, n < 256) → signR ((o :: r).take (sizeFrom o)) = (decL11 (o :: r)).map (·.1) ∧ ∀ s k, decL11 (o :: r) = some (s, k) → k = ((o :: r).take (sizeFrom o)).length := by
  intro o r hb
  have ho := hb o (List.mem_cons_self ..)
  by_cases h1 : o < 128
  · have hs : sizeFrom o = 1 := by unfold sizeFrom; rw [if_pos h1]
    have ht : (o :: r).take (sizeFrom o) = [o] := by rw [hs]; rfl
    rw [ht]
    by_cases h2 : 32 ≤ o
    · have hd : decL11 (o :: r) = some (o, 1) := by rw [decL_cons]; rw [if_pos ⟨h2, h1⟩]
      rw [hd]
      refine ⟨by show signR _ = some o; exact (signR_iff _ _).mpr ⟨h2, by omega, octs1 h1⟩, fun s k e => ?_⟩
      injection e with e
      rw [← (Prod.mk.inj e).2]
      rfl
    · have hd : decL11 (o :: r) = none := by rw [decL_cons]; rw [if_neg (by omega), if_neg (by omega), if_neg (by omega)]
      rw [hd]
      refine ⟨signR_none fun s a b e => ?_, fun s k e => by cases e⟩
      rcases octs_c s with ⟨_, e2⟩ | ⟨_, _, e2⟩ | ⟨_, e2⟩ <;> rw [e2] at e <;> simp at e
      omega
  · by_cases h2 : o < 224
    · have hs : sizeFrom o = 2 := by unfold sizeFrom; rw [if_neg h1, if_pos h2]
      rw [hs]
      match r, hb with
      | [], _ =>
        have hd : decL11 [o] = none := by rw [decL_cons]; rw [if_neg (by omega), if_neg (by simp), if_neg (by simp)]
        rw [hd]
        refine ⟨signR_none fun s a b e => ?_, fun s k e => by cases e⟩
        rcases octs_c s with ⟨_, e2⟩ | ⟨_, _, e2⟩ | ⟨_, e2⟩ <;> rw [e2] at e <;> simp at e
        omega
      | b :: r, hb =>
        have hbb := hb b (by simp)
        by_cases h3 : 194 ≤ o ∧ 128 ≤ b ∧ b < 192
        · have hd : decL11 (o :: b :: r) = some (64 * (o - 192) + b - 128, 2) := by
            rw [decL_cons]
            rw [if_neg (by omega), if_pos ⟨h3.1, h2, by simp [mid, h3.2]⟩]
            rfl
          rw [hd]
          have hoct : octs (64 * (o - 192) + b - 128) = [o, b] := by
            rw [octs2 (by omega) (by omega)]
            rw [show 192 + (64 * (o - 192) + b - 128) / 64 = o by omega, show 128 + (64 * (o - 192) + b - 128) % 64 = b by omega]
          refine ⟨by show signR _ = some (64 * (o - 192) + b - 128); exact (signR_iff _ _).mpr ⟨by omega, by omega, hoct⟩, fun s k e => ?_⟩
          injection e with e
          rw [← (Prod.mk.inj e).2]
          rfl
        · have hd : decL11 (o :: b :: r) = none := by
            rw [decL_cons]
            rw [if_neg (by omega), if_neg (fun z => h3 ⟨z.1, by have := z.2.2; simpa [mid] using this⟩), if_neg (by omega)]
          rw [hd]
          refine ⟨signR_none fun s a c e => ?_, fun s k e => by cases e⟩
          rcases octs_c s with ⟨_, e2⟩ | ⟨_, _, e2⟩ | ⟨_, e2⟩ <;> rw [e2] at e <;> simp at e
          omega
    · have hs : sizeFrom o = 3 := by unfold sizeFrom; rw [if_neg h1, if_neg h2]
      rw [hs]
      match r, hb with
      | [], _ =>
        have hd : decL11 [o] = none := by rw [decL_cons]; rw [if_neg (by omega), if_neg (by simp), if_neg (by simp)]
        rw [hd]
        refine ⟨signR_none fun s a b e => ?_, fun s k e => by cases e⟩
        rcases octs_c s with ⟨_, e2⟩ | ⟨_, _, e2⟩ | ⟨_, e2⟩ <;> rw [e2] at e <;> simp at e
        omega
      | [b], _ =>
        have hd : decL11 [o, b] = none := by rw [decL_cons]; rw [if_neg (by omega), if_neg (by omega), if_neg (by simp)]
        rw [hd]
        refine ⟨signR_none fun s a c e => ?_, fun s k e => by cases e⟩
        rcases octs_c s with ⟨_, e2⟩ | ⟨_, _, e2⟩ | ⟨_, e2⟩ <;> rw [e2] at e <;> simp at e
        omega
      | b :: c :: r, hb =>
        have hbb := hb b (by simp)
        have hcc := hb c (by simp)
        by_cases h3 : o < 240 ∧ (128 ≤ b ∧ b < 192) ∧ (128 ≤ c ∧ c < 192)
        · by_cases h4 : 4096 * (o - 224) + 64 * (b - 128) + c - 128 > 2047
          · have hd : decL11 (o :: b :: c :: r) = some (4096 * (o - 224) + 64 * (b - 128) + c - 128, 3) := by
              rw [decL_cons]
              rw [if_neg (by omega), if_neg (by omega), if_pos ⟨by omega, h3.1, by simp [mid, h3.2]⟩]
              exact if_pos h4
            rw [hd]
            have hoct : octs (4096 * (o - 224) + 64 * (b - 128) + c - 128) = [o, b, c] := by
              rw [octs3 (by omega)]
              rw [show 224 + (4096 * (o - 224) + 64 * (b - 128) + c - 128) / 4096 = o by omega, show 128 + (4096 * (o - 224) + 64 * (b - 128) + c - 128) % 4096 / 64 = b by omega, show 128 + (4096 * (o - 224) + 64 * (b - 128) + c - 128) % 64 = c by omega]
            refine ⟨by show signR _ = some (4096 * (o - 224) + 64 * (b - 128) + c - 128); exact (signR_iff _ _).mpr ⟨by omega, by omega, hoct⟩, fun s k e => ?_⟩
            injection e with e
            rw [← (Prod.mk.inj e).2]
            rfl
          · have hd : decL11 (o :: b :: c :: r) = none := by
              rw [decL_cons]
              rw [if_neg (by omega), if_neg (by omega), if_pos ⟨by omega, h3.1, by simp [mid, h3.2]⟩]
              exact if_neg h4
            rw [hd]
            refine ⟨signR_none fun s a d e => ?_, fun s k e => by cases e⟩
            rcases octs_c s with ⟨_, e2⟩ | ⟨_, _, e2⟩ | ⟨_, e2⟩ <;> rw [e2] at e <;> simp at e
            omega
        · have hd : decL11 (o :: b :: c :: r) = none := by
            rw [decL_cons]
            rw [if_neg (by omega), if_neg (by omega), if_neg (fun z => h3 ⟨z.2.1, by have := z.2.2; simpa [mid] using this⟩)]
          rw [hd]
          refine ⟨signR_none fun s a d e => ?_, fun s k e => by cases e⟩
          rcases octs_c s with ⟨_, e2⟩ | ⟨_, _, e2⟩ | ⟨_, e2⟩ <;> rw [e2] at e <;> simp at e
          omega
section
variable {P : Program} {w : World} {K : PySem.W.Frag} {mg : Str → Option Value} {base : Heap}
def bv (l : List Bool) : List V := l.map V.bl
def bdt (l : List Bool) : List PyData := l.map PyData.bool
theorem dp_bools {H : Hp} : ∀ l : List Bool, DpAll K H (bv l) (bdt l)
  | [] => .nil
  | z :: r => .cons (.bl _) (dp_bools r)
theorem shaped_bools (l : List Bool) : SeqAt.shaped (.list (bdt l)) = true := by
  refine shaped_of ?_ ?_
  · rw [PyData.canLay0]
    refine canLayAll_of fun d hd => ?_
    obtain ⟨z, hz, rfl⟩ := List.mem_map.mp hd
    rw [PyData.canLay0]
  · rw [PyData.depth]
    have : PyData.depthAll (bdt l) ≤ 0 := depthAll_of fun d hd => by
      obtain ⟨z, hz, rfl⟩ := List.mem_map.mp hd
      rw [PyData.depth]
      exact Nat.le_refl _
    omega
theorem eqv_bools_all : ∀ l m : List Bool, PyData.eqvAll (bdt l) (bdt m) = decide (l = m)
  | [], [] => by simp [bdt, PyData.eqvAll]
  | [], b :: s => by simp [bdt, PyData.eqvAll]
  | a :: r, [] => by simp [bdt, PyData.eqvAll]
  | a :: r, b :: s => by
    have ih := eqv_bools_all r s
    show PyData.eqvAll (PyData.bool a :: bdt r) (PyData.bool b :: bdt s) = _
    rw [PyData.eqvAll, ih]
    cases a <;> cases b <;> by_cases h2 : r = s <;> simp [h2, PyData.eqv]
theorem eqv_bools (l m : List Bool) : PyData.eqv (.list (bdt l)) (.list (bdt m)) = decide (l = m) := by
  rw [← eqv_bools_all]
  simp only [PyData.eqv]
theorem dpb {H : Hp} {a : Addr} {l : List Bool} (h : H a = some (.lst (bv l))) : Dp K H (.ref a) (.list (bdt l)) := .lst (SqL.of h) (dp_bools l)
theorem mid_b (n : Nat) : (if decide ((128 : Int) ≤ (n : Int)) = true then decide ((n : Int) < 192) else false) = mid n := by
  unfold mid
  by_cases h1 : 128 ≤ n
  · rw [decide_eq_true (by omega : (128 : Int) ≤ (n : Int)), if_pos rfl]
    by_cases h2 : n < 192
    · rw [decide_eq_true (by omega : (n : Int) < 192), decide_eq_true ⟨h1, h2⟩]
    · rw [decide_eq_false (by omega : ¬ (n : Int) < 192), decide_eq_false (fun z => h2 z.2)]
  · rw [decide_eq_false (by omega : ¬ (128 : Int) ≤ (n : Int)), if_neg Bool.false_ne_true, decide_eq_false (fun z => h1 z.1)]
theorem chain_no {lo hi n : Int} {A B : Prop} (h : ¬ (lo ≤ n ∧ n < hi)) (b : B) : (if decide (lo ≤ n) = true then (∃ i j : Int, V.int n = .int i ∧ V.int hi = .int j ∧ ∃ k, V.bl (decide (i < j)) = V.bl k ∧ (if k = true then A else B)) else ∃ k, V.bl false = V.bl k ∧ (if k = true then A else B)) := by
  by_cases h1 : lo ≤ n
  · rw [decide_eq_true h1, if_pos rfl]
    exact ⟨n, hi, rfl, rfl, _, rfl, by rw [decide_eq_false (fun z => h ⟨h1, z⟩), if_neg Bool.false_ne_true]; exact b⟩
  · rw [decide_eq_false h1, if_neg Bool.false_ne_true]
    exact ⟨_, rfl, by rw [if_neg Bool.false_ne_true]; exact b⟩
theorem chain_yes {lo hi n : Int} {A B : Prop} (h : lo ≤ n ∧ n < hi) (a : A) : (if decide (lo ≤ n) = true then (∃ i j : Int, V.int n = .int i ∧ V.int hi = .int j ∧ ∃ k, V.bl (decide (i < j)) = V.bl k ∧ (if k = true then A else B)) else ∃ k, V.bl false = V.bl k ∧ (if k = true then A else B)) := by
  rw [decide_eq_true h.1, if_pos rfl]
  exact ⟨n, hi, rfl, rfl, _, rfl, by rw [decide_eq_true h.2, if_pos rfl]; exact a⟩
theorem cutV_take (xs : List V) (j : Nat) : cutV xs none (some (j : Nat)) = xs.take j := (cutV_none xs j).symm.trans ((cutV_nat xs 0 j).trans (by simp))
def spLawSign (K : PySem.W.Frag) : Sp := fun vs H Q _ => ∃ (a : Addr) (l : List Nat) (p : Nat), vs = [.ref a, .int (p : Nat)] ∧ H a = some (.lst (iv l)) ∧ p < l.length ∧ (∀ n ∈ l, n < 256) ∧
  (decL11 (l.drop p) = none → ∀ H', Same H H' → Q .non H') ∧ (∀ s k, decL11 (l.drop p) = some (s, k) → ∀ H' T, Same H H' → H T = none → H' T = some (.tup [.int (s : Nat), .int (k : Nat)]) → Q (.ref T) H')
theorem scLawSign : FnScope ["_law_eights", "_law_at", "_law_one", "_law_more", "_law_good", "_law_tone", "_law_octet"] ["_law_eights", "_law_at"] (defScope sLawSign) := ⟨rfl, rfl, rfl, by decide +kernel, rfl, by decide +kernel, by decide +kernel⟩
theorem r_law_sign (A : FnAt K mg "_law_sign" sLawSign) : Ready P w K mg base 1 "_law_sign" ["_law_eights", "_law_at"] (spLawSign K) := by
  refine ready_of A (fun _ _ _ _ _ _ us hl => match us, hl with | [_, _], _ => rfl) fun f fd F => ?_
  refine F.ok scLawSign (fun vs H Q E h => ?_) (fun cdv A outer s H vs Q E hr h => ?_)
  · obtain ⟨a, l, p, rfl, _⟩ := h
    rfl
  · obtain ⟨a, l, p, rfl, hH, hp, hl, qn, qs⟩ := h
    have sc := scLawSign
    refine ⟨_, pss_cons (ps_set (i := 2) sc.nd rfl (.inl rfl) (pe_ix ix_list (pv 0) (pv 1) (fun _ _ => rfl)))
      (pss_cons (ps_set (i := 3) sc.nd rfl (.inl rfl) (pe_slice sl_list (pv 0) (po_some (pe_op op_add (pv 1) pe_int)) (po_some (pe_op op_add (pv 1) pe_int))))
      (pss_cons (ps_setLc (i := 4) (own := [("_law_octet", 6)]) (g := gName 6) (tt := tYes) (by rfl) sc.nd rfl rfl (sw_true rfl rfl rfl (by decide +kernel)) (pi_list (pv 3)) (blkOk_by (own := [("_law_octet", 6)]) (N := ["_law_eights", "_law_at", "_law_one", "_law_more", "_law_good", "_law_tone", "_law_octet"]) (sc := defScope sLawSign) (by decide +kernel)) (fun _ _ _ _ _ => (pg_name (i := 6) sc.nd rfl (.inl rfl))) (fun _ _ _ _ _ => pts_nil) (fun _ _ _ _ _ => (pe_chain op_le op_lt pe_int (pv 6) pe_int (by with_unfolding_all rfl))))
      (pss_cons (ps_if (pt_chain op_le op_lt pe_int (pv 2) pe_int (by with_unfolding_all rfl))
        (pss_one (ps_ret (pe_tup (pa_cons (pv 2) (pa_cons pe_int pa_nil)))))
        pss_nil)
      (pss_cons (ps_if (PW.pt (pw_and (pt_chain op_le op_lt pe_int (pv 2) pe_int (by with_unfolding_all rfl)) (pw_and1 (pt_cmpR (op_eqD hr.units) (pe_slice sl_list (pv 4) po_none (po_some pe_int)) (pe_lst (pa_cons pe_bl pa_nil)) (nomark _)))))
        (pss_one (ps_ret (pe_tup (pa_cons (pe_op op_sub (pe_op op_add (pe_op op_mul pe_int (pe_op op_sub (pv 2) pe_int)) (pe_ix ix_list (pv 3) pe_int (fun _ _ => rfl))) pe_int) (pa_cons pe_int pa_nil)))))
        pss_nil)
      (pss_cons (ps_if (PW.pt (pw_and (pt_chain op_le op_lt pe_int (pv 2) pe_int (by with_unfolding_all rfl)) (pw_and1 (pt_cmpR (op_eqD hr.units) (pv 4) (pe_lst (pa_cons pe_bl (pa_cons pe_bl pa_nil))) (nomark _)))))
        (pss_cons (ps_set (i := 5) sc.nd rfl (.inl rfl) (pe_op op_sub (pe_op op_add (pe_op op_add (pe_op op_mul pe_int (pe_op op_sub (pv 2) pe_int)) (pe_op op_mul pe_int (pe_op op_sub (pe_ix ix_list (pv 3) pe_int (fun _ _ => rfl)) pe_int))) (pe_ix ix_list (pv 3) pe_int (fun _ _ => rfl))) pe_int))
          (pss_one (ps_if (pt_cmpR op_gt (pv 5) pe_int (nomark _))
            (pss_one (ps_ret (pe_tup (pa_cons (pv 5) (pa_cons pe_int pa_nil)))))
            pss_nil)))
        pss_nil)
      (pss_one (ps_ret pe_non))))))), ?_⟩
    obtain ⟨o, ho⟩ : ∃ o, l[p]? = some o := ⟨_, List.getElem?_eq_getElem hp⟩
    have hd := drop_at ho
    have hob : o < 256 := hl o (List.mem_of_getElem? ho)
    rw [hd] at qn qs
    generalize hR : l.drop (p + 1) = r at qn qs
    have hrb : ∀ n ∈ r, n < 256 := fun n hn => hl n (by rw [← hR] at hn; exact List.mem_of_mem_drop hn)
    refine ⟨_, rfl, _, rfl, a, _, _, .int (o : Nat), rfl, rfl, SqL.of hH, atI_nat (iv_at ho), ?_⟩
    refine ⟨_, rfl, _, rfl, _, _, rfl, rfl, _, rfl, _, rfl, _, _, rfl, rfl, _, rfl, a, _, rfl, SqL.of hH, fun m nm => ?_⟩
    rw [show ((p : Int) + 1) = ((p + 1 : Nat) : Int) from rfl, show ((p : Int) + 3) = ((p + 3 : Nat) : Int) from rfl, cutV_iv, show p + 3 - (p + 1) = 2 by omega, hR]
    refine ⟨_, rfl, m, rfl, ⟨_, SqL.of upd_same⟩, fun D hD => ?_⟩
    have hDm : D ≠ m := fun e => by rw [e, upd_same] at hD; cases hD
    refine lc_it (walk_list (K := K) (a := m) (xs := iv (r.take 2))) (fun i H' => Same (upd H m (.lst (iv (r.take 2)))) H' ∧ H' D = some (.lst (bv (((r.take 2).take i).map mid)))) ⟨same_new hD, upd_same⟩ (fun i H' _ p1 => SqL.of (p1.1 _ _ upd_same)) (fun i x H1 H2 hi hp1 hy => ?_) (fun H1 hp1 => ?_)
    · obtain ⟨rfl, hx⟩ := hy
      obtain ⟨sm, hdd⟩ := hp1
      rw [iv_len] at hi
      have hn := List.getElem?_eq_getElem hi
      rw [iv_at hn] at hx
      injection hx with hx
      subst hx
      refine ⟨rfl, ?_⟩
      unfold tYes
      refine iteT ?_
      have key : ∀ b, b = mid (r.take 2)[i] → ∃ acc, H2 D = some (.lst acc) ∧ acc.length < sizeLine ∧ (Same (upd H m (.lst (iv (r.take 2)))) (upd H2 D (.lst (acc ++ [V.bl b]))) ∧ (upd H2 D (.lst (acc ++ [V.bl b]))) D = some (.lst (bv (((r.take 2).take (i + 1)).map mid)))) := fun b hb => by
        refine ⟨_, hdd, ?_, same_set sm hD, ?_⟩
        · unfold bv
          rw [List.length_map, List.length_map]
          refine Nat.lt_of_le_of_lt (List.length_take_le _ _) (szl (by rw [List.length_take] at hi; omega))
        · rw [upd_same, take_more hn, hb]
          unfold bv
          rw [List.map_append, List.map_append]
          rfl
      refine ⟨_, rfl, _, _, rfl, rfl, _, rfl, ?_⟩
      have hb := mid_b (r.take 2)[i]
      by_cases h1 : decide ((128 : Int) ≤ ((r.take 2)[i] : Int)) = true
      · rw [h1] at hb
        rw [if_pos rfl] at hb
        rw [if_pos h1]
        exact ⟨_, _, rfl, rfl, key _ hb⟩
      · rw [eq_false_of_ne_true h1] at hb
        rw [if_neg Bool.false_ne_true] at hb
        rw [eq_false_of_ne_true h1]
        exact iteF (key _ hb)
    · obtain ⟨sm, hdd⟩ := hp1
      rw [iv_len, List.take_length] at hdd
      have s1 : Same H H1 := (same_new nm).trans sm
      have hm1 : H1 m = some (.lst (iv (r.take 2))) := sm _ _ upd_same
      refine ⟨_, rfl, _, _, rfl, rfl, _, rfl, ?_⟩
      by_cases c1 : 32 ≤ o ∧ o < 128
      · refine chain_yes (by omega) ?_
        refine ⟨_, rfl, (by show 2 ≤ sizeLine; decide), fun T nT => ?_⟩
        exact qs o 1 (by rw [decL_cons, if_pos c1]) _ T (s1.trans (same_new nT)) (Same.free s1 nT) upd_same
      · refine chain_no (by omega) ?_
        refine ⟨_, rfl, _, _, rfl, rfl, _, rfl, ?_⟩
        by_cases c2 : 194 ≤ o ∧ o < 224
        · refine chain_yes (by omega) ?_
          refine ⟨_, rfl, _, rfl, D, _, rfl, SqL.of hdd, fun g ng => ?_⟩
          rw [show cutV (bv ((r.take 2).map mid)) none (some 1) = bv (((r.take 2).map mid).take 1) from (cutV_take _ 1).trans (List.map_take ..).symm]
          refine ⟨(by show 1 ≤ sizeLine; decide), fun t1 nt1 => ?_⟩
          have hgt : g ≠ t1 := ne_of_none upd_same nt1
          have s2 : Same H1 (upd (upd H1 g (.lst (bv (((r.take 2).map mid).take 1)))) t1 (.lst (bv [true]))) := (same_new ng).trans (same_new nt1)
          refine ⟨_, _, dpb (l := ((r.take 2).map mid).take 1) (by rw [upd_ne hgt]; exact upd_same), dpb (l := [true]) upd_same, shaped_bools _, shaped_bools _, _, rfl, ?_⟩
          rw [eqv_bools]
          have ht : ((r.take 2).map mid).take 1 = (r.take 1).map mid := by rw [← List.map_take, List.take_take]; rfl
          by_cases c3 : ((r.take 2).map mid).take 1 = [true]
          · rw [decide_eq_true c3]
            rw [ht] at c3
            match r, c3, hm1, qs, hrb with
            | b :: r', c3, hm1, qs, hrb =>
              have hmb : 128 ≤ b ∧ b < 192 := by simpa [mid] using c3
              refine iteT ⟨_, rfl, _, _, rfl, rfl, _, _, rfl, rfl, .inl ⟨by decide, by decide⟩, _, rfl, m, _, _, .int (b : Nat), rfl, rfl, SqL.of (s2 _ _ hm1), atI_nat (j := 0) rfl, _, _, rfl, rfl, _, _, rfl, rfl, (by show 2 ≤ sizeLine; decide), fun T nT => ?_⟩
              refine qs (64 * (o - 192) + b - 128) 2 (by rw [decL_cons, if_neg c1, if_pos ⟨c2.1, c2.2, c3⟩]; rfl) _ T ((s1.trans s2).trans (same_new nT)) (Same.free (s1.trans s2) nT) ?_
              rw [upd_same]
              show some (HO.tup [V.int (64 * ((o : Int) - 192) + (b : Int) - 128), .int 2]) = _
              rw [show (64 * ((o : Int) - 192) + (b : Int) - 128) = ((64 * (o - 192) + b - 128 : Nat) : Int) by omega]
              rfl
          · rw [decide_eq_false c3]
            rw [ht] at c3
            refine iteF ⟨_, rfl, _, _, rfl, rfl, _, rfl, chain_no (by omega) ?_⟩
            exact qn (by rw [decL_cons, if_neg c1, if_neg (fun z => c3 z.2.2), if_neg (by omega)]) _ (s1.trans s2)
        · refine chain_no (by omega) ?_
          refine ⟨_, rfl, _, _, rfl, rfl, _, rfl, ?_⟩
          by_cases c3 : 224 ≤ o ∧ o < 240
          · refine chain_yes (by omega) ?_
            refine ⟨_, rfl, (by show 2 ≤ sizeLine; decide), fun t1 nt1 => ?_⟩
            have s2 : Same H1 (upd H1 t1 (.lst (bv [true, true]))) := same_new nt1
            refine ⟨_, _, dpb (l := (r.take 2).map mid) (s2 _ _ hdd), dpb (l := [true, true]) upd_same, shaped_bools _, shaped_bools _, _, rfl, ?_⟩
            rw [eqv_bools]
            by_cases c4 : (r.take 2).map mid = [true, true]
            · rw [decide_eq_true c4]
              match r, c4, hm1, qs, qn, hrb with
              | [_], c4, _, _, _, _ => simp at c4
              | b :: c :: r', c4, hm1, qs, qn, hrb =>
                have hmb : (128 ≤ b ∧ b < 192) ∧ (128 ≤ c ∧ c < 192) := by simpa [mid] using c4
                refine iteT ⟨_, rfl, _, _, rfl, rfl, _, _, rfl, rfl, .inl ⟨by decide, by decide⟩, _, rfl, m, _, _, .int (b : Nat), rfl, rfl, SqL.of (s2 _ _ hm1), atI_nat (j := 0) rfl, _, _, rfl, rfl, _, _, rfl, rfl, .inl ⟨by decide, by decide⟩, _, _, rfl, rfl, _, rfl, m, _, _, .int (c : Nat), rfl, rfl, SqL.of (s2 _ _ hm1), atI_nat (j := 1) rfl, _, _, rfl, rfl, _, _, rfl, rfl, ?_⟩
                have ev : (4096 * ((o : Int) - 224) + 64 * ((b : Int) - 128) + (c : Int) - 128) = ((4096 * (o - 224) + 64 * (b - 128) + c - 128 : Nat) : Int) := by omega
                dsimp only
                rw [ev]
                have hdl : decL11 (o :: b :: c :: r') = (if 4096 * (o - 224) + 64 * (b - 128) + c - 128 > 2047 then some (4096 * (o - 224) + 64 * (b - 128) + c - 128, 3) else none) := by
                  rw [decL_cons, if_neg c1, if_neg (fun z => c2 ⟨z.1, z.2.1⟩), if_pos ⟨c3.1, c3.2, c4⟩]
                  rfl
                generalize 4096 * (o - 224) + 64 * (b - 128) + c - 128 = tone at hdl
                refine ⟨_, rfl, _, _, rfl, rfl, _, rfl, ite2 (fun h => ?_) (fun h => ?_)⟩
                · have h1 : tone > 2047 := by have := of_decide_eq_true h; omega
                  refine ⟨_, rfl, (by show 2 ≤ sizeLine; decide), fun T nT => ?_⟩
                  exact qs tone 3 (by rw [hdl, if_pos h1]) _ T ((s1.trans s2).trans (same_new nT)) (Same.free (s1.trans s2) nT) upd_same
                · have h1 : ¬ tone > 2047 := fun z => h (decide_eq_true (by omega))
                  exact qn (by rw [hdl, if_neg h1]) _ (s1.trans s2)
            · rw [decide_eq_false c4]
              exact iteF (qn (by rw [decL_cons, if_neg c1, if_neg (fun z => c2 ⟨z.1, z.2.1⟩), if_neg (fun z => c4 z.2.2)]) _ (s1.trans s2))
          · refine chain_no (by omega) ?_
            exact qn (by rw [decL_cons, if_neg c1, if_neg (fun z => c2 ⟨z.1, z.2.1⟩), if_neg (fun z => c3 ⟨z.1, z.2.1⟩)]) _ s1
end
end FL


namespace FL
open PySem PySem.Spec PyProof.Rows L2
/-- the suite's reading, sign by sign: the signs, and where it stops -/
def sgnL (l : List Nat) : Nat → Nat → List Nat × Nat
  | 0, p => ([], p)
  | n + 1, p => if p < l.length then (match decL11 (l.drop p) with
    | none => ([], p)
    | some (s, k) => (s :: (sgnL l n (p + k)).1, (sgnL l n (p + k)).2)) else ([], p)
theorem drop_cons {l : List Nat} {p o : Nat} (h : l[p]? = some o) : l.drop p = o :: l.drop (p + 1) := by
  have hp := (List.getElem?_eq_some_iff.mp h).1
  rw [List.drop_eq_getElem_cons hp, (List.getElem?_eq_some_iff.mp h).2]
theorem sizeFrom_pos (o : Nat) : 1 ≤ sizeFrom o := by
  unfold sizeFrom
  split
  · omega
  · split <;> omega
theorem decL11_len {l : List Nat} {p s k : Nat} (hb : ∀ n ∈ l, n < 256) (hp : p < l.length) (h : decL11 (l.drop p) = some (s, k)) : 1 ≤ k ∧ p + k ≤ l.length := by
  have ho := List.getElem?_eq_getElem hp
  generalize l[p] = o at ho
  rw [drop_cons ho] at h
  have := (dec_sign (o := o) (r := l.drop (p + 1)) fun n hn => hb n (List.mem_of_mem_drop (drop_cons ho ▸ hn))).2 s k h
  rw [this, List.length_take, List.length_cons, List.length_drop]
  have := sizeFrom_pos o
  omega
theorem sgn_say {l : List Nat} (hb : ∀ n ∈ l, n < 256) : ∀ n p, l.length - p ≤ n → p ≤ l.length → (sgnL l n p).2 ≤ l.length ∧ sayR l n p = some (if (sgnL l n p).2 < l.length then .error (sgnL l n p).2 else .ok (sgnL l n p).1)
  | 0, p, h1, h2 => by
    unfold sgnL sayR
    rw [if_neg (by omega), if_neg (by show ¬ p < l.length; omega)]
    exact ⟨h2, rfl⟩
  | n + 1, p, h1, h2 => by
    by_cases hp : p < l.length
    · have ho := List.getElem?_eq_getElem hp
      generalize l[p] = o at ho
      have hd := dec_sign (o := o) (r := l.drop (p + 1)) fun n hn => hb n (List.mem_of_mem_drop (drop_cons ho ▸ hn))
      rw [← drop_cons ho] at hd
      rw [sgnL, if_pos hp, sayR, ho]
      dsimp only
      rw [hd.1]
      cases e : decL11 (l.drop p) with
      | none =>
        dsimp only [Option.map]
        rw [if_pos hp]
        exact ⟨h2, rfl⟩
      | some sk =>
        obtain ⟨s, k⟩ := sk
        have hk := hd.2 s k e
        have hkl := decL11_len hb hp e
        dsimp only [Option.map]
        rw [← hk]
        obtain ⟨i1, i2⟩ := sgn_say hb n (p + k) (by omega) hkl.2
        rw [i2]
        refine ⟨i1, ?_⟩
        by_cases hq : (sgnL l n (p + k)).2 < l.length
        · rw [if_pos hq, if_pos hq]
        · rw [if_neg hq, if_neg hq]
    · rw [sgnL, if_neg hp, sayR, List.getElem?_eq_none (by omega)]
      dsimp only
      rw [if_neg hp]
      exact ⟨h2, rfl⟩
def IsOct (v : V) : Prop := ∃ n : Nat, v = .int (n : Nat) ∧ n < 256
section
variable {P : Program} {w : World} {K : PySem.W.Frag} {mg : Str → Option Value} {base : Heap}
def spSignsOf : Sp := fun vs H Q _ => ∃ (a : Addr) (l : List Nat), vs = [.ref a] ∧ H a = some (.lst (iv l)) ∧ GO l ∧
  ∀ H' T fp, Same H H' → H' T = some (.tup [.ref fp, .int ((sgnL l l.length 0).2 : Nat)]) → H' fp = some (.lst (iv (sgnL l l.length 0).1)) → Q (.ref T) H'
theorem scLawSignsOf : FnScope ["_law_eights", "_law_found", "_law_at", "_law_one"] ["_law_eights"] (defScope sLawSignsOf) := ⟨rfl, rfl, rfl, by decide +kernel, rfl, by decide +kernel, by decide +kernel⟩
theorem r_signs_of (A : FnAt K mg "_law_signs_of" sLawSignsOf) (R : Ready P w K mg base 1 "_law_sign" ["_law_eights", "_law_at"] (spLawSign K)) (m_len : mg "len" = none) : Ready P w K mg base 2 "_law_signs_of" ["_law_eights"] spSignsOf := by
  obtain ⟨f1, fd1, g1, k1, b1, G1⟩ := R
  refine ready_of A (fun _ _ _ _ _ _ us hl => match us, hl with | [_], _ => rfl) fun f fd F => ?_
  refine F.ok scLawSignsOf (fun vs H Q E h => ?_) (fun cdv A outer s H vs Q E hr h => ?_)
  · obtain ⟨a, l, rfl, _⟩ := h
    rfl
  · obtain ⟨a, l, rfl, hH, hb, q⟩ := h
    have sc := scLawSignsOf
    refine ⟨_, pss_cons (ps_set (i := 1) sc.nd rfl (.inl rfl) (pe_lst pa_nil))
      (pss_cons (ps_set (i := 2) sc.nd rfl (.inl rfl) pe_int)
      (pss_cons (ps_while PassesOwn.never (pt_cmpR op_lt (pv 2) (pe_callB call_len_seq (by rfl) m_len PySem.boot_len (pa_cons (pv 0) pa_nil)) (nomark _))
        (pss_cons (ps_set (i := 3) sc.nd rfl (.inl rfl) (pe_call G1 (hr.mono (by decide)) (by rfl) g1 k1 b1 .nil pass0 (pa_cons (pv 0) (pa_cons (pv 2) pa_nil))))
          (pss_cons (ps_if (pt_cmpR op_isN (pv 3) pe_non (nomark _))
            (pss_one (ps_ret (pe_tup (pa_cons (pv 1) (pa_cons (pv 2) pa_nil)))))
            pss_nil)
          (pss_cons (ps_expr (pe_bm PySem.F.plainAttrs_list PySem.F.slot_list_append PySem.F.type_list_append mt_append (pv 1) (pa_cons (pe_ix ix_tup (pv 3) pe_int (fun _ _ => rfl)) pa_nil)))
          (pss_one (ps_set (i := 2) sc.nd rfl (.inl rfl) (pe_op op_add (pv 2) (pe_ix ix_tup (pv 3) pe_int (fun _ _ => rfl)))))))))
      (pss_one (ps_ret (pe_tup (pa_cons (pv 1) (pa_cons (pv 2) pa_nil))))))), ?_⟩
    refine ⟨(by show 0 ≤ sizeLine; decide), fun fp nfp => ?_⟩
    refine ⟨fun m σ H' => ∃ (acc : List Nat) (p : Nat) (y3 : Option V), σ = [some (.ref a), some (.ref fp), some (.int (p : Nat)), y3] ∧ Same H H' ∧ H' fp = some (.lst (iv acc)) ∧ p ≤ l.length ∧ acc.length ≤ p ∧ l.length - p ≤ m ∧ (sgnL l l.length 0).2 = (sgnL l m p).2 ∧ (sgnL l l.length 0).1 = acc ++ (sgnL l m p).1,
      ⟨l.length, [], 0, none, rfl, same_new nfp, upd_same, Nat.zero_le _, Nat.zero_le _, Nat.le_refl _, rfl, rfl⟩, fun n σ H' hW => ?_⟩
    obtain ⟨acc, p, y3, rfl, sm, hfp, hp, hac, hn, e2, e1⟩ := hW
    have hH' := sm _ _ hH
    have hGl := hb.2
    refine ⟨_, rfl, _, rfl, a, _, rfl, .inl (SqL.of hH'), _, _, rfl, rfl, _, rfl, ?_⟩
    dsimp only
    rw [iv_len]
    by_cases h : p < l.length
    case neg =>
      rw [decide_eq_false (by omega : ¬ ((p : Nat) : Int) < ((l.length : Nat) : Int))]
      refine iteF ⟨_, rfl, _, rfl, (by show 2 ≤ sizeLine; decide), fun T nT => ?_⟩
      have e : sgnL l n p = ([], p) := by
        cases n with
        | zero => rfl
        | succ n => rw [sgnL, if_neg h]
      rw [e] at e1 e2
      refine q _ T fp (sm.trans (same_new nT)) ?_ ?_
      · rw [upd_same, e2]
      · rw [e1]
        show _ = some (HO.lst (iv (acc ++ [])))
        rw [List.append_nil]
        exact kn hfp nT
    case pos =>
      rw [decide_eq_true (by omega : ((p : Nat) : Int) < ((l.length : Nat) : Int))]
      obtain ⟨n, rfl⟩ : ∃ n', n = n' + 1 := ⟨n - 1, by omega⟩
      rw [sgnL, if_pos h] at e1 e2
      refine iteT ⟨fun σ' H'' => ∃ (acc' : List Nat) (p' : Nat) (y3 : Option V), σ' = [some (.ref a), some (.ref fp), some (.int (p' : Nat)), y3] ∧ Same H H'' ∧ H'' fp = some (.lst (iv acc')) ∧ p' ≤ l.length ∧ acc'.length ≤ p' ∧ l.length - p' ≤ n ∧ (sgnL l l.length 0).2 = (sgnL l n p').2 ∧ (sgnL l l.length 0).1 = acc' ++ (sgnL l n p').1, fun σ' H'' hN => ?_, ?_⟩
      · obtain ⟨acc', p', y3', rfl, a1, a2, a3, a4, a5, a6, a7⟩ := hN
        exact ⟨n, by omega, acc', p', y3', rfl, a1, a2, a3, a4, a5, a6, a7⟩
      · refine ⟨_, rfl, _, rfl, a, l, p, rfl, hH', h, hb.1, fun e H2 s2 => ?_, fun sg k e H2 T s2 nT hT => ?_⟩
        · rw [e] at e1 e2
          refine ⟨_, rfl, rfl, _, rfl, ?_⟩
          rw [decide_eq_true (rfl : V.non = V.non)]
          refine iteT ⟨_, rfl, _, rfl, (by show 2 ≤ sizeLine; decide), fun T nT => ?_⟩
          refine q _ T fp ((sm.trans s2).trans (same_new nT)) ?_ ?_
          · rw [upd_same, e2]
          · rw [e1]
            show _ = some (HO.lst (iv (acc ++ [])))
            rw [List.append_nil]
            exact kn (s2 _ _ hfp) nT
        · rw [e] at e1 e2
          have hk := decL11_len hb.1 h e
          refine ⟨_, rfl, rfl, _, rfl, ?_⟩
          rw [decide_eq_false (show ¬ V.ref T = V.non from fun z => by cases z)]
          have hfp2 := s2 _ _ hfp
          refine iteF ⟨_, rfl, .inl ⟨rfl, _, SqL.of hfp2⟩, _, rfl, T, _, _, .int (sg : Nat), rfl, rfl, SqT.of hT, rfl, fp, _, _, rfl, rfl, hfp2, by rw [iv_len]; exact szl (by omega), ?_⟩
          have hTf : T ≠ fp := Ne.symm (ne_of_none hfp nT)
          refine ⟨_, rfl, _, rfl, T, _, _, .int (k : Nat), rfl, rfl, SqT.of (by rw [upd_ne hTf]; exact hT), rfl, _, _, rfl, rfl, acc ++ [sg], p + k, some (.ref T), rfl, same_set (sm.trans s2) nfp, ?_, hk.2, ?_, by omega, e2, ?_⟩
          · rw [upd_same, iv_app]
            rfl
          · rw [List.length_append]
            show acc.length + 1 ≤ _
            omega
          · rw [e1]
            simp
def spOdd : Sp := fun vs H Q _ => ∃ sr : Addr, vs = [.ref sr] ∧ Src H sr ∧ ∀ (n : Nat) H', n < 256 → Drawn sr H H' → Q (.int (n : Nat)) H'
end
end FL


namespace FL
open PySem PySem.Spec PyProof.Rows L2
/-! ### the suite's reading of a coded word: marks -/
def spe : List Nat → List Nat × List (List Nat)
  | [] => ([], [])
  | c :: r => if c = 61 then ([], (spe r).1 :: (spe r).2) else (c :: (spe r).1, (spe r).2)
theorem spe_join : ∀ l : List Nat, l = TL.joinL [61] ((spe l).1 :: (spe l).2)
  | [] => rfl
  | c :: r => by
    have ih := spe_join r
    unfold spe
    by_cases h : c = 61
    · rw [if_pos h]
      show c :: r = [] ++ ([61] ++ TL.joinL [61] ((spe r).1 :: (spe r).2))
      rw [← ih, h]
      rfl
    · rw [if_neg h]
      show c :: r = TL.joinL [61] ((c :: (spe r).1) :: (spe r).2)
      have : TL.joinL [61] ((c :: (spe r).1) :: (spe r).2) = c :: TL.joinL [61] ((spe r).1 :: (spe r).2) := by
        cases (spe r).2 <;> simp [TL.joinL]
      rw [this, ← ih]
theorem spe_no : ∀ l : List Nat, ∀ q ∈ (spe l).1 :: (spe l).2, 61 ∉ q
  | [], q, hq => by
    rw [show q = [] from List.mem_singleton.mp hq]
    simp
  | c :: r, q, hq => by
    have ih := spe_no r
    unfold spe at hq
    by_cases h : c = 61
    · rw [if_pos h] at hq
      rcases List.mem_cons.mp hq with rfl | hq
      · simp
      · exact ih q hq
    · rw [if_neg h] at hq
      rcases List.mem_cons.mp hq with rfl | hq
      · intro hm
        rcases List.mem_cons.mp hm with rfl | hm
        · exact h rfl
        · exact ih _ (List.mem_cons_self ..) hm
      · exact ih q (List.mem_cons_of_mem _ hq)
theorem spe_mem {l : List Nat} : ∀ q ∈ (spe l).1 :: (spe l).2, ∀ c ∈ q, c ∈ l := by
  induction l with
  | nil =>
    intro q hq c hc
    rw [show q = [] from List.mem_singleton.mp hq] at hc
    cases hc
  | cons d r ih =>
    intro q hq c hc
    unfold spe at hq
    by_cases h : d = 61
    · rw [if_pos h] at hq
      rcases List.mem_cons.mp hq with rfl | hq
      · cases hc
      · exact List.mem_cons_of_mem _ (ih q hq c hc)
    · rw [if_neg h] at hq
      rcases List.mem_cons.mp hq with rfl | hq
      · rcases List.mem_cons.mp hc with rfl | hc
        · exact List.mem_cons_self ..
        · exact List.mem_cons_of_mem _ (ih _ (List.mem_cons_self ..) c hc)
      · exact List.mem_cons_of_mem _ (ih q (List.mem_cons_of_mem _ hq) c hc)
theorem split_eq (l : List Nat) : Txt.split (mk l) ("=" : Str) = ((spe l).1 :: (spe l).2).map mk := by
  have hu : ("=" : Str) = mk [61] := e61
  have hj : mk l = Txt.join ("=" : Str) (((spe l).1 :: (spe l).2).map mk) := by
    symm
    refine mk_eq ?_
    show TL.tl _ = _
    rw [TL.join_eq, TL.tl_join]
    have e : TL.tl ("=" : Str) = [61] := by
      show ("=" : Str).cps.toList = [61]
      rw [hu, mk_codes]
    rw [e, List.map_map]
    refine Eq.trans ?_ (spe_join l).symm
    congr 1
    exact (List.map_congr_left (fun p _ => mk_codes p)).trans (List.map_id _)
  rw [hj]
  refine TL.split_join (s := 61) (S := []) ?_ ?_ (by simp) fun p h => ?_
  · show ("=" : Str).cps.toList = [61]
    rw [hu, mk_codes]
  · rw [hu]
    show (#[61] : Array Nat).all (· < 256) = true
    simp
  · obtain ⟨q, hq, rfl⟩ := List.mem_map.mp h
    show 61 ∉ (mk q).cps.toList
    rw [mk_codes]
    exact spe_no l q hq
def plain95 (l : List Nat) : List Nat := l.map fun c => if c = 95 then 32 else c
def hexU (c : Nat) : Option Nat := if 48 ≤ c ∧ c ≤ 57 then some (c - 48) else if 65 ≤ c ∧ c ≤ 70 then some (c - 55) else none
theorem hexU_d : ∀ k, k < 16 → hexU (hexd k) = some k := by decide
theorem hexU_lt {c x : Nat} (h : hexU c = some x) : x < 16 := by
  unfold hexU at h
  split at h
  · injection h with h
    omega
  · split at h
    · injection h with h
      omega
    · cases h
/-- one part behind an equals sign -/
def mdP : List Nat → Option (List Nat)
  | a :: b :: r => match hexU a, hexU b with
    | some x, some y => some ((16 * x + y) :: plain95 r)
    | _, _ => none
  | _ => none
def mdR : List (List Nat) → Option (List Nat)
  | [] => some []
  | p :: ps => match mdP p, mdR ps with
    | some a, some b => some (a ++ b)
    | _, _ => none
def mdL (l : List Nat) : Option (List Nat) := match mdR (spe l).2 with
  | some t => some (plain95 (spe l).1 ++ t)
  | none => none
theorem spe_plain {c : Nat} {l : List Nat} (h : c ≠ 61) : spe (c :: l) = (c :: (spe l).1, (spe l).2) := by rw [spe, if_neg h]
theorem spe_eq (l : List Nat) : spe (61 :: l) = ([], (spe l).1 :: (spe l).2) := by rw [spe, if_pos rfl]
theorem mdL_plain {c : Nat} {l o : List Nat} (h : c ≠ 61) (hl : mdL l = some o) : mdL (c :: l) = some ((if c = 95 then 32 else c) :: o) := by
  unfold mdL at hl ⊢
  rw [spe_plain h]
  dsimp only
  cases hm : mdR (spe l).2 with
  | none =>
    rw [hm] at hl
    cases hl
  | some t =>
    rw [hm] at hl
    injection hl with hl
    rw [← hl]
    rfl
theorem mdL_hex {n : Nat} {l o : List Nat} (h : n < 256) (hl : mdL l = some o) : mdL (61 :: (hex2 n ++ l)) = some (n :: o) := by
  have h1 : hexd (n / 16) ≠ 61 := fun e => by
    have : ∀ k, k < 16 → hexd k ≠ 61 := by decide
    exact this _ (by omega) e
  have h2 : hexd (n % 16) ≠ 61 := fun e => by
    have : ∀ k, k < 16 → hexd k ≠ 61 := by decide
    exact this _ (by omega) e
  have e1 : hexU (hexd (n / 16)) = some (n / 16) := hexU_d _ (by omega)
  have e2 : hexU (hexd (n % 16)) = some (n % 16) := hexU_d _ (by omega)
  unfold mdL at hl ⊢
  rw [spe_eq]
  show (match mdR ((spe (hexd (n / 16) :: hexd (n % 16) :: l)).1 :: (spe (hexd (n / 16) :: hexd (n % 16) :: l)).2) with
    | some t => some (plain95 [] ++ t)
    | none => none) = _
  rw [spe_plain h1, spe_plain h2]
  dsimp only
  cases hm : mdR (spe l).2 with
  | none =>
    rw [hm] at hl
    cases hl
  | some t =>
    rw [hm] at hl
    injection hl with hl
    have hP : mdP (hexd (n / 16) :: hexd (n % 16) :: (spe l).1) = some ((16 * (n / 16) + n % 16) :: plain95 (spe l).1) := by
      unfold mdP
      dsimp only
      rw [e1, e2]
    rw [mdR, hm, hP]
    dsimp only
    rw [← hl]
    show some ((16 * (n / 16) + n % 16) :: (plain95 (spe l).1 ++ t)) = _
    rw [show 16 * (n / 16) + n % 16 = n by omega]
/-- what the writer makes of octets is read to them -/
theorem mdL_marks : ∀ o : List Nat, (∀ x ∈ o, x < 256) → mdL (marksC o) = some o
  | [], _ => rfl
  | x :: o, h => by
    have ih := mdL_marks o fun y hy => h y (List.mem_cons_of_mem _ hy)
    have hx := h x (List.mem_cons_self ..)
    have e : marksC (x :: o) = markC x ++ marksC o := by
      unfold marksC
      rw [List.flatMap_cons]
    rw [e]
    rcases markC_c x with ⟨rfl, hm⟩ | ⟨h1, h2, h3, hm⟩ | hm
    · rw [hm]
      have := mdL_plain (c := 95) (by decide) ih
      exact this
    · rw [hm]
      have := mdL_plain (c := x) h3 ih
      rw [if_neg h2] at this
      exact this
    · rw [hm]
      exact mdL_hex hx ih
/-! ### sixes -/
def bits6 (n : Nat) : List Nat := [n / 32 % 2, n / 16 % 2, n / 8 % 2, n / 4 % 2, n / 2 % 2, n % 2]
def numB (l : List Nat) : Nat := l.foldl (fun n b => 2 * n + b) 0
def oct8 : List Nat → List Nat
  | b0 :: b1 :: b2 :: b3 :: b4 :: b5 :: b6 :: b7 :: r => numB [b0, b1, b2, b3, b4, b5, b6, b7] :: oct8 r
  | _ => []
def bitsS (l : List Nat) : List Nat := l.flatMap fun c => bits6 (sixIx c)
def rstE (l : List Nat) : List Nat := (l.reverse.dropWhile fun c => decide (c = 61)).reverse
theorem rstE_app {a b : List Nat} (h : a.getLast? ≠ some 61) : rstE (a ++ b) = if (rstE b) = [] then a else a ++ rstE b := by
  unfold rstE
  rw [List.reverse_append]
  by_cases hb : (b.reverse.dropWhile fun c => decide (c = 61)) = []
  · rw [hb]
    rw [List.dropWhile_append, hb]
    simp only [List.isEmpty_nil, if_true, List.reverse_nil]
    cases ha : a.reverse with
    | nil =>
      have : a = [] := by simpa using ha
      rw [this]
      rfl
    | cons c r =>
      have hc : c ≠ 61 := fun e => h (by
        have := congrArg List.reverse ha
        rw [List.reverse_reverse] at this
        rw [this, e]
        simp)
      rw [List.dropWhile_cons, decide_eq_false hc]
      simp only [Bool.false_eq_true, if_false]
      rw [← ha, List.reverse_reverse]
  · rw [List.dropWhile_append]
    have hne : ((b.reverse.dropWhile fun c => decide (c = 61)).isEmpty) = false := by
      cases hh : (b.reverse.dropWhile fun c => decide (c = 61)) with
      | nil => exact absurd hh hb
      | cons c r => rfl
    rw [hne]
    simp only [Bool.false_eq_true, if_false, List.reverse_append, List.reverse_reverse, List.reverse_eq_nil_iff]
    rw [if_neg hb]
theorem nA : ∀ a, a < 256 → ∀ y, y < 16 → numB [a / 4 / 32 % 2, a / 4 / 16 % 2, a / 4 / 8 % 2, a / 4 / 4 % 2, a / 4 / 2 % 2, a / 4 % 2, (a % 4 * 16 + y) / 32 % 2, (a % 4 * 16 + y) / 16 % 2] = a := by decide +kernel
theorem nB : ∀ b, b < 256 → ∀ x, x < 4 → ∀ z, z < 4 → numB [(x * 16 + b / 16) / 8 % 2, (x * 16 + b / 16) / 4 % 2, (x * 16 + b / 16) / 2 % 2, (x * 16 + b / 16) % 2, (b % 16 * 4 + z) / 32 % 2, (b % 16 * 4 + z) / 16 % 2, (b % 16 * 4 + z) / 8 % 2, (b % 16 * 4 + z) / 4 % 2] = b := by decide +kernel
theorem nC : ∀ c, c < 256 → ∀ y, y < 16 → numB [(y * 4 + c / 64) / 2 % 2, (y * 4 + c / 64) % 2, c % 64 / 32 % 2, c % 64 / 16 % 2, c % 64 / 8 % 2, c % 64 / 4 % 2, c % 64 / 2 % 2, c % 64 % 2] = c := by decide +kernel
theorem six_61 : ∀ n, n < 64 → six n ≠ 61 := by decide +kernel
theorem six_in : ∀ n, n < 64 → six n ∈ SIXS.cps.toList := by decide +kernel
theorem bitsS_cons (n : Nat) (h : n < 64) (r : List Nat) : bitsS (six n :: r) = bits6 n ++ bitsS r := by
  unfold bitsS
  rw [List.flatMap_cons, sixIx_six n h]
theorem sd_six : ∀ o : List Nat, (∀ x ∈ o, x < 256) → oct8 (bitsS (rstE (sixC o))) = o ∧ ∀ c ∈ rstE (sixC o), c ∈ SIXS.cps.toList
  | [], _ => ⟨rfl, fun c hc => by cases hc⟩
  | [a], h => by
    have ha := h a (by simp)
    have h1 : a / 4 < 64 := by omega
    have h2 : a % 4 * 16 < 64 := by omega
    have e : rstE (sixC [a]) = [six (a / 4), six (a % 4 * 16)] := by
      show rstE ([six (a / 4), six (a % 4 * 16)] ++ [61, 61]) = _
      rw [rstE_app (by intro z; injection z with z; exact six_61 _ h2 z)]
      rfl
    rw [e]
    refine ⟨?_, fun c hc => ?_⟩
    · rw [bitsS_cons _ h1, bitsS_cons _ h2]
      have := nA a ha 0 (by decide)
      rw [Nat.add_zero] at this
      show numB [a / 4 / 32 % 2, a / 4 / 16 % 2, a / 4 / 8 % 2, a / 4 / 4 % 2, a / 4 / 2 % 2, a / 4 % 2, (a % 4 * 16) / 32 % 2, (a % 4 * 16) / 16 % 2] :: [] = [a]
      rw [this]
    · simp only [List.mem_cons, List.not_mem_nil, or_false] at hc
      rcases hc with rfl | rfl
      · exact six_in _ h1
      · exact six_in _ h2
  | [a, b], h => by
    have ha := h a (by simp)
    have hb := h b (by simp)
    have h1 : a / 4 < 64 := by omega
    have h2 : a % 4 * 16 + b / 16 < 64 := by omega
    have h3 : b % 16 * 4 < 64 := by omega
    have e : rstE (sixC [a, b]) = [six (a / 4), six (a % 4 * 16 + b / 16), six (b % 16 * 4)] := by
      show rstE ([six (a / 4), six (a % 4 * 16 + b / 16), six (b % 16 * 4)] ++ [61]) = _
      rw [rstE_app (by intro z; injection z with z; exact six_61 _ h3 z)]
      rfl
    rw [e]
    refine ⟨?_, fun c hc => ?_⟩
    · rw [bitsS_cons _ h1, bitsS_cons _ h2, bitsS_cons _ h3]
      have e1 := nA a ha (b / 16) (by omega)
      have e2 := nB b hb (a % 4) (by omega) 0 (by decide)
      rw [Nat.add_zero] at e2
      show numB [a / 4 / 32 % 2, a / 4 / 16 % 2, a / 4 / 8 % 2, a / 4 / 4 % 2, a / 4 / 2 % 2, a / 4 % 2, (a % 4 * 16 + b / 16) / 32 % 2, (a % 4 * 16 + b / 16) / 16 % 2] :: numB [(a % 4 * 16 + b / 16) / 8 % 2, (a % 4 * 16 + b / 16) / 4 % 2, (a % 4 * 16 + b / 16) / 2 % 2, (a % 4 * 16 + b / 16) % 2, (b % 16 * 4) / 32 % 2, (b % 16 * 4) / 16 % 2, (b % 16 * 4) / 8 % 2, (b % 16 * 4) / 4 % 2] :: [] = [a, b]
      rw [e1, e2]
    · simp only [List.mem_cons, List.not_mem_nil, or_false] at hc
      rcases hc with rfl | rfl | rfl
      · exact six_in _ h1
      · exact six_in _ h2
      · exact six_in _ h3
  | a :: b :: c :: r, h => by
    have ha := h a (by simp)
    have hb := h b (by simp)
    have hc := h c (by simp)
    obtain ⟨ih1, ih2⟩ := sd_six r fun x hx => h x (by simp [hx])
    have h1 : a / 4 < 64 := by omega
    have h2 : a % 4 * 16 + b / 16 < 64 := by omega
    have h3 : b % 16 * 4 + c / 64 < 64 := by omega
    have h4 : c % 64 < 64 := by omega
    have e : rstE (sixC (a :: b :: c :: r)) = [six (a / 4), six (a % 4 * 16 + b / 16), six (b % 16 * 4 + c / 64), six (c % 64)] ++ rstE (sixC r) := by
      show rstE ([six (a / 4), six (a % 4 * 16 + b / 16), six (b % 16 * 4 + c / 64), six (c % 64)] ++ sixC r) = _
      rw [rstE_app (by intro z; injection z with z; exact six_61 _ h4 z)]
      split
      · rename_i hn
        rw [hn, List.append_nil]
      · rfl
    rw [e]
    refine ⟨?_, fun d hd => ?_⟩
    · rw [List.cons_append, List.cons_append, List.cons_append, List.cons_append, List.nil_append, bitsS_cons _ h1, bitsS_cons _ h2, bitsS_cons _ h3, bitsS_cons _ h4]
      have e1 := nA a ha (b / 16) (by omega)
      have e2 := nB b hb (a % 4) (by omega) (c / 64) (by omega)
      have e3 := nC c hc (b % 16) (by omega)
      show numB [a / 4 / 32 % 2, a / 4 / 16 % 2, a / 4 / 8 % 2, a / 4 / 4 % 2, a / 4 / 2 % 2, a / 4 % 2, (a % 4 * 16 + b / 16) / 32 % 2, (a % 4 * 16 + b / 16) / 16 % 2] :: numB [(a % 4 * 16 + b / 16) / 8 % 2, (a % 4 * 16 + b / 16) / 4 % 2, (a % 4 * 16 + b / 16) / 2 % 2, (a % 4 * 16 + b / 16) % 2, (b % 16 * 4 + c / 64) / 32 % 2, (b % 16 * 4 + c / 64) / 16 % 2, (b % 16 * 4 + c / 64) / 8 % 2, (b % 16 * 4 + c / 64) / 4 % 2] :: numB [(b % 16 * 4 + c / 64) / 2 % 2, (b % 16 * 4 + c / 64) % 2, c % 64 / 32 % 2, c % 64 / 16 % 2, c % 64 / 8 % 2, c % 64 / 4 % 2, c % 64 / 2 % 2, c % 64 % 2] :: oct8 (bitsS (rstE (sixC r))) = _
      rw [e1, e2, e3, ih1]
    · rcases List.mem_append.mp hd with hd | hd
      · simp only [List.mem_cons, List.not_mem_nil, or_false] at hd
        rcases hd with rfl | rfl | rfl | rfl
        · exact six_in _ h1
        · exact six_in _ h2
        · exact six_in _ h3
        · exact six_in _ h4
      · exact ih2 d hd
/-- sixes read, whatever is filled up -/
def sdL (l : List Nat) : Option (List Nat) := if (rstE l).all (fun c => decide (c ∈ SIXS.cps.toList)) = true then some (oct8 (bitsS (rstE l))) else none
theorem sdL_six {o : List Nat} (h : ∀ x ∈ o, x < 256) : sdL (sixC o) = some o := by
  obtain ⟨h1, h2⟩ := sd_six o h
  unfold sdL
  rw [if_pos (List.all_eq_true.mpr fun c hc => decide_eq_true (h2 c hc)), h1]
theorem oct8_lt : ∀ l : List Nat, (∀ b ∈ l, b < 2) → ∀ n ∈ oct8 l, n < 256
  | b0 :: b1 :: b2 :: b3 :: b4 :: b5 :: b6 :: b7 :: r, h, n, hn => by
    rw [oct8] at hn
    have h0 := h b0 (by simp); have h1 := h b1 (by simp); have h2 := h b2 (by simp); have h3 := h b3 (by simp)
    have h4 := h b4 (by simp); have h5 := h b5 (by simp); have h6 := h b6 (by simp); have h7 := h b7 (by simp)
    rcases List.mem_cons.mp hn with rfl | hn
    · show 2 * (2 * (2 * (2 * (2 * (2 * (2 * (2 * 0 + b0) + b1) + b2) + b3) + b4) + b5) + b6) + b7 < 256
      omega
    · exact oct8_lt r (fun b hb => h b (by simp [hb])) n hn
  | [], _, n, hn => by simp [oct8] at hn
  | [_], _, n, hn => by simp [oct8] at hn
  | [_, _], _, n, hn => by simp [oct8] at hn
  | [_, _, _], _, n, hn => by simp [oct8] at hn
  | [_, _, _, _], _, n, hn => by simp [oct8] at hn
  | [_, _, _, _, _], _, n, hn => by simp [oct8] at hn
  | [_, _, _, _, _, _], _, n, hn => by simp [oct8] at hn
  | [_, _, _, _, _, _, _], _, n, hn => by simp [oct8] at hn
theorem bitsS_lt (l : List Nat) : ∀ b ∈ bitsS l, b < 2 := fun b hb => by
  obtain ⟨c, _, hb⟩ := List.mem_flatMap.mp hb
  unfold bits6 at hb
  simp only [List.mem_cons, List.not_mem_nil, or_false] at hb
  rcases hb with rfl | rfl | rfl | rfl | rfl | rfl <;> exact Nat.mod_lt _ (by decide)
theorem sdL_lt {l o : List Nat} (h : sdL l = some o) : ∀ n ∈ o, n < 256 := by
  unfold sdL at h
  split at h
  · injection h with h
    rw [← h]
    exact oct8_lt _ (bitsS_lt _)
  · cases h
theorem mdP_lt {p o : List Nat} (hp : ∀ c ∈ p, c < 256) (h : mdP p = some o) : ∀ n ∈ o, n < 256 := by
  match p, hp, h with
  | [], _, h => cases h
  | [_], _, h => cases h
  | a :: b :: r, hp, h =>
    unfold mdP at h
    dsimp only at h
    cases ha : hexU a with
    | none =>
      rw [ha] at h
      cases h
    | some x =>
      cases hb : hexU b with
      | none =>
        rw [ha, hb] at h
        cases h
      | some y =>
        rw [ha, hb] at h
        injection h with h
        have h1 := hexU_lt ha
        have h2 := hexU_lt hb
        rw [← h]
        intro n hn
        rcases List.mem_cons.mp hn with rfl | hn
        · omega
        · obtain ⟨c, hc, rfl⟩ := List.mem_map.mp hn
          have := hp c (by simp [hc])
          split <;> omega
theorem mdR_lt : ∀ (ps : List (List Nat)) (o : List Nat), (∀ p ∈ ps, ∀ c ∈ p, c < 256) → mdR ps = some o → ∀ n ∈ o, n < 256
  | [], o, _, h => by
    injection h with h
    rw [← h]
    intro n hn
    cases hn
  | p :: ps, o, hp, h => by
    rw [mdR] at h
    cases h1 : mdP p with
    | none =>
      rw [h1] at h
      cases h
    | some a =>
      cases h2 : mdR ps with
      | none =>
        rw [h1, h2] at h
        cases h
      | some b =>
        rw [h1, h2] at h
        injection h with h
        rw [← h]
        intro n hn
        rcases List.mem_append.mp hn with hn | hn
        · exact mdP_lt (hp p (List.mem_cons_self ..)) h1 n hn
        · exact mdR_lt ps b (fun q hq => hp q (List.mem_cons_of_mem _ hq)) h2 n hn
theorem mdL_lt {l o : List Nat} (hl : ∀ c ∈ l, c < 256) (h : mdL l = some o) : ∀ n ∈ o, n < 256 := by
  unfold mdL at h
  cases h1 : mdR (spe l).2 with
  | none =>
    rw [h1] at h
    cases h
  | some t =>
    rw [h1] at h
    injection h with h
    rw [← h]
    intro n hn
    rcases List.mem_append.mp hn with hn | hn
    · obtain ⟨c, hc, rfl⟩ := List.mem_map.mp hn
      have := hl c (spe_mem _ (List.mem_cons_self ..) c hc)
      split <;> omega
    · exact mdR_lt _ t (fun p hp c hc => hl c (spe_mem p (List.mem_cons_of_mem _ hp) c hc)) h1 n hn
/-- sixes as long as they may be -/
theorem told_sixA {l : List Nat} (hb : ∀ x ∈ l, x < 256) (hn : l ≠ []) : toldO (sixC l) (sixC l ++ [10]) read6 sixC = some l := by
  obtain ⟨st, h1, h2, h3, h4⟩ := run6_sixC l.length l (Nat.le_refl _) hb 0 [] [] (.inl rfl)
  have hr : read6 (sixC l ++ [10]) = .ok l := by
    unfold read6
    rw [run6_app, show init6 = ⟨[], [], 0⟩ from rfl, h1]
    dsimp only
    rw [run6_some (show step6 st 10 = some st from by unfold step6; rw [if_pos (.inr rfl)]), run6_nil]
    dsimp only
    unfold end6
    rw [if_neg (fun z => ?_), h2]
    · rfl
    · have := h3 hn
      omega
  have hby : readBy read6 (sixC l ++ [10]) = .ok l := by
    unfold readBy
    rw [hr]
    dsimp only
    rw [if_neg (fun z => z.2 (by simp))]
  unfold toldO
  rw [hby]
  exact if_pos rfl
/-! ### what both tell of a word -/
def chkL (inner : List Nat) (dec : List Nat → Option (List Nat)) (wr : List Nat → List Nat) : Option (List Nat) := match dec inner with
  | none => none
  | some o => if wr o = inner then sayO o else none
def toldL (w : List Nat) : Option (List Nat) :=
  if innerW w = [] ∨ endsQ w = false then none
  else if w.take 4 = [61, 63, 115, 63] then chkL (innerW w) sdL sixC
  else if w.take 4 = [61, 63, 109, 63] then chkL (innerW w) mdL marksC
  else none
theorem chk_eq {y : Way} {inner body : List Nat} {dec : List Nat → Option (List Nat)} (hbs : allSig body = true) (hbl : body.length ≤ y.bd) (h1 : ∀ o : List Nat, (∀ x ∈ o, x < 256) → dec (y.wr o) = some o) (h2 : ∀ o, dec inner = some o → ∀ x ∈ o, x < 256)
    (h3 : ∀ o : List Nat, (∀ x ∈ o, x < 256) → y.wr o = inner → toldO inner body y.cd.rd y.wr = some o) :
    chkL inner dec y.wr = match toldO inner body y.cd.rd y.wr with
      | none => none
      | some o => sayO o := by
  by_cases hex : ∃ o : List Nat, (∀ x ∈ o, x < 256) ∧ y.wr o = inner
  · obtain ⟨o, ho, e⟩ := hex
    rw [h3 o ho e]
    unfold chkL
    rw [← e, h1 o ho]
    dsimp only
    rw [if_pos rfl]
  · have e1 : toldO inner body y.cd.rd y.wr = none := by
      unfold toldO
      cases hr : readBy y.cd.rd body with
      | error p => rfl
      | ok o =>
        dsimp only
        rw [if_neg (fun e => hex ⟨o, (y.oct hbs hbl hr).1, e⟩)]
    rw [e1]
    unfold chkL
    cases hd : dec inner with
    | none => rfl
    | some o =>
      dsimp only
      rw [if_neg (fun e => hex ⟨o, h2 o hd, e⟩)]
theorem toldL_eq {w : List Nat} (hs : allSig w = true) (hl : w.length ≤ 2900) : toldL w = sayW w := by
  have h1 := inner_len w
  have h2 := inner_sig hs
  have h3 := rep95_len (innerW w)
  unfold toldL sayW octW
  by_cases h0 : innerW w = [] ∨ endsQ w = false
  · rw [if_pos h0, if_pos h0]
  · rw [if_neg h0, if_neg h0]
    have hne : innerW w ≠ [] := fun e => h0 (.inl e)
    by_cases c1 : w.take 4 = [61, 63, 115, 63]
    · rw [if_pos c1, if_pos c1]
      refine chk_eq (y := .s) (app_sig h2 (by decide)) (by rw [List.length_append]; show _ + 1 ≤ 2950; omega) (fun o ho => sdL_six ho) (fun o h => sdL_lt h) fun o ho e => ?_
      have ho0 : o ≠ [] := fun z => hne (by rw [← e, z]; rfl)
      rw [← e]
      exact told_sixA ho ho0
    · rw [if_neg c1, if_neg c1]
      by_cases c2 : w.take 4 = [61, 63, 109, 63]
      · rw [if_pos c2, if_pos c2]
        refine chk_eq (y := .m) (app_sig (rep95_sig h2) (by decide)) (by rw [List.length_append]; show _ + 2 ≤ 8950; omega) (fun o ho => mdL_marks o ho) (fun o h => mdL_lt (fun c hc => ?_) h) fun o ho e => ?_
        · exact sig_lt3 h2 c hc
        · rw [← e]
          exact told_marks ho
      · rw [if_neg c2, if_neg c2]
end FL

namespace FL
open PySem PySem.Spec PyProof.Rows L2
/-! ### a value cut at its blanks -/
def spb : List Nat → List Nat × List (List Nat)
  | [] => ([], [])
  | c :: r => if c = 32 then ([], (spb r).1 :: (spb r).2) else (c :: (spb r).1, (spb r).2)
theorem spb_join : ∀ l : List Nat, l = TL.joinL [32] ((spb l).1 :: (spb l).2)
  | [] => rfl
  | c :: r => by
    have ih := spb_join r
    unfold spb
    by_cases h : c = 32
    · rw [if_pos h]
      show c :: r = [] ++ ([32] ++ TL.joinL [32] ((spb r).1 :: (spb r).2))
      rw [← ih, h]
      rfl
    · rw [if_neg h]
      show c :: r = TL.joinL [32] ((c :: (spb r).1) :: (spb r).2)
      have : TL.joinL [32] ((c :: (spb r).1) :: (spb r).2) = c :: TL.joinL [32] ((spb r).1 :: (spb r).2) := by
        cases (spb r).2 <;> simp [TL.joinL]
      rw [this, ← ih]
theorem spb_no : ∀ l : List Nat, ∀ q ∈ (spb l).1 :: (spb l).2, 32 ∉ q
  | [], q, hq => by
    rw [show q = [] from List.mem_singleton.mp hq]
    simp
  | c :: r, q, hq => by
    have ih := spb_no r
    unfold spb at hq
    by_cases h : c = 32
    · rw [if_pos h] at hq
      rcases List.mem_cons.mp hq with rfl | hq
      · simp
      · exact ih q hq
    · rw [if_neg h] at hq
      rcases List.mem_cons.mp hq with rfl | hq
      · intro hm
        rcases List.mem_cons.mp hm with rfl | hm
        · exact h rfl
        · exact ih _ (List.mem_cons_self ..) hm
      · exact ih q (List.mem_cons_of_mem _ hq)
theorem spb_mem {l : List Nat} : ∀ q ∈ (spb l).1 :: (spb l).2, ∀ c ∈ q, c ∈ l := by
  induction l with
  | nil =>
    intro q hq c hc
    rw [show q = [] from List.mem_singleton.mp hq] at hc
    cases hc
  | cons d r ih =>
    intro q hq c hc
    unfold spb at hq
    by_cases h : d = 32
    · rw [if_pos h] at hq
      rcases List.mem_cons.mp hq with rfl | hq
      · cases hc
      · exact List.mem_cons_of_mem _ (ih q hq c hc)
    · rw [if_neg h] at hq
      rcases List.mem_cons.mp hq with rfl | hq
      · rcases List.mem_cons.mp hc with rfl | hc
        · exact List.mem_cons_self ..
        · exact List.mem_cons_of_mem _ (ih _ (List.mem_cons_self ..) c hc)
      · exact List.mem_cons_of_mem _ (ih q (List.mem_cons_of_mem _ hq) c hc)
theorem split_sp (l : List Nat) : Txt.split (mk l) (" " : Str) = ((spb l).1 :: (spb l).2).map mk := by
  have hu : (" " : Str) = mk [32] := by decide +kernel
  have hj : mk l = Txt.join (" " : Str) (((spb l).1 :: (spb l).2).map mk) := by
    symm
    refine mk_eq ?_
    show TL.tl _ = _
    rw [TL.join_eq, TL.tl_join]
    have e : TL.tl (" " : Str) = [32] := by
      show (" " : Str).cps.toList = [32]
      rw [hu, mk_codes]
    rw [e, List.map_map]
    refine Eq.trans ?_ (spb_join l).symm
    congr 1
    exact (List.map_congr_left (fun p _ => mk_codes p)).trans (List.map_id _)
  rw [hj]
  refine TL.split_join (s := 32) (S := []) ?_ ?_ (by simp) fun p h => ?_
  · show (" " : Str).cps.toList = [32]
    rw [hu, mk_codes]
  · rw [hu]
    show (#[32] : Array Nat).all (· < 256) = true
    simp
  · obtain ⟨q, hq, rfl⟩ := List.mem_map.mp h
    show 32 ∉ (mk q).cps.toList
    rw [mk_codes]
    exact spb_no l q hq

/-- the suite's decoding: whether the last piece told a saying, how many blanks are behind it -/
def lawD : Bool → Nat → List (List Nat) → List Nat
  | _, b, [] => List.replicate (b - 1) 32
  | t, b, p :: ps => if p = [] then lawD t (b + 1) ps else (if ((sayW p).isSome && t) = true then [] else List.replicate b 32) ++ ((match sayW p with
    | some x => x
    | none => p) ++ lawD (sayW p).isSome 1 ps)
theorem joinL_two (p q : List Nat) (ps : List (List Nat)) : TL.joinL [32] (p :: q :: ps) = p ++ (32 :: TL.joinL [32] (q :: ps)) := rfl
theorem lawD_eq : ∀ (ps : List (List Nat)) (p : List Nat) (t : Bool) (b : Nat), (∀ q ∈ p :: ps, 32 ∉ q) → (b = 0 → t = false) → lawD t b (p :: ps) = decA t (stch (List.replicate b 32 ++ TL.joinL [32] (p :: ps)))
  | ps, p, t, b, hno, hb => by
    have hblank : ∀ k, ∀ c ∈ List.replicate k 32, isB c = true := fun k c hc => by rw [(List.mem_replicate.mp hc).2]; rfl
    by_cases hp : p = []
    · subst hp
      rw [lawD, if_pos rfl]
      cases ps with
      | nil =>
        show List.replicate (b + 1 - 1) 32 = decA t (stch (List.replicate b 32 ++ []))
        rw [Nat.add_sub_cancel, List.append_nil]
        cases b with
        | zero => rfl
        | succ b =>
          rw [stch_one (b := true) _ (by simp) (hblank _), decA, sayW_blanks]
          show _ = (if (t && nextT []) = true then [] else List.replicate (b + 1) 32) ++ decA false []
          rw [show (t && nextT []) = false from by cases t <;> rfl, if_neg Bool.false_ne_true]
          show _ = _ ++ []
          rw [List.append_nil]
      | cons q ps =>
        rw [lawD_eq ps q t (b + 1) (fun x hx => hno x (List.mem_cons_of_mem _ hx)) (fun z => by omega), joinL_two]
        congr 2
        rw [List.replicate_succ', List.append_assoc]
        rfl
    · rw [lawD, if_neg hp]
      have hpn : ∀ c ∈ p, isB c = false := fun c hc => isB_ne fun z => hno p (List.mem_cons_self ..) (z ▸ hc)
      -- what is behind the piece
      obtain ⟨r, hr, hr32, hrest⟩ : ∃ r, TL.joinL [32] (p :: ps) = p ++ r ∧ (∀ d, r.head? = some d → isB d ≠ false) ∧ lawD (sayW p).isSome 1 ps = decA (sayW p).isSome (stch r) := by
        cases ps with
        | nil => exact ⟨[], by show p = p ++ []; rw [List.append_nil], fun d hd => (by cases hd), rfl⟩
        | cons q ps =>
          refine ⟨32 :: TL.joinL [32] (q :: ps), joinL_two p q ps, fun d hd => ?_, ?_⟩
          · injection hd with hd
            rw [← hd]
            decide
          · rw [lawD_eq ps q _ 1 (fun x hx => hno x (List.mem_cons_of_mem _ hx)) (fun z => by omega)]
            rfl
      have hsp : stch (p ++ r) = p :: stch r := stch_run (b := false) hp hpn hr32
      have hone : decA false (stch (p ++ r)) = (match sayW p with
          | some x => x
          | none => p) ++ lawD (sayW p).isSome 1 ps := by
        rw [hsp, decA, hrest]
        cases sayW p <;> rfl
      rw [hr]
      cases b with
      | zero =>
        rw [hb rfl, List.replicate_zero, List.nil_append, hone]
        cases sayW p <;> rfl
      | succ b =>
        have hne : List.replicate (b + 1) 32 ≠ [] := by simp
        rw [stch_run (b := true) hne (hblank _) (fun d hd => ?_), decA, sayW_blanks, ← hone]
        · show _ = (if (t && nextT (stch (p ++ r))) = true then [] else List.replicate (b + 1) 32) ++ decA false (stch (p ++ r))
          rw [hsp]
          show _ = (if (t && (sayW p).isSome) = true then [] else List.replicate (b + 1) 32) ++ _
          rw [Bool.and_comm]
        · cases p with
          | nil => exact absurd rfl hp
          | cons c s =>
            injection hd with hd
            rw [← hd, hpn c (List.mem_cons_self ..)]
            exact Bool.false_ne_true
  termination_by ps => ps.length
theorem lawD_dec (l : List Nat) : lawD false 0 ((spb l).1 :: (spb l).2) = decL l := by
  rw [lawD_eq _ _ _ _ (spb_no l) (fun _ => rfl), List.replicate_zero, List.nil_append, ← spb_join]
  rfl
end FL

namespace FL
open PySem PySem.Spec PyProof.Rows L2
theorem lsig_ix : ∀ d, d < 127 → 32 ≤ d → d ≠ 37 → d ∈ LSIG.cps.toList ∧ 32 + (LSIG.cps.toList.takeWhile fun y => !decide (y = d)).length + (if 37 < d then 1 else 0) = d := by decide +kernel
section
variable {P : Program} {w : World} {K : PySem.W.Frag} {mg : Str → Option Value} {base : Heap}
def spNumsM : Sp := fun vs H Q _ => ∃ z : Str, vs = [.str z] ∧ z.length ≤ 1000 ∧ (∀ c ∈ z.cps.toList, numb c = true) ∧ ∀ H' p, Same H H' → H p = none → H' p = some (.lst (iv z.cps.toList)) → Q (.ref p) H'
theorem scLawNumbers : FnScope ["_law_line", "_law_signs", "_law_one"] ["_law_line"] (defScope sLawNumbers) := ⟨rfl, rfl, rfl, by decide +kernel, rfl, by decide +kernel, by decide +kernel⟩
theorem r_nums (A : FnAt K mg "_law_numbers" sLawNumbers) (m_int : mg "int" = none) : Ready P w K mg base 1 "_law_numbers" ["_law_line"] spNumsM := by
  refine ready_of A (fun _ _ _ _ _ _ us hl => match us, hl with | [_], _ => rfl) fun f fd F => ?_
  refine F.ok scLawNumbers (fun vs H Q E h => ?_) (fun cdv A outer s H vs Q E hr h => ?_)
  · obtain ⟨z, rfl, _⟩ := h
    rfl
  · obtain ⟨z, rfl, hz, hn, q⟩ := h
    have sc := scLawNumbers
    refine ⟨_, pss_cons (ps_set (i := 1) sc.nd rfl (.inr rfl) pe_str)
      (pss_one (ps_ret (pe_lc (own := [("_law_one", 2)]) (g := gName 2) (tt := tYes) (te := (tOp _ (tOp _ (tC (.int 32)) (tBM K "str" (fun x xs H Q => ∃ a b i rest, x = .str a ∧ xs = [.str b] ∧ Builtin.Str.occurrences a b 0 a.length 1 = i :: rest ∧ Q (.int (i : Nat)) H) (tVar 1) (tCons (tVar 2) tNil))) (tCB _ (tCons (tOp _ (tVar 2) (tC (.str ("$" : Str)))) tNil)))) (by rfl) sc.nd (pi_str (pv 0)) (blkOk_by (own := [("_law_one", 2)]) (N := ["_law_line", "_law_signs", "_law_one"]) (sc := defScope sLawNumbers) (by decide +kernel)) (fun _ _ _ _ _ => (pg_name (i := 2) sc.nd rfl (.inl rfl))) (fun _ _ _ _ _ => pts_nil) (fun _ _ _ _ _ => (pe_op op_add (pe_op op_add pe_int (pe_bm PySem.F.plainAttrs_str PySem.F.slot_str_index PySem.F.type_str_index mt_sindex (pv 1) (pa_cons (pv 2) pa_nil))) (pe_callTy call_int1 (by rfl) m_int (by decide +kernel) (pa_cons (pe_cmpR op_gt_str (pv 2) pe_str (nomark _)) pa_nil))))))), ?_⟩
    refine ⟨_, rfl, z, rfl, fun D hD => ?_⟩
    refine lc_it walk_str (fun i H' => Same H H' ∧ H' D = some (.lst (iv (z.cps.toList.take i)))) ⟨same_new hD, upd_same⟩ (fun _ _ _ _ => trivial) (fun i x H1 H2 hi hp hy => ?_) (fun H1 hp => ?_)
    · obtain ⟨rfl, c, hc, rfl⟩ := hy
      obtain ⟨sm, hd⟩ := hp
      have hc' := cps_at hc
      have hnc := numb_iff.mp (hn c (List.mem_of_getElem? hc'))
      obtain ⟨hin, hv⟩ := lsig_ix c (by omega) (by omega) hnc.2.2
      obtain ⟨rest, hocc⟩ := occ_one hin
      refine ⟨rfl, ?_⟩
      unfold tYes
      refine iteT ?_
      refine ⟨_, rfl, rfl, _, rfl, LSIG, _, _, rest, rfl, rfl, hocc, ?_⟩
      refine ⟨_, _, rfl, rfl, _, rfl, _, _, rfl, rfl, .inr ⟨_, rfl, ?_⟩⟩
      have hgt : decide ((("$" : Str)).cps.toList < (⟨#[c]⟩ : Str).cps.toList) = decide (37 < c) := by
        have e : ("$" : Str).cps.toList = [36] := by decide +kernel
        rw [e]
        show decide ([36] < [c]) = decide (37 < c)
        refine decide_eq_decide.mpr ?_
        rw [List.cons_lt_cons_iff]
        constructor
        · intro h
          rcases h with h | ⟨_, h⟩
          · omega
          · exact absurd h (by simp)
        · intro h
          exact .inl (by omega)
      rw [hgt]
      refine ⟨_, _, rfl, rfl, _, hd, ?_, same_set sm hD, ?_⟩
      · rw [iv_len]
        exact Nat.lt_of_le_of_lt (List.length_take_le _ _) (szl (by have h2 : z.cps.size = z.length := rfl; omega))
      · rw [upd_same, take_more hc', iv_app]
        have e : (32 : Int) + ((((List.takeWhile (fun y => !decide (y = c)) LSIG.cps.toList).length : Nat) : Nat) : Int) + (if decide (37 < c) = true then 1 else 0) = ((c : Nat) : Int) := by
          by_cases h37 : 37 < c
          · rw [if_pos h37] at hv
            rw [decide_eq_true h37, if_pos rfl]
            omega
          · rw [if_neg h37] at hv
            rw [decide_eq_false h37, if_neg Bool.false_ne_true]
            omega
        show some (HO.lst (_ ++ [V.int _])) = some (HO.lst (_ ++ iv [c]))
        rw [show iv [c] = [V.int ((c : Nat) : Int)] from rfl]
        rw [← e]
    · obtain ⟨sm, hd⟩ := hp
      have e : z.cps.toList.take z.cps.size = z.cps.toList := List.take_of_length_le (by simp)
      rw [e] at hd
      exact q H1 D sm hD hd
end
end FL

namespace FL
open PySem PySem.Spec PyProof.Rows L2
theorem eq_has : ("=" : Str).cps.contains = fun c => decide (c = 61) := by
  funext c
  show (#[61] : Array Nat).contains c = _
  simp
theorem rstripE_codes (x : Str) : (Txt.rstripChars x ("=" : Str)).cps.toList = rstE x.cps.toList := by
  unfold Txt.rstripChars
  rw [eq_has, PyProof.Rows.stripBy_eq, PySem.StrLaws.strSub_toList]
  unfold PySem.stripHi PySem.stripLo rstE
  rw [if_neg Bool.false_ne_true, if_pos rfl, List.drop_zero, Nat.sub_zero]
  have hx := len_cps x
  generalize x.cps.toList = l at hx ⊢
  rw [← hx, ← drop_tw, List.drop_reverse, List.reverse_reverse]
theorem rstE_len (l : List Nat) : (rstE l).length ≤ l.length := by
  unfold rstE
  rw [List.length_reverse]
  exact Nat.le_trans (List.dropWhile_sublist _).length_le (by rw [List.length_reverse]; exact Nat.le_refl _)
theorem oct8_len : ∀ l : List Nat, (oct8 l).length = l.length / 8
  | b0 :: b1 :: b2 :: b3 :: b4 :: b5 :: b6 :: b7 :: r => by
    rw [oct8, List.length_cons, oct8_len r]
    simp only [List.length_cons]
    omega
  | [] => rfl
  | [_] => by simp [oct8]
  | [_, _] => by simp [oct8]
  | [_, _, _] => by simp [oct8]
  | [_, _, _, _] => by simp [oct8]
  | [_, _, _, _, _] => by simp [oct8]
  | [_, _, _, _, _, _] => by simp [oct8]
  | [_, _, _, _, _, _, _] => by simp [oct8]
def P6 : List Nat := [32, 16, 8, 4, 2, 1]
theorem bits6_eq (n : Nat) : bits6 n = P6.map fun p => n / p % 2 := by
  unfold bits6 P6
  simp
theorem P6_pos : ∀ p ∈ P6, 1 ≤ p ∧ p < 100 := by decide
theorem oct8_at : ∀ (l : List Nat) (i : Nat), i < l.length / 8 → (oct8 l)[i]? = some (numB ((l.drop (8 * i)).take 8))
  | b0 :: b1 :: b2 :: b3 :: b4 :: b5 :: b6 :: b7 :: r, 0, _ => rfl
  | b0 :: b1 :: b2 :: b3 :: b4 :: b5 :: b6 :: b7 :: r, i + 1, h => by
    rw [oct8, List.getElem?_cons_succ, oct8_at r i (by simp only [List.length_cons] at h; omega)]
    rw [show 8 * (i + 1) = 8 * i + 8 by omega]
    rfl
  | [], _, h => absurd h (by simp)
  | [_], _, h => absurd h (by simp)
  | [_, _], _, h => absurd h (by simp)
  | [_, _, _], _, h => absurd h (by simp)
  | [_, _, _, _], _, h => absurd h (by simp)
  | [_, _, _, _, _], _, h => absurd h (by simp)
  | [_, _, _, _, _, _], _, h => absurd h (by simp)
  | [_, _, _, _, _, _, _], _, h => absurd h (by simp)
theorem bitsS_len (l : List Nat) : (bitsS l).length = 6 * l.length := by
  unfold bitsS
  induction l with
  | nil => rfl
  | cons c r ih =>
    rw [List.flatMap_cons, List.length_append, ih, List.length_cons]
    show 6 + _ = _
    omega
section
variable {P : Program} {w : World} {K : PySem.W.Frag} {mg : Str → Option Value} {base : Heap}
def spSixO : Sp := fun vs H Q _ => ∃ z : Str, vs = [.str z] ∧ z.length ≤ 1000 ∧ (∀ o, sdL z.cps.toList = some o → ∀ H' p, Same H H' → H p = none → H' p = some (.lst (iv o)) → Q (.ref p) H') ∧ (sdL z.cps.toList = none → ∀ H', Same H H' → Q .non H')
theorem scLawSixOctets : FnScope ["_law_inner", "_law_letters", "_law_bare", "_law_bits", "_law_one", "_law_found", "_law_at", "_law_number", "_law_bit", "_law_part"] ["_law_inner"] (defScope sLawSixOctets) := ⟨rfl, rfl, rfl, by decide +kernel, rfl, by decide +kernel, by decide +kernel⟩
theorem r_six_octets (A : FnAt K mg "_law_six_octets" sLawSixOctets) (m_len : mg "len" = none) (m_range : mg "range" = none) : Ready P w K mg base 1 "_law_six_octets" ["_law_inner"] spSixO := by
  refine ready_of A (fun _ _ _ _ _ _ us hl => match us, hl with | [_], _ => rfl) fun f fd F => ?_
  refine F.ok scLawSixOctets (fun vs H Q E h => ?_) (fun cdv A outer s H vs Q E hr h => ?_)
  · obtain ⟨z, rfl, _⟩ := h
    rfl
  · obtain ⟨z, rfl, hz, qs, qn⟩ := h
    have sc := scLawSixOctets
    refine ⟨_, pss_cons (ps_set (i := 1) sc.nd rfl (.inr rfl) pe_str)
      (pss_cons (ps_set (i := 2) sc.nd rfl (.inl rfl) (pe_bm PySem.F.plainAttrs_str PySem.F.slot_str_rstrip PySem.F.type_str_rstrip mt_rstripChars (pv 0) (pa_cons pe_str pa_nil)))
      (pss_cons (ps_set (i := 3) sc.nd rfl (.inl rfl) (pe_lst pa_nil))
      (pss_cons (ps_for PassesOwn.never rfl (pi_str (pv 2)) (pg_name (i := 4) sc.nd rfl (.inr rfl))
        (pss_cons (ps_if (pt_cmpR op_notIn_sign (pv 4) (pv 1) (by rfl))
            (pss_one (ps_ret pe_non))
            pss_nil)
          (pss_one (ps_expr (pe_bm PySem.F.plainAttrs_list PySem.F.slot_list_extend PySem.F.type_list_extend mt_extend (pv 3) (pa_cons (pe_lc (own := [("_law_part", 9)]) (g := gName 9) (tt := tYes) (te := (tOp _ (tOp _ (tBM K "str" (fun x xs H Q => ∃ a b i rest, x = .str a ∧ xs = [.str b] ∧ Builtin.Str.occurrences a b 0 a.length 1 = i :: rest ∧ Q (.int (i : Nat)) H) (tVar 1) (tCons (tVar 4) tNil)) (tVar 9)) (tC (.int 2)))) (by rfl) sc.nd (pi_list (pe_lst (pa_cons pe_int (pa_cons pe_int (pa_cons pe_int (pa_cons pe_int (pa_cons pe_int (pa_cons pe_int pa_nil)))))))) (blkOk_by (own := [("_law_part", 9)]) (N := ["_law_inner", "_law_letters", "_law_bare", "_law_bits", "_law_one", "_law_found", "_law_at", "_law_number", "_law_bit", "_law_part"]) (sc := defScope sLawSixOctets) (by decide +kernel)) (fun _ _ _ _ _ => (pg_name (i := 9) sc.nd rfl (.inl rfl))) (fun _ _ _ _ _ => pts_nil) (fun _ _ _ _ _ => (pe_op op_mod (pe_op op_fdiv (pe_bm PySem.F.plainAttrs_str PySem.F.slot_str_index PySem.F.type_str_index mt_sindex (pv 1) (pa_cons (pv 4) pa_nil)) (pv 9)) pe_int))) pa_nil))))))
      (pss_cons (ps_set (i := 5) sc.nd rfl (.inl rfl) (pe_lst pa_nil))
      (pss_cons (ps_for PassesOwn.never rfl (pi_range3 (by rfl) m_range (pa_cons pe_int (pa_cons (pe_op op_mul (pe_op op_fdiv (pe_callB call_len_seq (by rfl) m_len PySem.boot_len (pa_cons (pv 3) pa_nil)) pe_int) pe_int) (pa_cons pe_int pa_nil)))) (pg_name (i := 6) sc.nd rfl (.inl rfl))
        (pss_cons (ps_set (i := 7) sc.nd rfl (.inl rfl) pe_int)
          (pss_cons (ps_for PassesOwn.never rfl (pi_list (pe_slice sl_list (pv 3) (po_some (pv 6)) (po_some (pe_op op_add (pv 6) pe_int)))) (pg_name (i := 8) sc.nd rfl (.inl rfl))
            (pss_one (ps_set (i := 7) sc.nd rfl (.inl rfl) (pe_op op_add (pe_op op_mul pe_int (pv 7)) (pv 8)))))
          (pss_one (ps_expr (pe_bm PySem.F.plainAttrs_list PySem.F.slot_list_append PySem.F.type_list_append mt_append (pv 5) (pa_cons (pv 7) pa_nil)))))))
      (pss_one (ps_ret (pv 5)))))))), ?_⟩
    have hzl := len_cps z
    have hbare : Txt.rstripChars z ("=" : Str) = mk (rstE z.cps.toList) := mk_eq (rstripE_codes z)
    have hbl := rstE_len z.cps.toList
    refine ⟨_, rfl, rfl, _, _, rfl, rfl, by rw [sizeLine_eq]; omega, ?_⟩
    rw [hbare]
    unfold sdL at qs qn
    generalize rstE z.cps.toList = B at hbl qs qn
    refine ⟨by decide, fun bp nbp => ?_⟩
    have s1 : Same H (upd H bp (.lst [])) := same_new nbp
    have hbp : (upd H bp (.lst [])) bp = some (.lst (iv [])) := upd_same
    generalize upd H bp (.lst []) = H1 at s1 hbp ⊢
    refine ⟨_, rfl, mk B, rfl, ?_⟩
    refine for_it walk_str (fun i σ H' => ∃ y4 y9, σ = [some (.str z), some (.str SIXS), some (.str (mk B)), some (.ref bp), y4, none, none, none, none, y9] ∧ Same H H' ∧ H' bp = some (.lst (iv (bitsS (B.take i)))) ∧ ∀ c ∈ B.take i, c ∈ SIXS.cps.toList)
      ⟨none, none, rfl, s1, hbp, fun c hc => by cases hc⟩ (fun _ _ _ _ _ => trivial) (fun i x σ H2 H3 hi hp hy => ?_) (fun σ H2 hp => ?_)
    · obtain ⟨y4, y9, rfl, sm, hd, hin⟩ := hp
      obtain ⟨rfl, c, hc, rfl⟩ := hy
      have hc' := cps_at hc
      rw [mk_codes] at hc'
      refine ⟨_, rfl, _, rfl, c, SIXS, rfl, rfl, _, rfl, ?_⟩
      by_cases hcs : c ∈ SIXS.cps.toList
      · rw [decide_eq_true hcs]
        refine iteF ⟨_, rfl, .inl ⟨rfl, _, SqL.of hd⟩, (by show 6 ≤ sizeLine; decide), fun pl npl => ?_⟩
        have s2 : Same H3 (upd H3 pl (.lst (P6.map fun p => V.int (p : Nat)))) := same_new npl
        have hpl : (upd H3 pl (.lst (P6.map fun p => V.int (p : Nat)))) pl = some (.lst (P6.map fun p => V.int (p : Nat))) := upd_same
        have e6 : [V.int 32, V.int 16, V.int 8, V.int 4, V.int 2, V.int 1] = P6.map fun p => V.int (p : Nat) := rfl
        rw [e6]
        generalize upd H3 pl (.lst (P6.map fun p => V.int (p : Nat))) = H4 at s2 hpl ⊢
        refine ⟨pl, rfl, ⟨_, SqL.of hpl⟩, fun D nD => ?_⟩
        have hd4 := s2 _ _ hd
        refine lc_it (walk_list (K := K) (a := pl) (xs := P6.map fun p => V.int (p : Nat))) (fun j H' => Same H4 H' ∧ H' D = some (.lst (iv ((bits6 (sixIx c)).take j)))) ⟨same_new nD, upd_same⟩ (fun j H' _ pp => SqL.of (pp.1 _ _ hpl)) (fun j x H5 H6 hj hq hy => ?_) (fun H5 hq => ?_)
        · obtain ⟨rfl, hx⟩ := hy
          obtain ⟨s5, hD⟩ := hq
          obtain ⟨p6, hp6⟩ : ∃ p, P6[j]? = some p := ⟨_, List.getElem?_eq_getElem (by simpa using hj)⟩
          have hpos := P6_pos p6 (List.mem_of_getElem? hp6)
          rw [List.getElem?_map, hp6] at hx
          injection hx with hx
          subst hx
          have hb : (bits6 (sixIx c))[j]? = some (sixIx c / p6 % 2) := by rw [bits6_eq, List.getElem?_map, hp6]; rfl
          obtain ⟨rest, hocc⟩ := occ_six hcs
          refine ⟨rfl, ?_⟩
          unfold tYes
          refine iteT ?_
          refine ⟨_, rfl, rfl, _, rfl, SIXS, _, _, rest, rfl, rfl, hocc, ?_⟩
          refine ⟨_, rfl, _, _, rfl, rfl, ⟨by omega, by omega⟩, _, _, rfl, rfl, (by show (0 : Int) < 2; decide), _, hD, ?_, same_set s5 nD, ?_⟩
          · rw [iv_len]
            refine szl ?_
            have h6 : (bits6 (sixIx c)).length = 6 := rfl
            have := List.length_take_le' j (bits6 (sixIx c))
            omega
          · rw [upd_same, take_more hb, iv_app]
            rfl
        · obtain ⟨s5, hD⟩ := hq
          have e6l : (bits6 (sixIx c)).take (P6.map fun p => V.int (p : Nat)).length = bits6 (sixIx c) := rfl
          rw [e6l] at hD
          refine ⟨bp, D, _, _, rfl, rfl, s5 _ _ hd4, hD, ?_, _, _, rfl, ?_, ?_, ?_⟩
          · rw [iv_len, iv_len, bitsS_len, sizeLine_eq]
            have : (B.take i).length ≤ B.length := List.length_take_le' _ _
            show _ + 6 ≤ _
            omega
          · exact (sm.trans s2).trans s5 |> fun k => same_set k (by
              cases hh : H bp with
              | none => rfl
              | some o => rw [hh] at nbp; cases nbp)
          · rw [upd_same, ← iv_app, take_more hc']
            unfold bitsS
            rw [List.flatMap_append]
            rfl
          · intro d hd2
            rw [take_more hc'] at hd2
            rcases List.mem_append.mp hd2 with hd2 | hd2
            · exact hin d hd2
            · rw [List.mem_singleton.mp hd2]
              exact hcs
      · rw [decide_eq_false hcs]
        refine iteT (qn ?_ _ sm)
        rw [if_neg]
        intro hall
        exact hcs (of_decide_eq_true (List.all_eq_true.mp hall c (List.mem_of_getElem? hc')))
    · obtain ⟨y4, y9, rfl, sm, hd, hin⟩ := hp
      have eB : B.take (mk B).cps.size = B := List.take_of_length_le (by show _ ≤ (mk B).length; rw [mk_len]; exact Nat.le_refl _)
      rw [eB] at hd hin
      have hall : (B.all fun c => decide (c ∈ SIXS.cps.toList)) = true := List.all_eq_true.mpr fun c hc => decide_eq_true (hin c hc)
      have hqs := qs _ (if_pos hall)
      have hlen := bitsS_len B
      have hol := oct8_len (bitsS B)
      have hat8 := oct8_at (bitsS B)
      generalize bitsS B = T at hd hqs hlen hol hat8
      refine ⟨by decide, fun fp nfp => ?_⟩
      have t1 : Same H2 (upd H2 fp (.lst [])) := same_new nfp
      have hfp : (upd H2 fp (.lst [])) fp = some (.lst (iv [])) := upd_same
      have nfp0 : H fp = none := Same.free sm nfp
      generalize upd H2 fp (.lst []) = H3 at t1 hfp ⊢
      have hd3 := t1 _ _ hd
      obtain ⟨k, hk⟩ : ∃ k, k = T.length / 8 := ⟨_, rfl⟩
      have hk2 : ((((iv T).length : Nat) : Int) / 8) * 8 = ((8 * k : Nat) : Int) := by rw [iv_len, hk]; omega
      have hrg := rg_up (L := 8 * k) (c := 8) (by omega) (by decide) (by decide)
      rw [show (8 * k + 8 - 1) / 8 = k by omega] at hrg
      refine ⟨_, rfl, bp, _, rfl, .inl (SqL.of hd3), _, _, rfl, rfl, ⟨by decide, by decide⟩, _, _, rfl, rfl, .inr ⟨by decide, by decide⟩, 0, ((8 * k : Nat) : Int), 8, k, ?_, hrg, ?_⟩
      · rw [← hk2]
      refine for_it (walk_rangeC (lo := 0) (c := 8) (n := k)) (fun i σ H' => ∃ (y6 y7 y8 : Option V), σ = [some (.str z), some (.str SIXS), some (.str (mk B)), some (.ref bp), y4, some (.ref fp), y6, y7, y8, y9] ∧ Same H2 H' ∧ H' fp = some (.lst (iv ((oct8 T).take i)))) ⟨none, none, none, rfl, t1, hfp⟩ (fun _ _ _ _ _ => trivial) (fun i x σ H4 H5 hi hp hy => ?_) (fun σ H4 hp => ?_)
      · obtain ⟨y6, y7, y8, rfl, s4, hf4⟩ := hp
        obtain ⟨rfl, hx⟩ := hy
        have hx' : x = .int ((8 * i : Nat) : Int) := by
          rw [hx]
          exact congrArg V.int (by omega)
        subst hx'
        have hd4 := s4 _ _ hd
        refine ⟨_, rfl, _, rfl, _, rfl, _, rfl, _, _, rfl, rfl, _, rfl, bp, _, rfl, SqL.of hd4, fun p1 n1 => ?_⟩
        have ec : cutV (iv T) (some ((8 * i : Nat) : Int)) (some (((8 * i : Nat) : Int) + 8)) = iv ((T.drop (8 * i)).take 8) := by
          rw [show (((8 * i : Nat) : Int) + 8) = ((8 * i + 8 : Nat) : Int) by omega, cutV_iv, show 8 * i + 8 - 8 * i = 8 by omega]
        rw [ec]
        have hseg := hat8 i (by omega)
        generalize (T.drop (8 * i)).take 8 = S at hseg ⊢
        have s5 : Same H5 (upd H5 p1 (.lst (iv S))) := same_new n1
        have hp1 : (upd H5 p1 (.lst (iv S))) p1 = some (.lst (iv S)) := upd_same
        generalize upd H5 p1 (.lst (iv S)) = HZ at s5 hp1 ⊢
        have hf5 := s5 _ _ hf4
        refine ⟨p1, rfl, ⟨_, SqL.of hp1⟩, ?_⟩
        refine for_it (walk_list (K := K) (a := p1) (xs := iv S)) (fun j σ H' => ∃ (y8 : Option V), σ = [some (.str z), some (.str SIXS), some (.str (mk B)), some (.ref bp), y4, some (.ref fp), some (.int ((8 * i : Nat) : Int)), some (.int ((numB (S.take j) : Nat) : Int)), y8, y9] ∧ H' = HZ) ⟨y8, rfl, rfl⟩ (fun j σ H' _ hq => ?_) (fun j x σ H6 H7 hj hq hy => ?_) (fun σ H6 hq => ?_)
        · obtain ⟨y8, rfl, rfl⟩ := hq
          exact SqL.of hp1
        · obtain ⟨y8, rfl, rfl⟩ := hq
          obtain ⟨rfl, hx⟩ := hy
          rw [iv_len] at hj
          have hb := List.getElem?_eq_getElem hj
          generalize S[j] = b at hb
          rw [iv_at hb] at hx
          injection hx with hx
          subst hx
          refine ⟨_, rfl, _, _, rfl, rfl, .inl ⟨by decide, by decide⟩, _, rfl, _, _, rfl, rfl, some (.int (b : Nat)), ?_, rfl⟩
          rw [take_more hb]
          unfold numB
          rw [List.foldl_append]
          rfl
        · obtain ⟨y8, rfl, rfl⟩ := hq
          rw [iv_len, List.take_length]
          have hole : ((oct8 T).take i).length ≤ 10000 := by
            have := List.length_take_le' i (oct8 T)
            omega
          refine ⟨_, rfl, .inl ⟨rfl, _, SqL.of hf5⟩, _, rfl, fp, _, _, rfl, rfl, hf5, by rw [iv_len]; exact szl (by omega), _, _, _, rfl, same_set (s4.trans s5) nfp, ?_⟩
          rw [upd_same, take_more hseg, iv_app]
          rfl
      · obtain ⟨y6, y7, y8, rfl, s4, hf4⟩ := hp
        have e : (oct8 T).take k = oct8 T := List.take_of_length_le (by omega)
        rw [e] at hf4
        exact ⟨_, rfl, hqs H4 fp (sm.trans s4) nfp0 hf4⟩
end
end FL

namespace FL
open PySem PySem.Spec PyProof.Rows L2
def figB (c : Nat) : Bool := match hexU c with
  | some x => decide (c ∈ SXTN.cps.toList) && decide ((SXTN.cps.toList.takeWhile fun y => !decide (y = c)).length = x)
  | none => true
theorem figB_all : ∀ c, c < 127 → figB c = true := by decide +kernel
theorem figs_some0 (c : Nat) (hc : c < 127) (x : Nat) (h : hexU c = some x) : c ∈ SXTN.cps.toList ∧ (SXTN.cps.toList.takeWhile fun y => !decide (y = c)).length = x := by
  have := figB_all c hc
  unfold figB at this
  rw [h] at this
  have := Bool.and_eq_true_iff.mp this
  exact ⟨of_decide_eq_true this.1, of_decide_eq_true this.2⟩
theorem figs_none0 : ∀ c, c < 127 → hexU c = none → ¬ c ∈ SXTN.cps.toList := by decide +kernel
theorem figs_some {c x : Nat} (hc : c < 127) (h : hexU c = some x) : c ∈ SXTN.cps.toList ∧ (SXTN.cps.toList.takeWhile fun y => !decide (y = c)).length = x := figs_some0 c hc x h
theorem figs_none {c : Nat} (hc : c < 127) (h : hexU c = none) : ¬ c ∈ SXTN.cps.toList := figs_none0 c hc h
theorem mdR_bad {ps : List (List Nat)} {p : List Nat} (hp : p ∈ ps) (h : mdP p = none) : mdR ps = none := by
  induction ps with
  | nil => cases hp
  | cons q r ih =>
    rw [mdR]
    rcases List.mem_cons.mp hp with rfl | hp
    · rw [h]
    · rw [ih hp]
      cases mdP q <;> rfl
theorem mdR_snoc {ps : List (List Nat)} {p t a : List Nat} (h : mdR ps = some t) (hp : mdP p = some a) : mdR (ps ++ [p]) = some (t ++ a) := by
  induction ps generalizing t with
  | nil =>
    injection h with h
    subst h
    rw [List.nil_append, mdR, hp, mdR]
    show some (a ++ []) = some ([] ++ a)
    rw [List.append_nil]
    rfl
  | cons q r ih =>
    rw [mdR] at h
    cases h1 : mdP q with
    | none =>
      rw [h1] at h
      cases h
    | some b =>
      cases h2 : mdR r with
      | none =>
        rw [h1, h2] at h
        cases h
      | some d =>
        rw [h1, h2] at h
        injection h with h
        rw [List.cons_append, mdR, h1, ih h2]
        show some (b ++ (d ++ a)) = some (t ++ a)
        rw [← h, List.append_assoc]
theorem TL_mem_len {p : List Nat} : ∀ {ps : List (List Nat)}, p ∈ ps → p.length ≤ (TL.joinL [61] ps).length
  | [q], h => by
    rw [List.mem_singleton.mp h]
    exact Nat.le_refl _
  | q :: r :: ps, h => by
    show _ ≤ (q ++ ([61] ++ TL.joinL [61] (r :: ps))).length
    rw [List.length_append, List.length_append]
    rcases List.mem_cons.mp h with rfl | h
    · omega
    · have := TL_mem_len h
      omega
theorem TL_cnt : ∀ ps : List (List Nat), ps.length ≤ (TL.joinL [61] ps).length + 1
  | [] => by simp
  | [q] => by simp
  | q :: r :: ps => by
    have := TL_cnt (r :: ps)
    show _ ≤ (q ++ ([61] ++ TL.joinL [61] (r :: ps))).length + 1
    rw [List.length_append, List.length_append, List.length_cons]
    simp only [List.length_singleton]
    omega
theorem cutS_fr14 (z : Str) {p : Nat} (h : p ≤ z.length) : (cutS z (some (p : Nat)) none).cps.toList = z.cps.toList.drop p := by
  unfold cutS
  rw [HT.sIx_none, HT.sIx_nat, Nat.min_eq_left h]
  show (List.take _ (List.drop p _)) = _
  exact List.take_of_length_le (by rw [List.length_drop, len_cps]; omega)
theorem item_ok {q : List Nat} {j c : Nat} (h : q[j]? = some c) : (mk q).cps[((j : Nat) : Int).toNat]? = some c := by
  rw [Int.toNat_natCast, ← Array.getElem?_toList]
  show (mk q).cps.toList[j]? = some c
  rw [mk_codes]
  exact h
/-- so far read: the parts ahead of i -/
def sofar (h : List Nat) (ps : List (List Nat)) (acc : List Nat) : Nat → Prop
  | 0 => acc = []
  | j + 1 => ∃ t, mdR (ps.take j) = some t ∧ acc = plain95 h ++ t
section
variable {P : Program} {w : World} {K : PySem.W.Frag} {mg : Str → Option Value} {base : Heap}
def spMarkO : Sp := fun vs H Q _ => ∃ z : Str, vs = [.str z] ∧ z.length ≤ 1000 ∧ (∀ c ∈ z.cps.toList, numb c = true) ∧ (∀ o, mdL z.cps.toList = some o → ∀ H' p, Same H H' → H p = none → H' p = some (.lst (iv o)) → Q (.ref p) H') ∧ (mdL z.cps.toList = none → ∀ H', Same H H' → Q .non H')
theorem scLawMarkOctets : FnScope ["_law_inner", "_law_signs", "_law_figures", "_law_found", "_law_parts", "_law_k", "_law_part", "_law_one"] ["_law_inner"] (defScope sLawMarkOctets) := ⟨rfl, rfl, rfl, by decide +kernel, rfl, by decide +kernel, by decide +kernel⟩
theorem r_mark_octets (A : FnAt K mg "_law_mark_octets" sLawMarkOctets) (m_enumerate : mg "enumerate" = none) (m_int : mg "int" = none) (m_len : mg "len" = none) : Ready P w K mg base 1 "_law_mark_octets" ["_law_inner"] spMarkO := by
  refine ready_of A (fun _ _ _ _ _ _ us hl => match us, hl with | [_], _ => rfl) fun f fd F => ?_
  refine F.ok scLawMarkOctets (fun vs H Q E h => ?_) (fun cdv A outer s H vs Q E hr h => ?_)
  · obtain ⟨z, rfl, _⟩ := h
    rfl
  · obtain ⟨z, rfl, hz, hn, qs, qn⟩ := h
    have sc := scLawMarkOctets
    refine ⟨_, pss_cons (ps_set (i := 1) sc.nd rfl (.inr rfl) pe_str)
      (pss_cons (ps_set (i := 2) sc.nd rfl (.inl rfl) pe_str)
      (pss_cons (ps_set (i := 3) sc.nd rfl (.inl rfl) (pe_lst pa_nil))
      (pss_cons (ps_set (i := 4) sc.nd rfl (.inl rfl) (pe_split (pv 0) pe_str))
      (pss_cons (ps_for PassesOwn.never rfl (pi_enum (by rfl) m_enumerate (pa_cons (pv 4) pa_nil)) (pg_tup rfl (pgs_cons (pg_name (i := 5) sc.nd rfl (.inl rfl)) (pgs_cons (pg_name (i := 6) sc.nd rfl (.inl rfl)) pgs_nil)))
        (pss_cons (ps_if (pt_cmpR op_gt (pv 5) pe_int (nomark _))
            (pss_cons (ps_if (PW.pt (pw_or (pt_cmpR op_lt (pe_callB call_len_str (by rfl) m_len PySem.boot_len (pa_cons (pv 6) pa_nil)) pe_int (nomark _)) (pw_or (pt_cmpR op_notIn_sign (pe_item_str (pv 6) pe_int (fun _ _ => rfl)) (pv 2) (by rfl)) (pw_or1 (pt_cmpR op_notIn_sign (pe_item_str (pv 6) pe_int (fun _ _ => rfl)) (pv 2) (by rfl))))))
                (pss_one (ps_ret pe_non))
                pss_nil)
              (pss_cons (ps_expr (pe_bm PySem.F.plainAttrs_list PySem.F.slot_list_append PySem.F.type_list_append mt_append (pv 3) (pa_cons (pe_op op_add (pe_op op_mul pe_int (pe_bm PySem.F.plainAttrs_str PySem.F.slot_str_index PySem.F.type_str_index mt_sindex (pv 2) (pa_cons (pe_item_str (pv 6) pe_int (fun _ _ => rfl)) pa_nil))) (pe_bm PySem.F.plainAttrs_str PySem.F.slot_str_index PySem.F.type_str_index mt_sindex (pv 2) (pa_cons (pe_item_str (pv 6) pe_int (fun _ _ => rfl)) pa_nil))) pa_nil)))
              (pss_one (ps_set (i := 6) sc.nd rfl (.inl rfl) (pe_slice sl_str (pv 6) (po_some pe_int) po_none)))))
            pss_nil)
          (pss_one (ps_set (i := 3) sc.nd rfl (.inl rfl) (pe_op op_cat (pv 3) (pe_lc (own := [("_law_one", 7)]) (g := gName 7) (tt := tYes) (te := (tIf (tTest (tOp _ (tVar 7) (tC (.str ("_" : Str))))) (tC (.int 32)) (tOp _ (tOp _ (tC (.int 32)) (tBM K "str" (fun x xs H Q => ∃ a b i rest, x = .str a ∧ xs = [.str b] ∧ Builtin.Str.occurrences a b 0 a.length 1 = i :: rest ∧ Q (.int (i : Nat)) H) (tVar 1) (tCons (tVar 7) tNil))) (tCB _ (tCons (tOp _ (tVar 7) (tC (.str ("$" : Str)))) tNil))))) (by rfl) sc.nd (pi_str (pv 6)) (blkOk_by (own := [("_law_one", 7)]) (N := ["_law_inner", "_law_signs", "_law_figures", "_law_found", "_law_parts", "_law_k", "_law_part", "_law_one"]) (sc := defScope sLawMarkOctets) (by decide +kernel)) (fun _ _ _ _ _ => (pg_name (i := 7) sc.nd rfl (.inl rfl))) (fun _ _ _ _ _ => pts_nil) (fun _ _ _ _ _ => (pe_ifExp (pt_cmpR op_eq (pv 7) pe_str (nomark _)) pe_int (pe_op op_add (pe_op op_add pe_int (pe_bm PySem.F.plainAttrs_str PySem.F.slot_str_index PySem.F.type_str_index mt_sindex (pv 1) (pa_cons (pv 7) pa_nil))) (pe_callTy call_int1 (by rfl) m_int (by decide +kernel) (pa_cons (pe_cmpR op_gt_str (pv 7) pe_str (nomark _)) pa_nil)))))))))))
      (pss_one (ps_ret (pv 3))))))), ?_⟩
    have hzl := len_cps z
    obtain ⟨l, hl⟩ : ∃ l, l = z.cps.toList := ⟨_, rfl⟩
    have ez : z = mk l := by rw [hl, mk_of]
    rw [← hl] at hn qs qn hzl
    subst ez
    refine ⟨by decide, fun f0 nf0 => ?_⟩
    have s1 : Same H (upd H f0 (.lst [])) := same_new nf0
    have hf0 : (upd H f0 (.lst [])) f0 = some (.lst (iv [])) := upd_same
    generalize upd H f0 (.lst []) = H1 at s1 hf0 ⊢
    refine ⟨_, rfl, ⟨_, rfl⟩, _, _, rfl, rfl, rfl, by rw [sizeLine_eq]; omega, fun pp npp => ?_⟩
    rw [split_eq]
    have hjoin := congrArg List.length (spe_join l)
    have hno := spe_no l
    have hmem := spe_mem (l := l)
    unfold mdL at qs qn
    generalize (spe l).1 = h0 at hno hmem qs qn hjoin ⊢
    generalize (spe l).2 = rs at hno hmem qs qn hjoin ⊢
    have hX : ((h0 :: rs).map mk).map V.str = (h0 :: rs).map fun q => V.str (mk q) := by rw [List.map_map]; rfl
    rw [hX]
    have s2 : Same H1 (upd H1 pp (.lst ((h0 :: rs).map fun q => V.str (mk q)))) := same_new npp
    have hpp : (upd H1 pp (.lst ((h0 :: rs).map fun q => V.str (mk q)))) pp = some (.lst ((h0 :: rs).map fun q => V.str (mk q))) := upd_same
    generalize upd H1 pp (.lst ((h0 :: rs).map fun q => V.str (mk q))) = H2 at s2 hpp ⊢
    have hf2 := s2 _ _ hf0
    refine ⟨_, rfl, pp, _, rfl, SqL.of hpp, ?_⟩
    refine for_it (walk_enum (K := K) (a := pp) (xs := (h0 :: rs).map fun q => V.str (mk q))) (fun i σ H' => ∃ (fp : Addr) (acc : List Nat) (y5 y6 : Option V), σ = [some (.str (mk l)), some (.str LSIG), some (.str SXTN), some (.ref fp), some (.ref pp), y5, y6, none] ∧ Same H2 H' ∧ H' fp = some (.lst (iv acc)) ∧ sofar h0 rs acc i ∧ (0 < i → H2 fp = none) ∧ acc.length ≤ 1001 * i)
      ⟨f0, [], none, none, rfl, Same.refl H2, hf2, rfl, fun z => absurd z (Nat.lt_irrefl 0), by simp⟩ (fun i σ H' _ p => by obtain ⟨fp, acc, y5, y6, _, sm, _⟩ := p; exact SqL.of (sm _ _ hpp)) (fun i x σ H3 H4 hi hp hy => ?_) (fun σ H3 hp => ?_)
    · obtain ⟨fp, acc, y5, y6, rfl, sm, hfp, hso, hnf, hal⟩ := hp
      obtain ⟨T, xx, yy, rfl, nT, rfl, hxx, hyy⟩ := hy
      injection hxx with hxx
      subst hxx
      have hyy : ((h0 :: rs).map fun q => V.str (mk q))[i]? = some yy := hyy
      rw [List.length_map] at hi
      have hw := List.getElem?_eq_getElem hi
      have hwm := List.getElem_mem hi
      generalize (h0 :: rs)[i] = q0 at hw hwm
      rw [List.getElem?_map, hw] at hyy
      injection hyy with hyy
      subst hyy
      have hq0 : ∀ c ∈ q0, numb c = true := fun c hc => hn c (hmem q0 hwm c hc)
      have sT : Same H3 (upd H3 T (.tup [.int (i : Nat), .str (mk q0)])) := same_new nT
      have hT : (upd H3 T (.tup [.int (i : Nat), .str (mk q0)])) T = some (.tup [.int (i : Nat), .str (mk q0)]) := upd_same
      generalize upd H3 T (.tup [.int (i : Nat), .str (mk q0)]) = H4 at sT hT ⊢
      have sm4 := sm.trans sT
      have hfp4 := sT _ _ hfp
      refine ⟨T, _, rfl, SqT.of hT, rfl, _, _, rfl, _, _, rfl, rfl, _, rfl, _, _, rfl, rfl, _, rfl, ?_⟩
      -- the signs of a part, one behind the other
      have hlen0 : (mk q0).length ≤ 1000 := by
        rw [mk_len]
        have h1 : q0.length ≤ (TL.joinL [61] (h0 :: rs)).length := TL_mem_len hwm
        omega
      have keyA : i = 0 → sofar h0 rs (acc ++ plain95 q0) (i + 1) := fun e => by
        subst e
        have : q0 = h0 := by
          injection hw with hw
          exact hw.symm
        subst this
        have hso : acc = [] := hso
        subst hso
        exact ⟨[], rfl, by rw [List.append_nil]; rfl⟩
      have keyB : ∀ j, i = j + 1 → ∀ b, mdP q0 = some b → sofar h0 rs (acc ++ b) (i + 1) := fun j e b hb => by
        subst e
        obtain ⟨t, ht, rfl⟩ := hso
        have hr : rs[j]? = some q0 := hw
        refine ⟨t ++ b, ?_, by rw [List.append_assoc]⟩
        rw [take_more hr]
        exact mdR_snoc ht hb
      have keyN : ∀ j, i = j + 1 → mdP q0 = none → (match mdR rs with
          | some t => some (plain95 h0 ++ t)
          | none => none) = none := fun j e hb => by
        subst e
        have hr : rs[j]? = some q0 := hw
        rw [mdR_bad (List.mem_of_getElem? hr) hb]
      have hcnt := TL_cnt (h0 :: rs)
      have hi1 : i ≤ 1001 := by omega
      refine ite_key (fun σ' H' => ∃ w acc', σ' = [some (.str (mk l)), some (.str LSIG), some (.str SXTN), some (.ref fp), some (.ref pp), some (.int (i : Nat)), some (.str (mk w)), none] ∧ Same H2 H' ∧ H' fp = some (.lst (iv acc')) ∧ (∀ c ∈ w, numb c = true) ∧ w.length ≤ 1000 ∧ acc'.length ≤ 1001 * i + 1 ∧ sofar h0 rs (acc' ++ plain95 w) (i + 1) ∧ (acc' ++ plain95 w).length ≤ 1001 * (i + 1))
        (fun σ' σH hJ => ?_) (fun key hc => ?_) (fun hc => ?_)
      · obtain ⟨w', acc', rfl, sm5, hfp5, hw5, hwl, hal5, hso5, hal6⟩ := hJ
        refine ⟨_, rfl, _, rfl, mk w', rfl, fun D nD => ?_⟩
        have h95 : ("_" : Str) = ⟨#[95]⟩ := by decide +kernel
        refine lc_it walk_str (fun i H' => Same σH H' ∧ H' D = some (.lst (iv (plain95 (w'.take i))))) ⟨same_new nD, upd_same⟩ (fun _ _ _ _ => trivial) (fun i x H5 H6 hi hp hy => ?_) (fun H5 hp => ?_)
        · obtain ⟨rfl, c, hc, rfl⟩ := hy
          obtain ⟨sc5, hd⟩ := hp
          have hc' := cps_at hc
          rw [mk_codes] at hc'
          have hsz : (iv (plain95 (w'.take i))).length < sizeLine := by
            rw [iv_len]
            refine szl ?_
            have h1 : (plain95 (w'.take i)).length = (w'.take i).length := List.length_map ..
            have h2 := List.length_take_le' i w'
            omega
          have hstep : ∀ v, v = (if c = 95 then 32 else c) → iv (plain95 (w'.take i)) ++ [V.int ((v : Nat) : Int)] = iv (plain95 (w'.take (i + 1))) := fun v hv => by
            rw [take_more hc']
            unfold plain95
            rw [List.map_append, iv_app, hv]
            rfl
          refine ⟨rfl, ?_⟩
          unfold tYes
          refine iteT ?_
          refine ⟨_, rfl, rfl, _, rfl, ?_⟩
          rw [sign_is h95]
          by_cases h9 : c = 95
          · rw [decide_eq_true h9]
            refine iteT ⟨_, hd, hsz, same_set sc5 nD, ?_⟩
            rw [upd_same, ← hstep 32 (by rw [if_pos h9])]
            rfl
          · rw [decide_eq_false h9]
            have hnc := numb_iff.mp (hw5 c (List.mem_of_getElem? hc'))
            obtain ⟨hin, hv⟩ := lsig_ix c (by omega) (by omega) hnc.2.2
            obtain ⟨rest, hocc⟩ := occ_one hin
            refine iteF ⟨_, rfl, rfl, _, rfl, LSIG, _, _, rest, rfl, rfl, hocc, ?_⟩
            refine ⟨_, _, rfl, rfl, _, rfl, _, _, rfl, rfl, .inr ⟨_, rfl, ?_⟩⟩
            have hgt : decide ((("$" : Str)).cps.toList < (⟨#[c]⟩ : Str).cps.toList) = decide (37 < c) := by
              have e : ("$" : Str).cps.toList = [36] := by decide +kernel
              rw [e]
              show decide ([36] < [c]) = decide (37 < c)
              refine decide_eq_decide.mpr ?_
              rw [List.cons_lt_cons_iff]
              constructor
              · intro h
                rcases h with h | ⟨_, h⟩
                · omega
                · exact absurd h (by simp)
              · intro h
                exact .inl (by omega)
            rw [hgt]
            refine ⟨_, _, rfl, rfl, _, hd, hsz, same_set sc5 nD, ?_⟩
            rw [upd_same, ← hstep c (by rw [if_neg h9])]
            have e : (32 : Int) + ((((List.takeWhile (fun y => !decide (y = c)) LSIG.cps.toList).length : Nat) : Nat) : Int) + (if decide (37 < c) = true then 1 else 0) = ((c : Nat) : Int) := by
              by_cases h37 : 37 < c
              · rw [if_pos h37] at hv
                rw [decide_eq_true h37, if_pos rfl]
                omega
              · rw [if_neg h37] at hv
                rw [decide_eq_false h37, if_neg Bool.false_ne_true]
                omega
            show some (HO.lst (_ ++ [V.int _])) = some (HO.lst (_ ++ [V.int ((c : Nat) : Int)]))
            rw [← e]
        · obtain ⟨sc5, hd⟩ := hp
          have e : w'.take (mk w').cps.size = w' := List.take_of_length_le (by show _ ≤ (mk w').length; rw [mk_len]; exact Nat.le_refl _)
          rw [e] at hd
          have hpl : (plain95 w').length = w'.length := List.length_map ..
          have hbig : 1001 * i ≤ 1001 * 1001 := Nat.mul_le_mul_left 1001 hi1
          refine ⟨fp, D, _, _, rfl, rfl, sc5 _ _ hfp5, hd, by rw [iv_len, iv_len, sizeLine_eq]; omega, fun fq nfq => ?_⟩
          rw [← iv_app]
          have u5 := sm5.trans sc5
          exact ⟨fq, acc' ++ plain95 w', _, _, rfl, u5.trans (same_new nfq), upd_same, hso5, fun _ => Same.free u5 nfq, hal6⟩
      · have hi0 : 0 < i := by
          have := of_decide_eq_true hc
          omega
        obtain ⟨j, hj⟩ : ∃ j, i = j + 1 := ⟨i - 1, by omega⟩
        have nfp2 := hnf hi0
        have hbad : mdP q0 = none → Q .non H4 := fun e => qn (keyN j hj e) _ ((s1.trans s2).trans sm4)
        match q0, hbad, keyB j hj, hlen0, hq0 with
        | [], hbad, _, _, _ =>
          refine ⟨_, rfl, _, rfl, by decide, _, _, rfl, rfl, _, rfl, ?_⟩
          exact iteT (iteT (hbad rfl))
        | [a], hbad, _, _, _ =>
          refine ⟨_, rfl, _, rfl, (by rw [mk_len]; show 1 ≤ sizeLine; decide), _, _, rfl, rfl, _, rfl, ?_⟩
          rw [mk_len]
          exact iteT (iteT (hbad rfl))
        | a :: b :: r, hbad, hgood, hlen0, hq0 =>
          have hz0 : (mk (a :: b :: r)).length ≤ sizeLine := by rw [sizeLine_eq]; omega
          have hl2 : (mk (a :: b :: r)).length = r.length + 2 := by rw [mk_len]; rfl
          have ha := (numb_iff.mp (hq0 a (by simp))).2.1
          have hb := (numb_iff.mp (hq0 b (by simp))).2.1
          have ga : (mk (a :: b :: r)).cps[(0 : Int).toNat]? = some a := item_ok (j := 0) rfl
          have gb : (mk (a :: b :: r)).cps[(1 : Int).toNat]? = some b := item_ok (j := 1) rfl
          refine ⟨_, rfl, _, rfl, hz0, _, _, rfl, rfl, _, rfl, ?_⟩
          rw [decide_eq_false (by omega : ¬ (((mk (a :: b :: r)).length : Nat) : Int) < 2)]
          refine iteF ⟨_, rfl, _, 0, a, rfl, rfl, by decide, by decide, by omega, ga, _, rfl, a, SXTN, rfl, rfl, _, rfl, ?_⟩
          cases hxa : hexU a with
          | none =>
            rw [decide_eq_false (figs_none ha hxa)]
            exact iteT (iteT (hbad (by unfold mdP; dsimp only; rw [hxa])))
          | some x =>
            obtain ⟨ina, ixa⟩ := figs_some ha hxa
            rw [decide_eq_true ina]
            refine iteF ⟨_, rfl, _, 1, b, rfl, rfl, by decide, by decide, by omega, gb, _, rfl, b, SXTN, rfl, rfl, _, rfl, ?_⟩
            cases hxb : hexU b with
            | none =>
              rw [decide_eq_false (figs_none hb hxb)]
              exact iteT (hbad (by unfold mdP; dsimp only; rw [hxa, hxb]))
            | some y =>
              obtain ⟨inb, ixb⟩ := figs_some hb hxb
              rw [decide_eq_true inb]
              obtain ⟨resta, occa⟩ := occ_one ina
              obtain ⟨restb, occb⟩ := occ_one inb
              rw [ixa] at occa
              rw [ixb] at occb
              have hmd : mdP (a :: b :: r) = some ((16 * x + y) :: plain95 r) := by unfold mdP; dsimp only; rw [hxa, hxb]
              have hso5 := hgood _ hmd
              have hpl : (plain95 r).length = r.length := List.length_map ..
              refine iteF ⟨_, rfl, .inl ⟨rfl, _, SqL.of hfp4⟩, _, rfl, rfl, _, rfl, _, 0, a, rfl, rfl, by decide, by decide, by omega, ga, SXTN, _, _, resta, rfl, rfl, occa, _, _, rfl, rfl, .inl ⟨by decide, by decide⟩, _, rfl, rfl, _, rfl, _, 1, b, rfl, rfl, by decide, by decide, by omega, gb, SXTN, _, _, restb, rfl, rfl, occb, _, _, rfl, rfl, fp, _, _, rfl, rfl, hfp4, ?_, _, rfl, 2, rfl, _, rfl, hz0, ?_⟩
              · rw [iv_len]
                exact Nat.lt_of_le_of_lt hal (Nat.lt_of_le_of_lt (Nat.mul_le_mul_left 1001 hi1) (by decide))
              · refine key _ _ ⟨r, acc ++ [16 * x + y], ?_, same_set sm4 nfp2, ?_, fun c hc => hq0 c (by simp [hc]), by omega, by rw [List.length_append, List.length_singleton]; omega, ?_, ?_⟩
                · have ecut : cutS (mk (a :: b :: r)) (some 2) none = mk r := mk_eq (by
                    have h1 := cutS_fr14 (mk (a :: b :: r)) (p := 2) (by omega)
                    rw [mk_codes] at h1
                    exact h1)
                  rw [ecut]
                  rfl
                · rw [upd_same, iv_app]
                  rfl
                · rw [List.append_assoc]
                  exact hso5
                · rw [List.append_assoc, List.length_append, List.length_append, List.length_singleton, hpl]
                  omega
      · have hi0 : i = 0 := by
          have : ¬ (0 : Int) < ((i : Nat) : Int) := fun z => hc (decide_eq_true z)
          omega
        refine ⟨q0, acc, rfl, sm4, hfp4, hq0, by rw [mk_len] at hlen0; exact hlen0, by omega, keyA hi0, ?_⟩
        rw [mk_len] at hlen0
        have hpl : (plain95 q0).length = q0.length := List.length_map ..
        rw [List.length_append, hpl]
        omega
    · obtain ⟨fp, acc, y5, y6, rfl, sm, hfp, hso, hnf, hal⟩ := hp
      rw [List.length_map, List.length_cons] at hso
      obtain ⟨t, ht, rfl⟩ := hso
      rw [List.take_length] at ht
      rw [ht] at qs
      have hlp : 0 < ((h0 :: rs).map fun q => V.str (mk q)).length := by rw [List.length_map]; exact Nat.succ_pos _
      exact ⟨_, rfl, qs _ rfl H3 fp ((s1.trans s2).trans sm) (Same.free (s1.trans s2) (hnf hlp)) hfp⟩
end
end FL

namespace FL
open PySem PySem.Spec PyProof.Rows L2
/-! ### a call of what an expression gives: one of several defs -/
def tCallX (tf : TE) (S : Addr → Option Sp) (t : TA) : TE := fun σ H Q => tf σ H fun v H1 => ∃ f sp, v = .ref f ∧ S f = some sp ∧ t σ H1 fun vs H2 => sp vs H2 Q (fun _ _ _ => False)
theorem pe_callX {X : Cx} {k : Nat} {S : Addr → Option Sp} {fe e : Expr} {es : List Expr} {tf : TE} {t : TA} {pos : Pos} (A : ∀ f sp, S f = some sp → Held X.prog X.w X.K X.mg X.base k f sp) (hr : Room k X.A) (hf : PE X fe tf) (ha : PA X (e :: es) t)
    (he : starEach (e :: es) X.env = (false, eval e X.env) :: starEach es X.env := by rfl) (hpl : (backTo pos (starEach es X.env)).any (·.1) = false := by rfl)
    (hc : eval (.Call fe (e :: es) [] pos) X.env = (do callWith pos (← eval fe X.env) [] (backTo pos (starEach (e :: es) X.env)) (backToKw pos (keywordEach [] X.env))) := by rfl) :
    PE X (.Call fe (e :: es) [] pos) (tCallX tf S t) := by
  refine ⟨fun pins s σ H Q I h => ?_⟩
  refine Call_ (thn (hf.run pins s σ H _ I h) fun u s1 ⟨v, H1, I1, r1, q1⟩ => ?_) hc
  obtain ⟨f, sp, rfl, hS, ht⟩ := q1
  cases r1
  obtain ⟨fd, ps, F, hk, hb⟩ := (A f sp hS).ex
  refine PySem.W.callWith_K (h₀ := X.base) I.ok.mod.kin hk (thn (ha.run pos pins s1 σ H1 _ I1 ht) fun us s2 ⟨vs, H2, I2, r, q⟩ => ⟨I2.kIn, ?_⟩) he hpl
  exact run_fn (dvs := []) (ds := []) (E := fun _ _ _ => False) F hr hb .nil (fun _ _ _ _ _ _ _ z => z.elim) I2 r (by rw [List.append_nil]; exact q)
theorem oct8_few (l : List Nat) : (oct8 (bitsS l)).length ≤ l.length := by
  rw [oct8_len, bitsS_len]
  omega
theorem sdL_few {l o : List Nat} (h : sdL l = some o) : o.length ≤ l.length := by
  unfold sdL at h
  split at h
  · injection h with h
    rw [← h]
    exact Nat.le_trans (oct8_few _) (rstE_len l)
  · cases h
theorem mdP_few {p o : List Nat} (h : mdP p = some o) : o.length ≤ p.length := by
  match p, h with
  | [], h => cases h
  | [_], h => cases h
  | a :: b :: r, h =>
    unfold mdP at h
    dsimp only at h
    cases ha : hexU a with
    | none =>
      rw [ha] at h
      cases h
    | some x =>
      cases hb : hexU b with
      | none =>
        rw [ha, hb] at h
        cases h
      | some y =>
        rw [ha, hb] at h
        injection h with h
        rw [← h]
        have : (plain95 r).length = r.length := List.length_map ..
        simp only [List.length_cons]
        omega
theorem mdR_few : ∀ (ps : List (List Nat)) (o : List Nat), mdR ps = some o → o.length ≤ ps.flatten.length
  | [], o, h => by
    injection h with h
    rw [← h]
    exact Nat.le_refl _
  | p :: ps, o, h => by
    rw [mdR] at h
    cases h1 : mdP p with
    | none =>
      rw [h1] at h
      cases h
    | some a =>
      cases h2 : mdR ps with
      | none =>
        rw [h1, h2] at h
        cases h
      | some b =>
        rw [h1, h2] at h
        injection h with h
        rw [← h, List.length_append, List.flatten_cons, List.length_append]
        have := mdP_few h1
        have := mdR_few ps b h2
        omega
theorem join_flat (ps : List (List Nat)) : ps.flatten.length ≤ (TL.joinL [61] ps).length := by
  induction ps with
  | nil => exact Nat.le_refl _
  | cons p r ih =>
    cases r with
    | nil =>
      show ([p].flatten).length ≤ p.length
      simp
    | cons q r =>
      show _ ≤ (p ++ ([61] ++ TL.joinL [61] (q :: r))).length
      rw [List.flatten_cons, List.length_append, List.length_append, List.length_append]
      omega
theorem mdL_few {l o : List Nat} (h : mdL l = some o) : o.length ≤ l.length := by
  unfold mdL at h
  cases h1 : mdR (spe l).2 with
  | none =>
    rw [h1] at h
    cases h
  | some t =>
    rw [h1] at h
    injection h with h
    have h2 := mdR_few _ _ h1
    have h3 := join_flat ((spe l).1 :: (spe l).2)
    rw [← spe_join, List.flatten_cons, List.length_append] at h3
    have h4 : (plain95 (spe l).1).length = (spe l).1.length := List.length_map ..
    rw [← h, List.length_append]
    omega
/-- the suite's way of a word -/
def decO (f6 fM : Addr) : Addr → Option Sp := fun f => if f = f6 then some spSixO else if f = fM then some spMarkO else none
theorem sayO_sgn {o : List Nat} (hb : ∀ n ∈ o, n < 256) : sayO o = if (sgnL o o.length 0).2 = o.length then some (sgnL o o.length 0).1 else none := by
  obtain ⟨h1, h2⟩ := sgn_say hb o.length 0 (by omega) (Nat.zero_le _)
  unfold sayO
  rw [h2]
  by_cases h : (sgnL o o.length 0).2 < o.length
  · rw [if_pos h, if_neg (by omega)]
  · rw [if_neg h, if_pos (by omega)]
def Way.dec : Way → List Nat → Option (List Nat)
  | .s => sdL
  | .m => mdL
def Way.spO : Way → Sp
  | .s => spSixO
  | .m => spMarkO
theorem Way.spO_mk (y : Way) {z : Str} {H : Hp} {Q : VK} {E : XK} (hz : z.length ≤ 1000) (hn : ∀ c ∈ z.cps.toList, numb c = true) (qs : ∀ o, y.dec z.cps.toList = some o → ∀ H' p, Same H H' → H p = none → H' p = some (.lst (iv o)) → Q (.ref p) H') (qn : y.dec z.cps.toList = none → ∀ H', Same H H' → Q .non H') : y.spO [.str z] H Q E := by
  cases y with
  | s => exact ⟨z, rfl, hz, qs, qn⟩
  | m => exact ⟨z, rfl, hz, hn, qs, qn⟩
theorem Way.decO (y : Way) {f6 fM : Addr} (h : f6 ≠ fM) : FL.decO f6 fM (y.at f6 fM) = some y.spO := by
  unfold FL.decO
  cases y with
  | s => exact if_pos rfl
  | m => exact (if_neg (fun e : fM = f6 => h e.symm)).trans (if_pos rfl)
theorem Way.ok (y : Way) : WayOk y.c y.wr := by
  cases y with
  | s => exact .inl ⟨rfl, rfl⟩
  | m => exact .inr ⟨rfl, rfl⟩
theorem Way.dec_ok (y : Way) {l o : List Nat} (hl : ∀ c ∈ l, numb c = true) (h : y.dec l = some o) : (∀ n ∈ o, n < 256) ∧ o.length ≤ l.length := by
  cases y with
  | s => exact ⟨sdL_lt h, sdL_few h⟩
  | m => exact ⟨mdL_lt (fun c hc => by have := (numb_iff.mp (hl c hc)).2.1; omega) h, mdL_few h⟩
theorem Way.ix (y : Way) : y.c = 115 ∨ y.c = 109 := by cases y; exact .inl rfl; exact .inr rfl
theorem Way.ixM (y : Way) (f6 fM : Addr) : atI [V.ref f6, V.ref fM] (if decide (V.str (mk [y.c]) = V.str ("m" : Str)) = true then 1 else 0) = some (.ref (y.at f6 fM)) := by
  cases y with
  | s =>
    have hm : decide (V.str (mk [Way.s.c]) = V.str ("m" : Str)) = false := by decide +kernel
    rw [hm]
    rfl
  | m =>
    have hm : decide (V.str (mk [Way.m.c]) = V.str ("m" : Str)) = true := by decide +kernel
    rw [hm]
    rfl
theorem toldL_way (y : Way) {w : List Nat} (h0 : innerW w ≠ []) (hq : endsQ w = true) (h4 : w.take 4 = [61, 63, y.c, 63]) : toldL w = chkL (innerW w) y.dec y.wr := by
  unfold toldL
  rw [if_neg (fun e => e.elim h0 (fun z => by rw [hq] at z; cases z))]
  cases y with
  | s =>
    rw [if_pos (show w.take 4 = [61, 63, 115, 63] from h4)]
    rfl
  | m =>
    rw [if_neg (fun e => by rw [h4] at e; cases e), if_pos (show w.take 4 = [61, 63, 109, 63] from h4)]
    rfl
theorem word_back {w : List Nat} (h : 7 ≤ w.length) : w = w.take 4 ++ (innerW w ++ w.drop (w.length - 2)) := by
  have h1 : w.take (w.length - 2) = w.take 4 ++ innerW w := by
    unfold innerW
    have := List.take_append_drop 4 (w.take (w.length - 2))
    rw [List.take_take, Nat.min_eq_left (by omega)] at this
    exact this.symm
  rw [← List.append_assoc, ← h1, List.take_append_drop]
theorem cut_to4 (z : Str) (h : 4 ≤ z.length) : cutS z none (some 4) = mk (z.cps.toList.take 4) := mk_eq (cut_toX z (p := 4) h)
theorem cut_end2 (z : Str) (h : 2 ≤ z.length) : cutS z (some (-2)) none = mk (z.cps.toList.drop (z.length - 2)) := mk_eq (by
  unfold cutS
  have e1 : HT.sIx z.length 0 (some (-2)) = z.length - 2 := by
    show (if (-2 : Int) < 0 then ((-2 : Int) + (z.length : Int)).toNat else min (-2 : Int).toNat z.length) = _
    rw [if_pos (by decide)]
    omega
  rw [e1, HT.sIx_none]
  show (List.take _ (List.drop _ _)) = _
  rw [List.take_of_length_le (by rw [List.length_drop, len_cps]; exact Nat.le_refl _)])
section
variable {P : Program} {w : World} {K : PySem.W.Frag} {mg : Str → Option Value} {base : Heap}
def spToldS : Sp := fun vs H Q _ => ∃ z : Str, vs = [.str z] ∧ z.length ≤ 800 ∧ (∀ c ∈ z.cps.toList, numb c = true) ∧ (∀ s, toldL z.cps.toList = some s → ∀ H' p, Same H H' → H' p = some (.lst (iv s)) → Q (.ref p) H') ∧ (toldL z.cps.toList = none → ∀ H', Same H H' → Q .non H')
theorem scLawTold : FnScope ["_law_piece_here", "_law_way", "_law_inner", "_law_eights", "_law_row", "_law_behind"] ["_law_piece_here"] (defScope sLawTold) := ⟨rfl, rfl, rfl, by decide +kernel, rfl, by decide +kernel, by decide +kernel⟩
theorem r_law_told {f6 fM : Addr} (A : FnAt K mg "_law_told" sLawTold) (hne : f6 ≠ fM) (g6 : mg "_law_six_octets" = some (.ref f6)) (gM : mg "_law_mark_octets" = some (.ref fM)) (k6 : PySem.W.keepIn K (.ref f6) = true) (kM : PySem.W.keepIn K (.ref fM) = true) (GA : ∀ f sp, decO f6 fM f = some sp → Held P w K mg base 2 f sp)
    (R1 : Ready P w K mg base 2 "_law_word" ["_law_eights", "_law_way"] spLawWord) (R2 : Ready P w K mg base 2 "_law_signs_of" ["_law_eights"] spSignsOf) (m_len : mg "len" = none) (m_int : mg "int" = none) : Ready P w K mg base 3 "_law_told" ["_law_piece_here"] spToldS := by
  obtain ⟨f1, fd1, g1, k1, b1, G1⟩ := R1
  obtain ⟨f2, fd2, g2, k2, b2, G2⟩ := R2
  refine ready_of A (fun _ _ _ _ _ _ us hl => match us, hl with | [_], _ => rfl) fun f fd F => ?_
  refine F.ok scLawTold (fun vs H Q E h => ?_) (fun cdv A outer s H vs Q E hr h => ?_)
  · obtain ⟨z, rfl, _⟩ := h
    rfl
  · obtain ⟨z, rfl, hz, hn, qs, qn⟩ := h
    have sc := scLawTold
    refine ⟨_, pss_cons (ps_set (i := 1) sc.nd rfl (.inl rfl) (pe_slice sl_str (pv 0) (po_some pe_int) (po_some pe_int)))
      (pss_cons (ps_set (i := 2) sc.nd rfl (.inl rfl) (pe_slice sl_str (pv 0) (po_some pe_int) (po_some (pe_op op_sub (pe_callB call_len_str (by rfl) m_len PySem.boot_len (pa_cons (pv 0) pa_nil)) pe_int))))
      (pss_cons (ps_if (PW.pt (pw_or (pt_cmpR op_lt (pe_callB call_len_str (by rfl) m_len PySem.boot_len (pa_cons (pv 0) pa_nil)) pe_int (nomark _)) (pw_or (pt_cmpR op_notIn_seq (pv 1) (pe_lst (pa_cons pe_str (pa_cons pe_str pa_nil))) (by rfl)) (pw_or (pt_cmpR op_ne (pe_slice sl_str (pv 0) po_none (po_some pe_int)) (pe_op op_add_str (pe_op op_add_str pe_str (pv 1)) pe_str) (nomark _)) (pw_or1 (pt_cmpR op_ne (pe_slice sl_str (pv 0) (po_some (pe_un un_neg pe_int)) po_none) pe_str (nomark _)))))))
        (pss_one (ps_ret pe_non))
        pss_nil)
      (pss_cons (ps_set (i := 3) sc.nd rfl (.inl rfl) (pe_callX GA (hr.mono (by decide)) (pe_ix ix_list (pe_lst (pa_cons (pe_glob (v := .ref f6) rfl g6 rfl) (pa_cons (pe_glob (v := .ref fM) rfl gM rfl) pa_nil))) (pe_callTy call_int1 (by rfl) m_int (by decide +kernel) (pa_cons (pe_cmpR op_eq (pv 1) pe_str (nomark _)) pa_nil)) (fun _ _ => rfl)) (pa_cons (pv 2) pa_nil)))
      (pss_cons (ps_if (PW.pt (pw_or (pt_cmpR op_isN (pv 3) pe_non (nomark _)) (pw_or1 (pt_cmpR op_ne (pe_call G1 (hr.mono (by decide)) (by rfl) g1 k1 b1 .nil pass0 (pa_cons (pv 3) (pa_cons (pv 1) pa_nil))) (pv 0) (nomark _)))))
        (pss_one (ps_ret pe_non))
        pss_nil)
      (pss_cons (ps_asg (pe_call G2 (hr.mono (by decide)) (by rfl) g2 k2 b2 .nil pass0 (pa_cons (pv 3) pa_nil)) (pg_tup rfl (pgs_cons (pg_name (i := 4) sc.nd rfl (.inl rfl)) (pgs_cons (pg_name (i := 5) sc.nd rfl (.inl rfl)) pgs_nil))))
      (pss_one (ps_ret (pe_ifExp (pt_cmpR op_eq (pv 5) (pe_callB call_len_seq (by rfl) m_len PySem.boot_len (pa_cons (pv 3) pa_nil)) (nomark _)) (pv 4) pe_non)))))))), ?_⟩
    have hzl := len_cps z
    have hsz : z.length ≤ sizeLine := by rw [sizeLine_eq]; omega
    by_cases h7 : z.length < 7
    · have hnone : toldL z.cps.toList = none := by
        unfold toldL
        refine if_pos (.inl (List.eq_nil_of_length_eq_zero ?_))
        unfold innerW
        rw [List.length_drop, List.length_take]
        omega
      refine ⟨_, rfl, 2, rfl, 3, rfl, z, rfl, hsz, ?_⟩
      refine ⟨_, rfl, 4, rfl, _, rfl, z, rfl, hsz, _, _, rfl, rfl, _, rfl, z, rfl, hsz, ?_⟩
      refine ⟨_, rfl, z, rfl, hsz, _, _, rfl, rfl, _, rfl, ?_⟩
      rw [decide_eq_true (by omega : ((z.length : Nat) : Int) < 7)]
      exact iteT (iteT (qn hnone _ (Same.refl H)))
    · obtain ⟨c, hc⟩ : ∃ c, z.cps.toList[2]? = some c := ⟨_, List.getElem?_eq_getElem (by omega)⟩
      have hway : cutS z (some 2) (some 3) = mk [c] := mk_eq (by
        rw [show (2 : Int) = ((2 : Nat) : Int) from rfl, show (3 : Int) = ((3 : Nat) : Int) from rfl, cutS_nat z (by omega) (by omega), drop_at hc]
        rfl)
      have hinner : cutS z (some 4) (some (((z.length : Nat) : Int) - 2)) = mk (innerW z.cps.toList) := mk_eq (by
        rw [show (4 : Int) = ((4 : Nat) : Int) from rfl, show ((z.length : Nat) : Int) - 2 = ((z.length - 2 : Nat) : Int) by omega, cutS_nat z (by omega) (by omega)]
        unfold innerW
        rw [List.drop_take, hzl])
      have hin0 : innerW z.cps.toList ≠ [] := fun e => by
        have := congrArg List.length e
        unfold innerW at this
        rw [List.length_drop, List.length_take, List.length_nil] at this
        omega
      have hdrop4 : ∃ a b d, z.cps.toList.take 4 = [a, b, c, d] := by
        match hh : z.cps.toList with
        | a :: b :: c2 :: d :: r =>
          rw [hh] at hc
          injection hc with hc
          exact ⟨a, b, d, by rw [hc]; rfl⟩
        | [] => rw [hh] at hzl; simp at hzl; omega
        | [_] => rw [hh] at hzl; simp at hzl; omega
        | [_, _] => rw [hh] at hzl; simp at hzl; omega
        | [_, _, _] => rw [hh] at hzl; simp at hzl; omega
      refine ⟨_, rfl, 2, rfl, 3, rfl, z, rfl, hsz, ?_⟩
      rw [hway]
      refine ⟨_, rfl, 4, rfl, _, rfl, z, rfl, hsz, _, _, rfl, rfl, _, rfl, z, rfl, hsz, ?_⟩
      rw [show cutS z (some 4) (some ((fun i j : Int => i - j) ((z.length : Nat) : Int) 2)) = mk (innerW z.cps.toList) from hinner]
      refine ⟨_, rfl, z, rfl, hsz, _, _, rfl, rfl, _, rfl, ?_⟩
      rw [decide_eq_false (by omega : ¬ ((z.length : Nat) : Int) < 7)]
      refine iteF ⟨_, rfl, (by show 2 ≤ sizeLine; decide), fun pl npl => ?_⟩
      have s1 : Same H (upd H pl (.lst [.str "s", .str "m"])) := same_new npl
      have hpl : (upd H pl (.lst [.str "s", .str "m"])) pl = some (.lst [.str "s", .str "m"]) := upd_same
      generalize upd H pl (.lst [.str "s", .str "m"]) = H1 at s1 hpl ⊢
      refine ⟨pl, _, rfl, .inl (SqL.of hpl), rfl, rfl, _, rfl, ?_⟩
      have hS : ("s" : Str) = mk [115] := by decide +kernel
      have hM : ("m" : Str) = mk [109] := by decide +kernel
      by_cases hcc : c = 115 ∨ c = 109
      · obtain ⟨y, rfl⟩ : ∃ y : Way, c = y.c := by
          rcases hcc with rfl | rfl
          · exact ⟨.s, rfl⟩
          · exact ⟨.m, rfl⟩
        have hin : inV (V.str (mk [y.c])) [V.str "s", V.str "m"] = true := by cases y <;> decide +kernel
        rw [if_pos rfl, hin]
        have hadd : ("=?" : Str) ++ mk [y.c] ++ ("?" : Str) = mk [61, 63, y.c, 63] := by cases y <;> decide +kernel
        refine iteF ⟨_, rfl, 4, rfl, z, rfl, hsz, _, rfl, _, _, rfl, rfl, (by show 2 + 1 ≤ sizeLine; decide), _, _, rfl, rfl, (by show 3 + 1 ≤ sizeLine; decide), rfl, _, rfl, ?_⟩
        rw [hadd, cut_to4 z (by omega)]
        by_cases h4 : z.cps.toList.take 4 = [61, 63, y.c, 63]
        · rw [h4, decide_eq_true rfl]
          refine iteF ⟨_, rfl, 2, rfl, _, rfl, z, rfl, hsz, rfl, _, rfl, ?_⟩
          rw [show cutS z (some ((fun i : Int => -i) 2)) none = mk (z.cps.toList.drop (z.length - 2)) from cut_end2 z (by omega)]
          have hQE : ("?=" : Str) = mk [63, 61] := by decide +kernel
          by_cases hq : endsQ z.cps.toList = true
          · have hq2 := of_decide_eq_true (show decide (z.cps.toList.drop (z.cps.toList.length - 2) = [63, 61]) = true from hq)
            rw [hzl] at hq2
            rw [hq2, hQE, decide_eq_true rfl]
            have htl := toldL_way y hin0 hq h4
            have hinl := inner_len z.cps.toList
            have hinn : ∀ c ∈ innerW z.cps.toList, numb c = true := fun c hc => hn c (List.mem_of_mem_take (List.mem_of_mem_drop hc))
            refine iteF ⟨(by show 2 ≤ sizeLine; decide), fun ql nql => ?_⟩
            have s2 : Same H1 (upd H1 ql (.lst [.ref f6, .ref fM])) := same_new nql
            have hql : (upd H1 ql (.lst [.ref f6, .ref fM])) ql = some (.lst [.ref f6, .ref fM]) := upd_same
            generalize upd H1 ql (.lst [.ref f6, .ref fM]) = H2 at s2 hql ⊢
            have u2 := s1.trans s2
            have hix := y.ixM f6 fM
            refine ⟨_, rfl, rfl, .inr ⟨_, rfl, ?_⟩⟩
            refine ⟨ql, _, _, _, rfl, rfl, SqL.of hql, hix, y.at f6 fM, y.spO, rfl, y.decO hne, _, rfl, ?_⟩
            unfold tNil
            show y.spO [.str (mk (innerW z.cps.toList))] H2 _ _
            refine y.spO_mk (by rw [mk_len]; omega) (by rw [mk_codes]; exact hinn) (fun o ho H3 p t3 np hp => ?_) (fun ho H3 t3 => ?_)
            · rw [mk_codes] at ho
              obtain ⟨ho1, ho2⟩ := y.dec_ok hinn ho
              have hchk : toldL z.cps.toList = if y.wr o = innerW z.cps.toList then sayO o else none := by
                rw [htl]
                unfold chkL
                rw [ho]
              refine ⟨_, rfl, rfl, _, rfl, ?_⟩
              rw [decide_eq_false (show ¬ V.ref p = V.non from fun e => by cases e)]
              refine iteF ⟨_, rfl, _, rfl, p, o, y.c, y.wr, rfl, y.ok, hp, ho1, by omega, fun H4 t4 => ⟨_, rfl, rfl, _, rfl, ?_⟩⟩
              have u4 := u2.trans (t3.trans t4)
              have hback := word_back (w := z.cps.toList) (by omega)
              rw [h4, hzl, hq2] at hback
              by_cases hw : y.wr o = innerW z.cps.toList
              · rw [if_pos hw, sayO_sgn ho1] at hchk
                have heq : V.str (mk (wordC y.wr y.c o)) = V.str z := congrArg V.str (by
                  have e : wordC y.wr y.c o = z.cps.toList := by
                    unfold wordC
                    rw [hw]
                    refine Eq.trans ?_ hback.symm
                    simp
                  rw [e, mk_of])
                rw [decide_eq_true heq]
                refine iteF ⟨_, rfl, p, o, rfl, t4 _ _ hp, ⟨ho1, by omega⟩, fun H5 T fp t5 hT hfp => ?_⟩
                refine ⟨T, _, rfl, SqT.of hT, rfl, _, _, rfl, _, _, rfl, rfl, ?_⟩
                refine ⟨_, rfl, _, rfl, p, _, rfl, .inl (SqL.of (t5 _ _ (t4 _ _ hp))), rfl, _, rfl, ?_⟩
                rw [iv_len]
                by_cases hend : (sgnL o o.length 0).2 = o.length
                · rw [if_pos hend] at hchk
                  rw [decide_eq_true (congrArg V.int (by omega : (((sgnL o o.length 0).2 : Nat) : Int) = ((o.length : Nat) : Int)))]
                  exact iteT ⟨_, rfl, qs _ hchk H5 fp (u4.trans t5) hfp⟩
                · rw [if_neg hend] at hchk
                  rw [decide_eq_false (fun e => hend (by injection e with e; omega))]
                  exact iteF (qn hchk _ (u4.trans t5))
              · rw [if_neg hw] at hchk
                have hne2 : ¬ V.str (mk (wordC y.wr y.c o)) = V.str z := fun e => hw (by
                  have e2 := congrArg (fun t : Str => t.cps.toList) (V.str.inj e)
                  rw [mk_codes] at e2
                  have e3 : [61, 63, y.c, 63] ++ (y.wr o ++ [63, 61]) = [61, 63, y.c, 63] ++ (innerW z.cps.toList ++ [63, 61]) := by
                    rw [← hback, ← e2]
                    unfold wordC
                    simp
                  exact List.append_cancel_right (List.append_cancel_left e3))
                rw [decide_eq_false hne2]
                exact iteT (qn hchk _ u4)
            · rw [mk_codes] at ho
              have hnone : toldL z.cps.toList = none := by
                rw [htl]
                unfold chkL
                rw [ho]
              exact ⟨_, rfl, rfl, _, rfl, iteT (iteT (qn hnone _ (u2.trans t3)))⟩
          · have hnone : toldL z.cps.toList = none := by
              unfold toldL
              exact if_pos (.inr (eq_false_of_ne_true hq))
            have hq2 : ¬ V.str (mk (z.cps.toList.drop (z.length - 2))) = V.str ("?=" : Str) := fun e => hq (by
              have e2 := V.str.inj e
              rw [hQE] at e2
              have e3 := congrArg (fun t : Str => t.cps.toList) e2
              rw [mk_codes, mk_codes] at e3
              unfold endsQ
              rw [hzl]
              exact decide_eq_true e3)
            rw [decide_eq_false hq2]
            exact iteT (qn hnone _ s1)
        · have hnone : toldL z.cps.toList = none := by
            obtain ⟨a, b, d, h5⟩ := hdrop4
            unfold toldL
            split
            · rfl
            · have hno : ∀ k, z.cps.toList.take 4 ≠ [61, 63, k, 63] := fun k e => h4 (by
                rw [h5] at e ⊢
                injection e with e1 e
                injection e with e2 e
                injection e with e3 e
                rw [e1, e2, e])
              rw [if_neg (hno _), if_neg (hno _)]
          have hq2 : ¬ V.str (mk (z.cps.toList.take 4)) = V.str (mk [61, 63, y.c, 63]) := fun e => h4 (by
            have e2 := congrArg (fun t : Str => t.cps.toList) (V.str.inj e)
            rw [mk_codes, mk_codes] at e2
            exact e2)
          rw [decide_eq_false hq2]
          exact iteT (iteT (qn hnone _ s1))
      · have hnone : toldL z.cps.toList = none := by
          obtain ⟨a, b, d, h4⟩ := hdrop4
          unfold toldL
          split
          · rfl
          · rw [if_neg (fun e => hcc (.inl (by rw [h4] at e; injection e with _ e; injection e with _ e; injection e)))]
            rw [if_neg (fun e => hcc (.inr (by rw [h4] at e; injection e with _ e; injection e with _ e; injection e)))]
        have hnin : inV (V.str (mk [c])) [V.str "s", V.str "m"] = false := by
          rw [hS, hM]
          have n1 : ¬ mk [115] = mk [c] := fun e => hcc (.inl (by have := congrArg (fun t : Str => t.cps.toList) e; rw [mk_codes, mk_codes] at this; injection this with this; exact this.symm))
          have n2 : ¬ mk [109] = mk [c] := fun e => hcc (.inr (by have := congrArg (fun t : Str => t.cps.toList) e; rw [mk_codes, mk_codes] at this; injection this with this; exact this.symm))
          unfold inV
          simp [eqV, n1, n2]
        rw [if_pos rfl, hnin]
        exact iteT (iteT (qn hnone _ s1))
end
end FL

namespace FL
open PySem PySem.Spec PyProof.Rows L2
theorem numb_sig14 {l : List Nat} (h : ∀ c ∈ l, numb c = true) : allSig l = true := (Bool.and_eq_true_iff.mp (Nmb.isLn h)).1
theorem or_lift {c1 : Bool} {A S : Prop} {N : L2.St → Hp → Prop} {σ : L2.St} {H : Hp} (J : L2.St → Hp → Prop) (key : ∀ σ' H', J σ' H' → N σ' H') (h1 : (∀ σ' H', J σ' H' → N σ' H') → c1 = true → A) (h2 : (∀ σ' H', J σ' H' → N σ' H') → ¬ c1 = true → S) : if c1 = true then (if true = true then A else N σ H) else S := by
  by_cases h : c1 = true
  · rw [if_pos h, if_pos rfl]
    exact h1 key h
  · rw [if_neg h]
    exact h2 key h
theorem rep32 (k : Nat) : (List.replicate ((k : Nat) : Int).toNat [V.int (32 : Nat)]).flatten = iv (List.replicate k 32) := by
  rw [Int.toNat_natCast]
  induction k with
  | zero => rfl
  | succ n ih =>
    rw [List.replicate_succ, List.flatten_cons, ih, List.replicate_succ]
    rfl
def NonRef (v : V) (t : Bool) : Prop := (v = .non ∧ t = false) ∨ ∃ p, v = .ref p ∧ t = true
theorem lawD_end (t : Bool) (b : Nat) : lawD t b [] = List.replicate (b - 1) 32 := rfl
theorem lawD_nil (t : Bool) (b : Nat) (ps : List (List Nat)) : lawD t b ([] :: ps) = lawD t (b + 1) ps := by rw [lawD, if_pos rfl]
theorem lawD_cons {p : List Nat} (hp : p ≠ []) (t : Bool) (b : Nat) (ps : List (List Nat)) : lawD t b (p :: ps) = (if ((sayW p).isSome && t) = true then [] else List.replicate b 32) ++ ((match sayW p with
    | some x => x
    | none => p) ++ lawD (sayW p).isSome 1 ps) := by
  rw [lawD, if_neg hp]
  try (cases sayW p <;> rfl)
theorem spb_cnt : ∀ l : List Nat, ((spb l).1 :: (spb l).2).length ≤ l.length + 1
  | [] => Nat.le_refl _
  | c :: r => by
    have ih := spb_cnt r
    unfold spb
    by_cases h : c = 32
    · rw [if_pos h]
      simp only [List.length_cons] at ih ⊢
      omega
    · rw [if_neg h]
      simp only [List.length_cons] at ih ⊢
      omega
section
variable {P : Program} {w : World} {K : PySem.W.Frag} {mg : Str → Option Value} {base : Heap}
def spDecS : Sp := fun vs H Q _ => ∃ z : Str, vs = [.str z] ∧ z.length ≤ 10000 ∧ (∀ c ∈ z.cps.toList, numb c = true) ∧ (∀ q ∈ (spb z.cps.toList).1 :: (spb z.cps.toList).2, q.length ≤ 800) ∧ (decL z.cps.toList).length ≤ 10000 ∧ ∀ H' p, Same H H' → H p = none → H' p = some (.lst (iv (decL z.cps.toList))) → Q (.ref p) H'
theorem scLawDecoded : FnScope ["_law_line", "_law_found", "_law_last", "_law_blanks", "_law_piece_here", "_law_row"] ["_law_line"] (defScope sLawDecoded) := ⟨rfl, rfl, rfl, by decide +kernel, rfl, by decide +kernel, by decide +kernel⟩
theorem r_law_decoded (A : FnAt K mg "_law_decoded" sLawDecoded) (R1 : Ready P w K mg base 3 "_law_told" ["_law_piece_here"] spToldS) (R2 : Ready P w K mg base 1 "_law_numbers" ["_law_line"] spNumsM) : Ready P w K mg base 4 "_law_decoded" ["_law_line"] spDecS := by
  obtain ⟨f1, fd1, g1, k1, b1, G1⟩ := R1
  obtain ⟨f2, fd2, g2, k2, b2, G2⟩ := R2
  refine ready_of A (fun _ _ _ _ _ _ us hl => match us, hl with | [_], _ => rfl) fun f fd F => ?_
  refine F.ok scLawDecoded (fun vs H Q E h => ?_) (fun cdv A outer s H vs Q E hr h => ?_)
  · obtain ⟨z, rfl, _⟩ := h
    rfl
  · obtain ⟨z, rfl, hz, hn, hp8, hdl, q⟩ := h
    have sc := scLawDecoded
    refine ⟨_, pss_cons (ps_set (i := 1) sc.nd rfl (.inl rfl) (pe_lst pa_nil))
      (pss_cons (ps_set (i := 2) sc.nd rfl (.inl rfl) pe_non)
      (pss_cons (ps_set (i := 3) sc.nd rfl (.inl rfl) pe_int)
      (pss_cons (ps_for PassesOwn.never rfl (pi_list (pe_split (pv 0) pe_str)) (pg_name (i := 4) sc.nd rfl (.inl rfl))
        (pss_cons (ps_if (pt_cmpR op_ne (pv 4) pe_str (nomark _))
            (pss_cons (ps_set (i := 5) sc.nd rfl (.inl rfl) (pe_call G1 (hr.mono (by decide)) (by rfl) g1 k1 b1 .nil pass0 (pa_cons (pv 4) pa_nil)))
              (pss_cons (ps_if (PW.pt (pw_or (pt_cmpR op_isN (pv 5) pe_non (nomark _)) (pw_or1 (pt_cmpR op_isN (pv 2) pe_non (nomark _)))))
                (pss_one (ps_set (i := 1) sc.nd rfl (.inl rfl) (pe_op op_cat (pv 1) (pe_op op_rep (pe_lst (pa_cons pe_int pa_nil)) (pv 3)))))
                pss_nil)
              (pss_cons (ps_set (i := 2) sc.nd rfl (.inl rfl) (pv 5))
              (pss_cons (ps_set (i := 1) sc.nd rfl (.inl rfl) (pe_op op_cat (pv 1) (pe_ifExp (pt_cmpR op_notN (pv 5) pe_non (nomark _)) (pv 5) (pe_call G2 (hr.mono (by decide)) (by rfl) g2 k2 b2 .nil pass0 (pa_cons (pv 4) pa_nil)))))
              (pss_one (ps_set (i := 3) sc.nd rfl (.inl rfl) pe_int))))))
            pss_nil)
          (pss_one (ps_set (i := 3) sc.nd rfl (.inl rfl) (pe_op op_add (pv 3) pe_int)))))
      (pss_one (ps_ret (pe_op op_cat (pv 1) (pe_op op_rep (pe_lst (pa_cons pe_int pa_nil)) (pe_op op_sub (pv 3) pe_int)))))))), ?_⟩
    have hzl := len_cps z
    obtain ⟨l, hl⟩ : ∃ l, l = z.cps.toList := ⟨_, rfl⟩
    have ez : z = mk l := by rw [hl, mk_of]
    rw [← hl] at hn hp8 hdl q hzl
    subst ez
    refine ⟨by decide, fun f0 nf0 => ?_⟩
    have s1 : Same H (upd H f0 (.lst [])) := same_new nf0
    have hf0 : (upd H f0 (.lst [])) f0 = some (.lst (iv [])) := upd_same
    generalize upd H f0 (.lst []) = H1 at s1 hf0 ⊢
    refine ⟨_, rfl, ⟨_, rfl⟩, _, _, rfl, rfl, rfl, by rw [sizeLine_eq]; omega, fun pp npp => ?_⟩
    rw [split_sp]
    have hmem := spb_mem (l := l)
    have hcnt := spb_cnt l
    have hD := lawD_dec l
    rw [← hD] at hdl q
    generalize (spb l).1 :: (spb l).2 = ps at hmem hp8 hdl q hD hcnt ⊢
    have hX : (ps.map mk).map V.str = ps.map fun q => V.str (mk q) := by rw [List.map_map]; rfl
    rw [hX]
    have s2 : Same H1 (upd H1 pp (.lst (ps.map fun q => V.str (mk q)))) := same_new npp
    have hpp : (upd H1 pp (.lst (ps.map fun q => V.str (mk q)))) pp = some (.lst (ps.map fun q => V.str (mk q))) := upd_same
    generalize upd H1 pp (.lst (ps.map fun q => V.str (mk q))) = H2 at s2 hpp ⊢
    have hf2 := s2 _ _ hf0
    refine ⟨pp, rfl, ⟨_, SqL.of hpp⟩, ?_⟩
    refine for_it (walk_list (K := K) (a := pp) (xs := ps.map fun q => V.str (mk q))) (fun i σ H' => ∃ (fp : Addr) (acc : List Nat) (v : V) (t : Bool) (b : Nat) (y4 y5 : Option V), σ = [some (.str (mk l)), some (.ref fp), some v, some (.int (b : Nat)), y4, y5] ∧ Same H2 H' ∧ H' fp = some (.lst (iv acc)) ∧ NonRef v t ∧ b ≤ i ∧ acc ++ lawD t b (ps.drop i) = lawD false 0 ps)
      ⟨f0, [], .non, false, 0, none, none, rfl, Same.refl H2, hf2, .inl ⟨rfl, rfl⟩, Nat.le_refl _, rfl⟩ (fun i σ H' _ p => by obtain ⟨fp, acc, v, t, b, y4, y5, _, sm, _⟩ := p; exact SqL.of (sm _ _ hpp)) (fun i x σ H3 H4 hi hp hy => ?_) (fun σ H3 hp => ?_)
    · obtain ⟨fp, acc, v, t, b, y4, y5, rfl, sm, hfp, hv, hbi, hE⟩ := hp
      obtain ⟨rfl, hx⟩ := hy
      rw [List.length_map] at hi
      have hw := List.getElem?_eq_getElem hi
      have hwm := List.getElem_mem hi
      have hdr : ps.drop i = ps[i] :: ps.drop (i + 1) := List.drop_eq_getElem_cons hi
      generalize ps[i] = q0 at hw hwm hdr
      rw [List.getElem?_map, hw] at hx
      injection hx with hx
      subst hx
      rw [hdr] at hE
      have e0 : ("" : Str) = mk [] := by decide +kernel
      refine ⟨_, rfl, rfl, _, rfl, ?_⟩
      by_cases hq : q0 = []
      · subst hq
        rw [decide_eq_true (congrArg V.str e0.symm)]
        rw [lawD_nil] at hE
        exact iteF ⟨_, rfl, _, _, rfl, rfl, fp, acc, v, t, b + 1, _, _, rfl, sm, hfp, hv, by omega, hE⟩
      · rw [lawD_cons hq] at hE
        have hne : ¬ V.str (mk q0) = V.str ("" : Str) := fun e => hq (by
          have e1 := congrArg (fun t : Str => t.cps.toList) (V.str.inj e)
          rw [e0, mk_codes, mk_codes] at e1
          exact e1)
        rw [decide_eq_false hne]
        have hq8 := hp8 q0 hwm
        have hqn : ∀ c ∈ q0, numb c = true := fun c hc => hn c (hmem q0 hwm c hc)
        have hTS : toldL (mk q0).cps.toList = sayW q0 := by rw [mk_codes]; exact toldL_eq (numb_sig14 hqn) (by omega)
        have hpsl : ps.length ≤ 10001 := by omega
        have hal : acc.length ≤ 10000 := by
          have := congrArg List.length hE
          rw [List.length_append] at this
          omega
        refine iteT ⟨_, rfl, mk q0, rfl, by rw [mk_len]; omega, by rw [mk_codes]; exact hqn, fun x hs H5 p5 t5 hp5 => ?_, fun hs H5 t5 => ?_⟩
        · rw [hTS] at hs
          rw [hs] at hE
          refine ⟨_, rfl, ?_⟩
          refine ⟨rfl, _, rfl, ?_⟩
          refine iteF ?_
          refine ⟨_, rfl, rfl, _, rfl, ?_⟩
          have hxl : x.length ≤ 10000 := by
            have := congrArg List.length hE
            rw [List.length_append, List.length_append, List.length_append] at this
            dsimp only at this
            omega
          rcases hv with ⟨rfl, rfl⟩ | ⟨pv', rfl, rfl⟩
          · refine iteT ?_
            replace hE : acc ++ (List.replicate b 32 ++ (x ++ lawD true 1 (ps.drop (i + 1)))) = lawD false 0 ps := hE
            refine ⟨_, rfl, (by show 1 ≤ sizeLine; decide), fun p1 n1 => ?_⟩
            refine ⟨_, rfl, p1, ((b : Nat) : Int), _, rfl, rfl, upd_same, by omega, by omega, (by show 1 * ((b : Nat) : Int).toNat ≤ sizeLine; rw [sizeLine_eq]; omega), fun p2 n2 => ?_⟩
            rw [show (List.replicate ((b : Nat) : Int).toNat [V.int 32]).flatten = iv (List.replicate b 32) from rep32 b]
            refine ⟨fp, p2, _, _, rfl, rfl, kn (kn (t5 _ _ hfp) n1) n2, upd_same, (by rw [iv_len, iv_len, List.length_replicate, sizeLine_eq]; omega), fun p3 n3 => ?_⟩
            rw [← iv_app]
            have s9 := (same_new (o := .lst [.int (32 : Nat)]) n1).trans ((same_new (o := .lst (iv (List.replicate b 32))) n2).trans (same_new (o := .lst (iv (acc ++ List.replicate b 32))) n3))
            have hf9 : (upd (upd (upd H5 p1 (.lst [.int (32 : Nat)])) p2 (.lst (iv (List.replicate b 32)))) p3 (.lst (iv (acc ++ List.replicate b 32)))) p3 = some (.lst (iv (acc ++ List.replicate b 32))) := upd_same
            have s9 : Same H5 (upd (upd (upd H5 p1 (.lst [.int (32 : Nat)])) p2 (.lst (iv (List.replicate b 32)))) p3 (.lst (iv (acc ++ List.replicate b 32)))) := s9
            generalize upd (upd (upd H5 p1 (.lst [.int (32 : Nat)])) p2 (.lst (iv (List.replicate b 32)))) p3 (.lst (iv (acc ++ List.replicate b 32))) = H9 at s9 hf9 ⊢
            obtain ⟨acc9, ha9⟩ : ∃ m, m = acc ++ List.replicate b 32 := ⟨_, rfl⟩
            rw [← ha9] at hf9
            have hE9 : acc9 ++ (x ++ lawD true 1 (ps.drop (i + 1))) = lawD false 0 ps := by rw [ha9, List.append_assoc]; exact hE
            have hal9 : acc9.length ≤ 10000 := by
              have := congrArg List.length hE9
              rw [List.length_append] at this
              omega
            refine ⟨_, rfl, _, rfl, _, rfl, rfl, _, rfl, ?_⟩
            refine iteT ⟨_, rfl, p3, p5, _, _, rfl, rfl, hf9, s9 _ _ hp5, (by rw [iv_len, iv_len, sizeLine_eq]; have := congrArg List.length hE9; rw [List.length_append, List.length_append] at this; omega), fun p6 n6 => ?_⟩
            rw [← iv_app]
            exact ⟨_, rfl, _, _, rfl, rfl, p6, acc9 ++ x, .ref p5, true, 1, _, _, rfl, sm.trans (t5.trans (s9.trans (same_new n6))), upd_same, .inr ⟨_, rfl, rfl⟩, by omega, by rw [List.append_assoc]; exact hE9⟩
          · refine iteF ?_
            replace hE : acc ++ (x ++ lawD true 1 (ps.drop (i + 1))) = lawD false 0 ps := hE
            have hf9 := t5 _ _ hfp
            refine ⟨_, rfl, _, rfl, _, rfl, rfl, _, rfl, ?_⟩
            refine iteT ⟨_, rfl, fp, p5, _, _, rfl, rfl, hf9, hp5, (by rw [iv_len, iv_len, sizeLine_eq]; have := congrArg List.length hE; rw [List.length_append, List.length_append] at this; omega), fun p6 n6 => ?_⟩
            rw [← iv_app]
            exact ⟨_, rfl, _, _, rfl, rfl, p6, acc ++ x, .ref p5, true, 1, _, _, rfl, sm.trans (t5.trans (same_new n6)), upd_same, .inr ⟨_, rfl, rfl⟩, by omega, by rw [List.append_assoc]; exact hE⟩
        · rw [hTS] at hs
          rw [hs] at hE
          refine ⟨_, rfl, ?_⟩
          refine ⟨rfl, _, rfl, ?_⟩
          refine iteT ?_
          refine iteT ?_
          replace hE : acc ++ (List.replicate b 32 ++ (q0 ++ lawD false 1 (ps.drop (i + 1)))) = lawD false 0 ps := hE
          refine ⟨_, rfl, (by show 1 ≤ sizeLine; decide), fun p1 n1 => ?_⟩
          refine ⟨_, rfl, p1, ((b : Nat) : Int), _, rfl, rfl, upd_same, by omega, by omega, (by show 1 * ((b : Nat) : Int).toNat ≤ sizeLine; rw [sizeLine_eq]; omega), fun p2 n2 => ?_⟩
          rw [show (List.replicate ((b : Nat) : Int).toNat [V.int 32]).flatten = iv (List.replicate b 32) from rep32 b]
          refine ⟨fp, p2, _, _, rfl, rfl, kn (kn (t5 _ _ hfp) n1) n2, upd_same, (by rw [iv_len, iv_len, List.length_replicate, sizeLine_eq]; omega), fun p3 n3 => ?_⟩
          rw [← iv_app]
          have s9 := (same_new (o := .lst [.int (32 : Nat)]) n1).trans ((same_new (o := .lst (iv (List.replicate b 32))) n2).trans (same_new (o := .lst (iv (acc ++ List.replicate b 32))) n3))
          have hf9 : (upd (upd (upd H5 p1 (.lst [.int (32 : Nat)])) p2 (.lst (iv (List.replicate b 32)))) p3 (.lst (iv (acc ++ List.replicate b 32)))) p3 = some (.lst (iv (acc ++ List.replicate b 32))) := upd_same
          have s9 : Same H5 (upd (upd (upd H5 p1 (.lst [.int (32 : Nat)])) p2 (.lst (iv (List.replicate b 32)))) p3 (.lst (iv (acc ++ List.replicate b 32)))) := s9
          generalize upd (upd (upd H5 p1 (.lst [.int (32 : Nat)])) p2 (.lst (iv (List.replicate b 32)))) p3 (.lst (iv (acc ++ List.replicate b 32))) = H9 at s9 hf9 ⊢
          obtain ⟨acc9, ha9⟩ : ∃ m, m = acc ++ List.replicate b 32 := ⟨_, rfl⟩
          rw [← ha9] at hf9
          have hE9 : acc9 ++ (q0 ++ lawD false 1 (ps.drop (i + 1))) = lawD false 0 ps := by rw [ha9, List.append_assoc]; exact hE
          have hal9 : acc9.length ≤ 10000 := by
            have := congrArg List.length hE9
            rw [List.length_append] at this
            omega
          
          refine ⟨_, rfl, _, rfl, _, rfl, rfl, _, rfl, ?_⟩
          refine iteF ⟨_, rfl, mk q0, rfl, by rw [mk_len]; omega, by rw [mk_codes]; exact hqn, fun H6 p6 t6 n6 hp6 => ?_⟩
          rw [mk_codes] at hp6
          refine ⟨p3, p6, _, _, rfl, rfl, t6 _ _ hf9, hp6, (by rw [iv_len, iv_len, sizeLine_eq]; have := congrArg List.length hE9; rw [List.length_append, List.length_append] at this; omega), fun p7 n7 => ?_⟩
          rw [← iv_app]
          exact ⟨_, rfl, _, _, rfl, rfl, p7, acc9 ++ q0, .non, false, 1, _, _, rfl, sm.trans (t5.trans (s9.trans (t6.trans (same_new n7)))), upd_same, .inl ⟨rfl, rfl⟩, by omega, by rw [List.append_assoc]; exact hE9⟩
    · obtain ⟨fp, acc, v, t, b, y4, y5, rfl, sm, hfp, hv, hbi, hE⟩ := hp
      rw [List.length_map] at hE hbi
      have hlast : acc ++ List.replicate (b - 1) 32 = lawD false 0 ps := by
        rw [List.drop_length, lawD_end] at hE
        exact hE
      have hal : acc.length ≤ 10000 := by
        have := congrArg List.length hlast
        rw [List.length_append] at this
        omega
      have htn : (((b : Nat) : Int) - 1).toNat = b - 1 := by omega
      refine ⟨_, rfl, (by show 1 ≤ sizeLine; decide), fun p1 n1 => ?_⟩
      refine ⟨_, rfl, _, _, rfl, rfl, ?_⟩
      refine ⟨p1, ((b : Nat) : Int) - 1, _, rfl, rfl, upd_same, by omega, by omega, (by show 1 * (((b : Nat) : Int) - 1).toNat ≤ sizeLine; rw [sizeLine_eq]; omega), fun p2 n2 => ?_⟩
      have erep : (List.replicate (((b : Nat) : Int) - 1).toNat [V.int (32 : Nat)]).flatten = iv (List.replicate (b - 1) 32) := by
        rw [htn, ← rep32, Int.toNat_natCast]
      rw [show (List.replicate (((b : Nat) : Int) - 1).toNat [V.int 32]).flatten = iv (List.replicate (b - 1) 32) from erep]
      refine ⟨fp, p2, _, _, rfl, rfl, kn (kn hfp n1) n2, upd_same, (by rw [iv_len, iv_len, List.length_replicate, sizeLine_eq]; omega), fun p3 n3 => ?_⟩
      rw [← iv_app, hlast]
      have h9 := ((same_new (o := .lst [.int (32 : Nat)]) n1).trans ((same_new (o := .lst (iv (List.replicate (b - 1) 32))) n2).trans (same_new (o := .lst (iv (lawD false 0 ps))) n3)))
      have h8 := s1.trans (s2.trans (sm.trans ((same_new (o := .lst [.int (32 : Nat)]) n1).trans (same_new (o := .lst (iv (List.replicate (b - 1) 32))) n2))))
      refine q _ _ (s1.trans (s2.trans (sm.trans h9))) ?_ upd_same
      cases hh : H p3 with
      | none => rfl
      | some o =>
        have e2 := (h8 p3 o hh).symm.trans n3
        cases e2
end
end FL

namespace FL
open PySem PySem.Spec PyProof.Rows L2
/-! ### drawn pieces -/
theorem cut_lenH (z : Str) (lo hi : Option Int) : (cutS z lo hi).length = min (HT.sIx z.length z.length hi - HT.sIx z.length 0 lo) (z.length - HT.sIx z.length 0 lo) := by
  show (((z.cps.toList.drop (HT.sIx z.length 0 lo)).take (HT.sIx z.length z.length hi - HT.sIx z.length 0 lo)).toArray).size = _
  rw [List.size_toArray, List.length_take, List.length_drop, Array.length_toList]
  rfl
theorem cut_memH (z : Str) (lo hi : Option Int) : ∀ c ∈ (cutS z lo hi).cps.toList, c ∈ z.cps.toList := fun c hc => by
  unfold cutS at hc
  exact List.mem_of_mem_drop (List.mem_of_mem_take (by simpa using hc))
theorem cut_toH (z : Str) (i : Nat) : (cutS z none (some (i : Nat))).length ≤ i := by
  rw [cut_lenH, HT.sIx_none, HT.sIx_nat]
  omega
theorem cut_fromH (z : Str) (i : Nat) : (cutS z (some (i : Nat)) none).length = z.length - i := by
  rw [cut_lenH, HT.sIx_none, HT.sIx_nat]
  omega
theorem cut_midH (z : Str) (i j : Nat) : (cutS z (some (i : Nat)) (some (j : Nat))).length ≤ j - i := by
  rw [cut_lenH, HT.sIx_nat, HT.sIx_nat]
  omega
def Nb (l : List Nat) : Prop := ∀ c ∈ l, numb c = true
theorem nb_cutH {z : Str} (h : Nb z.cps.toList) (lo hi : Option Int) : Nb (cutS z lo hi).cps.toList := fun c hc => h c (cut_memH z lo hi c hc)
theorem nb_appH {a b : Str} (ha : Nb a.cps.toList) (hb : Nb b.cps.toList) : Nb (a ++ b).cps.toList := by
  have : (a ++ b).cps.toList = a.cps.toList ++ b.cps.toList := TL.tl_append a b
  rw [this]
  intro c hc
  rcases List.mem_append.mp hc with hc | hc
  · exact ha c hc
  · exact hb c hc
/-- a text of signs, no longer than n -/
def TxB (n : Nat) (z : Str) : Prop := z.length ≤ n ∧ Nb z.cps.toList
def IsTxB (n : Nat) (v : V) : Prop := ∃ z : Str, v = .str z ∧ TxB n z
section
variable {P : Program} {w : World} {K : PySem.W.Frag} {mg : Str → Option Value} {base : Heap}
def TOUCH : Str := "=?sm_AaZz09+/bF"
theorem touch_nb : Nb TOUCH.cps.toList := by
  unfold Nb
  decide +kernel
theorem nb_lower {z : Str} (h : Nb z.cps.toList) : (Txt.lower z).length = z.length ∧ Nb (Txt.lower z).cps.toList := by
  rw [lower_ascii (fun c hc => by have := (numb_iff.mp (h c hc)); omega)]
  refine ⟨Array.size_map, fun c hc => ?_⟩
  rw [show (Str.mk (z.cps.map lo1)).cps.toList = z.cps.toList.map lo1 from Array.toList_map] at hc
  obtain ⟨d, hd, rfl⟩ := List.mem_map.mp hc
  have := numb_iff.mp (h d hd)
  refine numb_iff.mpr ?_
  unfold lo1
  split <;> omega
theorem nb_upper {z : Str} (h : Nb z.cps.toList) : (Txt.upper z).length = z.length ∧ Nb (Txt.upper z).cps.toList := by
  rw [upper_ascii (fun c hc => by have := (numb_iff.mp (h c hc)); omega)]
  refine ⟨Array.size_map, fun c hc => ?_⟩
  rw [show (Str.mk (z.cps.map PyProof.Rows.up1)).cps.toList = z.cps.toList.map PyProof.Rows.up1 from Array.toList_map] at hc
  obtain ⟨d, hd, rfl⟩ := List.mem_map.mp hc
  have := numb_iff.mp (h d hd)
  refine numb_iff.mpr ?_
  unfold PyProof.Rows.up1
  split <;> omega
def spTouch14 : Sp := fun vs H Q _ => ∃ (a : Addr) (z : Str), vs = [.ref a, .str z] ∧ Src H a ∧ z.length ≤ 5000 ∧ Nb z.cps.toList ∧ ∀ H' (r : Str), Drawn a H H' → r.length ≤ z.length + 2 → Nb r.cps.toList → Q (.str r) H'
theorem scLawTouched : FnScope ["_law_source_here", "_law_piece_here", "_law_at", "_law_one", "_law_some", "_law_pair"] ["_law_source_here", "_law_piece_here"] (defScope sLawTouched) := ⟨rfl, rfl, rfl, by decide +kernel, rfl, by decide +kernel, by decide +kernel⟩
theorem r_touched14 (A : FnAt K mg "_law_touched" sLawTouched) (RN : Ready P w K mg base 2 "_law_next" ["_law_source_here", "_law_many"] spNextM) (m_len : mg "len" = none) : Ready P w K mg base 3 "_law_touched" ["_law_source_here", "_law_piece_here"] spTouch14 := by
  obtain ⟨f1, fd1, g1, k1, b1, G1⟩ := RN
  refine ready_of A (fun _ _ _ _ _ _ us hl => match us, hl with | [_, _], _ => rfl) fun f fd F => ?_
  refine F.ok scLawTouched (fun vs H Q E h => ?_) (fun cdv A outer s H vs Q E hr h => ?_)
  · obtain ⟨a, z, rfl, _⟩ := h
    rfl
  · obtain ⟨a, z, rfl, hS, hz, hsz, q⟩ := h
    have sc := scLawTouched
    refine ⟨_, pss_cons (ps_set (i := 2) sc.nd rfl (.inl rfl) (pe_call G1 (hr.mono (by decide)) (by rfl) g1 k1 b1 .nil pass0 (pa_cons (pv 0) (pa_cons (pe_op op_add (pe_callB call_len_str (by rfl) m_len PySem.boot_len (pa_cons (pv 1) pa_nil)) pe_int) pa_nil))))
      (pss_cons (ps_set (i := 3) sc.nd rfl (.inl rfl) (pe_item_str pe_str (pe_call G1 (hr.mono (by decide)) (by rfl) g1 k1 b1 .nil pass0 (pa_cons (pv 0) (pa_cons pe_int pa_nil))) (fun _ _ => rfl)))
      (pss_cons (ps_set (i := 4) sc.nd rfl (.inl rfl) (pe_lst (pa_cons (pe_op op_add_str (pe_slice sl_str (pv 1) po_none (po_some (pv 2))) (pe_slice sl_str (pv 1) (po_some (pe_op op_add (pv 2) pe_int)) po_none)) (pa_cons (pe_op op_add_str (pe_op op_add_str (pe_slice sl_str (pv 1) po_none (po_some (pv 2))) (pv 3)) (pe_slice sl_str (pv 1) (po_some (pv 2)) po_none)) (pa_cons (pe_op op_add_str (pe_op op_add_str (pe_slice sl_str (pv 1) po_none (po_some (pv 2))) (pe_slice sl_str (pv 1) (po_some (pv 2)) (po_some (pe_op op_add (pv 2) pe_int)))) (pe_slice sl_str (pv 1) (po_some (pv 2)) po_none)) pa_nil)))))
      (pss_cons (ps_set (i := 5) sc.nd rfl (.inl rfl) (pe_revS (pe_slice sl_str (pv 1) (po_some (pv 2)) (po_some (pe_op op_add (pv 2) pe_int)))))
      (pss_cons (ps_expr (pe_bm PySem.F.plainAttrs_list PySem.F.slot_list_append PySem.F.type_list_append mt_append (pv 4) (pa_cons (pe_op op_add_str (pe_op op_add_str (pe_slice sl_str (pv 1) po_none (po_some (pv 2))) (pv 5)) (pe_slice sl_str (pv 1) (po_some (pe_op op_add (pv 2) pe_int)) po_none)) pa_nil)))
      (pss_cons (ps_expr (pe_bm PySem.F.plainAttrs_list PySem.F.slot_list_append PySem.F.type_list_append mt_append (pv 4) (pa_cons (pe_op op_add_str (pe_op op_add_str (pe_slice sl_str (pv 1) po_none (po_some (pv 2))) (pv 3)) (pe_slice sl_str (pv 1) (po_some (pe_op op_add (pv 2) pe_int)) po_none)) pa_nil)))
      (pss_one (ps_ret (pe_ix ix_list (pe_op op_cat (pv 4) (pe_lst (pa_cons (pe_lower (pv 1)) (pa_cons (pe_upper (pv 1)) pa_nil)))) (pe_call G1 (hr.mono (by decide)) (by rfl) g1 k1 b1 .nil pass0 (pa_cons (pv 0) (pa_cons pe_int pa_nil))) (fun _ _ => rfl))))))))), ?_⟩
    refine ⟨_, rfl, _, rfl, _, rfl, Nat.le_trans hz (by decide), _, _, rfl, rfl, ?_⟩
    refine ⟨a, z.length + 1, rfl, by omega, by omega, hS, fun at_ H1 hat d1 => ?_⟩
    refine ⟨_, rfl, a, 15, rfl, by decide, by decide, d1.src, fun r2 H2 hr2 d2 => ?_⟩
    have hc : ∃ c, TOUCH.cps[r2]? = some c := ⟨TOUCH.cps[r2]'hr2, Array.getElem?_eq_getElem hr2⟩
    obtain ⟨c, hc⟩ := hc
    refine ⟨TOUCH, _, c, rfl, rfl, by omega, by omega, (by show _ < ((15 : Nat) : Int); omega), by rw [Int.toNat_natCast]; exact hc, ?_⟩
    have hone : TxB 1 ⟨#[c]⟩ := by
      have : c ∈ TOUCH.cps.toList := Array.mem_toList_iff.mpr (Array.mem_of_getElem? hc)
      have := touch_nb c this
      refine ⟨Nat.le_refl _, fun d hd => ?_⟩
      rw [show d = c from List.mem_singleton.mp hd]
      exact this
    have hzb : z.length ≤ sizeLine := Nat.le_trans hz (by decide)
    have ha0 := cut_toH z at_
    have hb0 := cut_fromH z at_
    have hb1 : (cutS z (some (((at_ : Nat) : Int) + 1)) none).length = z.length - (at_ + 1) := cut_fromH z (at_ + 1)
    have hb2 : (cutS z (some (((at_ : Nat) : Int) + 2)) none).length = z.length - (at_ + 2) := cut_fromH z (at_ + 2)
    have hm1 : (cutS z (some ((at_ : Nat) : Int)) (some (((at_ : Nat) : Int) + 1))).length ≤ 1 := by
      have := cut_midH z at_ (at_ + 1)
      have e : (cutS z (some ((at_ : Nat) : Int)) (some (((at_ : Nat) : Int) + 1))).length ≤ at_ + 1 - at_ := this
      omega
    have hm2 : (cutS z (some ((at_ : Nat) : Int)) (some (((at_ : Nat) : Int) + 2))).length ≤ 2 := by
      have := cut_midH z at_ (at_ + 2)
      have e : (cutS z (some ((at_ : Nat) : Int)) (some (((at_ : Nat) : Int) + 2))).length ≤ at_ + 2 - at_ := this
      omega
    have sA := nb_cutH hsz none (some ((at_ : Nat) : Int))
    have sB0 := nb_cutH hsz (some ((at_ : Nat) : Int)) none
    have sB1 := nb_cutH hsz (some (((at_ : Nat) : Int) + 1)) none
    have sB2 := nb_cutH hsz (some (((at_ : Nat) : Int) + 2)) none
    have sM1 := nb_cutH hsz (some ((at_ : Nat) : Int)) (some (((at_ : Nat) : Int) + 1))
    have sM2 := nb_cutH hsz (some ((at_ : Nat) : Int)) (some (((at_ : Nat) : Int) + 2))
    have h1l := hone.1
    -- three texts
    refine ⟨_, rfl, _, rfl, _, rfl, _, rfl, hzb, ?_⟩
    refine ⟨_, rfl, _, rfl, _, _, rfl, rfl, _, rfl, _, rfl, hzb, _, _, rfl, rfl, by rw [sizeLine_eq]; omega, ?_⟩
    refine ⟨_, rfl, _, rfl, _, rfl, _, rfl, hzb, _, rfl, _, _, rfl, rfl, by rw [sizeLine_eq]; omega, ?_⟩
    refine ⟨_, rfl, _, rfl, _, rfl, _, rfl, hzb, _, _, rfl, rfl, by rw [len_append, sizeLine_eq]; omega, ?_⟩
    refine ⟨_, rfl, _, rfl, _, rfl, _, rfl, hzb, ?_⟩
    refine ⟨_, rfl, _, rfl, _, rfl, _, rfl, _, _, rfl, rfl, _, rfl, _, rfl, hzb, _, _, rfl, rfl, by rw [sizeLine_eq]; omega, ?_⟩
    refine ⟨_, rfl, _, rfl, _, rfl, _, rfl, hzb, _, _, rfl, rfl, by rw [len_append, sizeLine_eq]; omega, ?_⟩
    refine ⟨(by show 3 ≤ sizeLine; decide), fun pl npl => ?_⟩
    have dd := d1.trans d2
    have hpa := dd.src.neR npl
    have npl0 : H pl = none := by
      cases hh : H pl with
      | none => rfl
      | some o => rw [dd.old pl o hpa hh] at npl; cases npl
    generalize hA0 : cutS z none (some ((at_ : Nat) : Int)) = A0 at ha0 sA
    generalize hB0 : cutS z (some ((at_ : Nat) : Int)) none = B0 at hb0 sB0
    generalize hB1 : cutS z (some (((at_ : Nat) : Int) + 1)) none = B1 at hb1 sB1
    generalize hB2 : cutS z (some (((at_ : Nat) : Int) + 2)) none = B2 at hb2 sB2
    generalize hM1 : cutS z (some ((at_ : Nat) : Int)) (some (((at_ : Nat) : Int) + 1)) = M1 at hm1 sM1
    have t1 : IsTxB (z.length + 2) (.str (A0 ++ B1)) := ⟨_, rfl, by rw [len_append]; omega, nb_appH sA sB1⟩
    have t2 : IsTxB (z.length + 2) (.str (A0 ++ ⟨#[c]⟩ ++ B0)) := ⟨_, rfl, by rw [len_append, len_append]; omega, nb_appH (nb_appH sA hone.2) sB0⟩
    have t3 : IsTxB (z.length + 2) (.str (A0 ++ M1 ++ B0)) := ⟨_, rfl, by rw [len_append, len_append]; omega, nb_appH (nb_appH sA sM1) sB0⟩
    have t5 : IsTxB (z.length + 2) (.str (A0 ++ ⟨#[c]⟩ ++ B1)) := ⟨_, rfl, by rw [len_append, len_append]; omega, nb_appH (nb_appH sA hone.2) sB1⟩
    have t6 : IsTxB (z.length + 2) (.str (Txt.lower z)) := ⟨_, rfl, by rw [(nb_lower hsz).1]; omega, (nb_lower hsz).2⟩
    have t7 : IsTxB (z.length + 2) (.str (Txt.upper z)) := ⟨_, rfl, by rw [(nb_upper hsz).1]; omega, (nb_upper hsz).2⟩
    have hpl : (upd H2 pl (.lst [.str (A0 ++ B1), .str (A0 ++ ⟨#[c]⟩ ++ B0), .str (A0 ++ M1 ++ B0)])) pl = some (.lst [.str (A0 ++ B1), .str (A0 ++ ⟨#[c]⟩ ++ B0), .str (A0 ++ M1 ++ B0)]) := upd_same
    have d3 := dd.same (same_new (o := .lst [.str (A0 ++ B1), .str (A0 ++ ⟨#[c]⟩ ++ B0), .str (A0 ++ M1 ++ B0)]) npl)
    generalize upd H2 pl (.lst [.str (A0 ++ B1), .str (A0 ++ ⟨#[c]⟩ ++ B0), .str (A0 ++ M1 ++ B0)]) = H3 at hpl d3 ⊢
    -- two signs the other way
    refine ⟨_, rfl, _, rfl, _, rfl, _, rfl, _, _, rfl, rfl, _, rfl, _, rfl, hzb, _, rfl, hm2, fun r hr2l hrm => ?_⟩
    have sR : Nb r.cps.toList := fun c hc => sM2 c (hrm c hc)
    refine ⟨_, rfl, .inl ⟨rfl, _, SqL.of hpl⟩, _, rfl, _, rfl, _, rfl, _, rfl, hzb, _, rfl, _, _, rfl, rfl, by rw [hA0, sizeLine_eq]; omega, ?_⟩
    refine ⟨_, rfl, _, rfl, _, _, rfl, rfl, _, rfl, _, rfl, hzb, _, _, rfl, rfl, by rw [hA0, hB2, len_append, sizeLine_eq]; omega, pl, _, _, rfl, rfl, hpl, by show 3 < sizeLine; decide, ?_⟩
    rw [hA0, hB2]
    have t4 : IsTxB (z.length + 2) (.str (A0 ++ r ++ B2)) := ⟨_, rfl, by rw [len_append, len_append]; omega, nb_appH (nb_appH sA sR) sB2⟩
    have hpl4 : (upd H3 pl (.lst ([.str (A0 ++ B1), .str (A0 ++ ⟨#[c]⟩ ++ B0), .str (A0 ++ M1 ++ B0)] ++ [.str (A0 ++ r ++ B2)]))) pl = some (.lst ([.str (A0 ++ B1), .str (A0 ++ ⟨#[c]⟩ ++ B0), .str (A0 ++ M1 ++ B0)] ++ [.str (A0 ++ r ++ B2)])) := upd_same
    have d4 : Drawn a H (upd H3 pl (.lst ([.str (A0 ++ B1), .str (A0 ++ ⟨#[c]⟩ ++ B0), .str (A0 ++ M1 ++ B0)] ++ [.str (A0 ++ r ++ B2)]))) := drawn_set d3 npl0 (Ne.symm hpa)
    generalize upd H3 pl (.lst ([.str (A0 ++ B1), .str (A0 ++ ⟨#[c]⟩ ++ B0), .str (A0 ++ M1 ++ B0)] ++ [.str (A0 ++ r ++ B2)])) = H4 at hpl4 d4 ⊢
    refine ⟨_, rfl, .inl ⟨rfl, _, SqL.of hpl4⟩, _, rfl, _, rfl, _, rfl, _, rfl, hzb, _, rfl, _, _, rfl, rfl, by rw [hA0, sizeLine_eq]; omega, ?_⟩
    refine ⟨_, rfl, _, rfl, _, _, rfl, rfl, _, rfl, _, rfl, hzb, _, _, rfl, rfl, by rw [hA0, hB1, len_append, sizeLine_eq]; omega, pl, _, _, rfl, rfl, hpl4, by show 4 < sizeLine; decide, ?_⟩
    rw [hA0, hB1]
    have hpl5 : (upd H4 pl (.lst ([.str (A0 ++ B1), .str (A0 ++ ⟨#[c]⟩ ++ B0), .str (A0 ++ M1 ++ B0)] ++ [.str (A0 ++ r ++ B2)] ++ [.str (A0 ++ ⟨#[c]⟩ ++ B1)]))) pl = some (.lst ([.str (A0 ++ B1), .str (A0 ++ ⟨#[c]⟩ ++ B0), .str (A0 ++ M1 ++ B0)] ++ [.str (A0 ++ r ++ B2)] ++ [.str (A0 ++ ⟨#[c]⟩ ++ B1)])) := upd_same
    have d5 : Drawn a H (upd H4 pl (.lst ([.str (A0 ++ B1), .str (A0 ++ ⟨#[c]⟩ ++ B0), .str (A0 ++ M1 ++ B0)] ++ [.str (A0 ++ r ++ B2)] ++ [.str (A0 ++ ⟨#[c]⟩ ++ B1)]))) := drawn_set d4 npl0 (Ne.symm hpa)
    generalize upd H4 pl (.lst ([.str (A0 ++ B1), .str (A0 ++ ⟨#[c]⟩ ++ B0), .str (A0 ++ M1 ++ B0)] ++ [.str (A0 ++ r ++ B2)] ++ [.str (A0 ++ ⟨#[c]⟩ ++ B1)])) = H5 at hpl5 d5 ⊢
    refine ⟨_, rfl, _, rfl, ⟨_, rfl⟩, _, rfl, rfl, by omega, _, rfl, ⟨_, rfl⟩, _, rfl, rfl, by omega, (by show 2 ≤ sizeLine; decide), fun ql nql => ?_⟩
    have hpl6 := kn (x := .lst [.str (Txt.lower z), .str (Txt.upper z)]) hpl5 nql
    have hql : (upd H5 ql (.lst [.str (Txt.lower z), .str (Txt.upper z)])) ql = some (.lst [.str (Txt.lower z), .str (Txt.upper z)]) := upd_same
    have d6 := d5.same (same_new (o := .lst [.str (Txt.lower z), .str (Txt.upper z)]) nql)
    generalize upd H5 ql (.lst [.str (Txt.lower z), .str (Txt.upper z)]) = H6 at hpl6 hql d6 ⊢
    refine ⟨pl, ql, _, _, rfl, rfl, hpl6, hql, by show 7 ≤ sizeLine; decide, fun qm nqm => ?_⟩
    have hqm : (upd H6 qm (.lst ([.str (A0 ++ B1), .str (A0 ++ ⟨#[c]⟩ ++ B0), .str (A0 ++ M1 ++ B0)] ++ [.str (A0 ++ r ++ B2)] ++ [.str (A0 ++ ⟨#[c]⟩ ++ B1)] ++ [.str (Txt.lower z), .str (Txt.upper z)]))) qm = some (.lst [.str (A0 ++ B1), .str (A0 ++ ⟨#[c]⟩ ++ B0), .str (A0 ++ M1 ++ B0), .str (A0 ++ r ++ B2), .str (A0 ++ ⟨#[c]⟩ ++ B1), .str (Txt.lower z), .str (Txt.upper z)]) := upd_same
    have hqa := d6.src.neR nqm
    have d7 := d6.same (same_new (o := .lst ([.str (A0 ++ B1), .str (A0 ++ ⟨#[c]⟩ ++ B0), .str (A0 ++ M1 ++ B0)] ++ [.str (A0 ++ r ++ B2)] ++ [.str (A0 ++ ⟨#[c]⟩ ++ B1)] ++ [.str (Txt.lower z), .str (Txt.upper z)])) nqm)
    generalize upd H6 qm (.lst ([.str (A0 ++ B1), .str (A0 ++ ⟨#[c]⟩ ++ B0), .str (A0 ++ M1 ++ B0)] ++ [.str (A0 ++ r ++ B2)] ++ [.str (A0 ++ ⟨#[c]⟩ ++ B1)] ++ [.str (Txt.lower z), .str (Txt.upper z)])) = H7 at hqm d7 ⊢
    refine ⟨_, rfl, a, 7, rfl, by decide, by decide, d7.src, fun r6 H8 hr6 d8 => ?_⟩
    obtain ⟨v, hv, y, rfl, hy⟩ := pickPR (p := IsTxB (z.length + 2)) (xs := [.str (A0 ++ B1), .str (A0 ++ ⟨#[c]⟩ ++ B0), .str (A0 ++ M1 ++ B0), .str (A0 ++ r ++ B2), .str (A0 ++ ⟨#[c]⟩ ++ B1), .str (Txt.lower z), .str (Txt.upper z)]) (r := r6) hr6 (fun v hv => by
      simp only [List.mem_cons, List.not_mem_nil, or_false] at hv
      rcases hv with rfl | rfl | rfl | rfl | rfl | rfl | rfl
      · exact t1
      · exact t2
      · exact t3
      · exact t4
      · exact t5
      · exact t6
      · exact t7)
    exact ⟨qm, _, _, _, rfl, rfl, SqL.of (d8.old _ _ hqa hqm), hv, q H8 y (d7.trans d8) hy.1 hy.2⟩
end
end FL

namespace FL
open PySem PySem.Spec PyProof.Rows L2
theorem pet_orT {X : Cx} {a b : Expr} {rest : List Expr} {pos : Pos} {ta tb : TE} (ha : PET X a ta) (hb : PE X (.BoolOp .Or (b :: rest) pos) tb) : PET X (.BoolOp .Or (a :: b :: rest) pos) (tOrT X.K ta tb) := by
  intro pins s σ H Q h0 I h
  have hx := ha pins s σ H _ h0 I h
  refine BoolOp_or (thn hx fun v s1 z => ?_)
  obtain ⟨x, H1, I1, r1, k, e, y⟩ := z
  refine thn (tru_ok pins s1 σ H1 x v (fun c H2 => c = k ∧ H2 = H1) I1 r1 ⟨k, e, rfl, rfl⟩) fun c s2 hc => ?_
  obtain ⟨H2, I2, rfl, rfl⟩ := hc
  by_cases hk : c = true
  · rw [if_pos hk] at y
    subst hk
    exact ⟨x, H2, I2, r1, y⟩
  · rw [if_neg hk] at y
    rw [Bool.not_eq_true] at hk
    subst hk
    exact hb.run pins s2 σ H2 Q I2 y
theorem pss_ifT {X : Cx} {l : Expr} {n : Int} {j : Nat} {p pos pos' : Pos} {op : CmpOp} {r : R2} {ta : TE} {a b rest : List Stmt} {t t2 u : TS} (ho : OpR X (compareOp op) r) (ha : PE X l ta) (hp : PSs X a t) (hq : PSs X b t2) (hr : PSsT X rest u) (hm : behindInMarks op (.Constant (.int n) j p) = false) :
    PSs X (.If (.Compare l [op] [.Constant (.int n) j p] pos) a b pos' :: rest) (tSeq (tIfS (tTest (tOp r ta (tC (.int n)))) t t2) u) := by
  refine ⟨fun pins s σ H D I h => ?_⟩
  have key : wpAny (model X.prog X.w) X.A (isTrue (.Compare l [op] [.Constant (.int n) j p] pos) X.env (eval (.Compare l [op] [.Constant (.int n) j p] pos) X.env)) (fun d s1 => 1 ≤ s1.toks ∧ TP X pins σ (fun c H' => if c = true then t { D with nx := u D } σ H' else t2 { D with nx := u D } σ H') d s1) X.xe s := by
    refine wpAny_isTrue_Compare1 (thn (ha.run pins s σ H _ I h) fun v s1 z => ?_) hm
    obtain ⟨x, H1, I1, r1, q1⟩ := z
    refine wpAny_Constant_int ?_
    have hk := ho pins { s1 with toks := s1.toks + 1 } σ H1 x (.int n) v (.int n s1.toks) _ (I1.tok _) r1 ⟨_, rfl⟩ q1
    refine wpAny_mono (PySem.wpAny_toks_of (n := 1) (by show 1 ≤ s1.toks + 1; omega) hk) (fun c s3 y => ?_) fun _ _ y => y.2
    obtain ⟨ht, z, H3, I3, r3, k, e, q3⟩ := y
    subst e
    cases r3
    exact wpAny_truthy_bool ⟨ht, H3, I3, q3⟩
  have fin : ∀ (f : Flow) (s1 : Shared), 1 ≤ s1.toks ∧ SP X pins { D with nx := u D } f s1 → (match f with
      | .next => wpAny (model X.prog X.w) X.A (execs rest X.env) (SP X pins D) X.xe s1
      | g => SP X pins D g s1) := fun f s1 z => by
    obtain ⟨ht, z⟩ := z
    cases f with
    | next =>
      obtain ⟨σ', H', I', y⟩ := z
      exact hr pins s1 σ' H' D ht I' y
    | ret v => exact z
    | brk => exact z
    | cont => exact z
  refine wpAny_execs_cons (wpAny_If (thn key fun d s1 z => ?_))
  obtain ⟨ht, H1, I1, q1⟩ := z
  cases d with
  | true => 
    refine wpAny_mono (PySem.wpAny_toks_of ht (hp.run pins s1 σ H1 _ I1 q1)) (fun f s2 z => ?_) fun _ _ z => z.2
    have := fin f s2 z
    cases f <;> exact this
  | false =>
    refine wpAny_mono (PySem.wpAny_toks_of ht (hq.run pins s1 σ H1 _ I1 q1)) (fun f s2 z => ?_) fun _ _ z => z.2
    have := fin f s2 z
    cases f <;> exact this
end FL

namespace FL
open PySem PySem.Spec PyProof.Rows L2
theorem drn_none {a q : Addr} {H H' : Hp} (d : Drawn a H H') (h : H' q = none) : H q = none := by
  cases hh : H q with
  | none => rfl
  | some o =>
    have hq := d.src.neR h
    rw [d.old q o hq hh] at h
    cases h
theorem word_nb {c : Nat} {wr : List Nat → List Nat} {o : List Nat} (h : WayOk c wr) (hb : ∀ n ∈ o, n < 256) : Nb (wordC wr c o) ∧ (wordC wr c o).length ≤ 3 * o.length + 8 := by
  have hlen := h.len o
  have hn : Nb (wr o) ∧ Nb [61, 63, c, 63] := by
    have e : ∀ x, x = 115 ∨ x = 109 → ∀ c ∈ [61, 63, x, 63], numb c = true := fun x hx => by rcases hx with rfl | rfl <;> decide
    rcases h with ⟨rfl, rfl⟩ | ⟨rfl, rfl⟩
    · exact ⟨sixC_numb _ _ (Nat.le_refl _) hb, e _ (.inl rfl)⟩
    · exact ⟨marksC_numb hb, e _ (.inr rfl)⟩
  refine ⟨fun x hx => ?_, by unfold wordC; simp; omega⟩
  unfold wordC at hx
  simp only [List.mem_append, List.mem_cons, List.not_mem_nil, or_false] at hx
  have h2 := hn.2
  unfold Nb at h2
  simp only [List.mem_cons, List.not_mem_nil, or_false] at h2
  first
    | (rcases hx with (hx | hx) | hx
       · exact h2 x hx
       · exact hn.1 x hx
       · rcases hx with rfl | rfl <;> decide)
    | (rcases hx with hx | hx | hx
       · exact h2 x hx
       · exact hn.1 x hx
       · rcases hx with rfl | rfl <;> decide)
def TEN : List Str := ["a", "=?", "=?m?=", "=?m??=", "=?s??=", "=?s?=?=", "=?m?_?=", "=?m?=5F?=", "=?q?a?=", "a=?m?a?="]
def TWO : List Str := ["_", "b0"]
theorem ten_two : ∀ z ∈ TEN ++ TWO, z.length ≤ 400 ∧ ∀ c ∈ z.cps.toList, numb c = true := by decide +kernel
theorem nb_x : ("x" : Str).length ≤ 400 ∧ ∀ c ∈ ("x" : Str).cps.toList, numb c = true := by decide +kernel
def EIGHT : List Nat := [0, 0, 0, 1, 1, 2, 0, 0]
theorem eight_at : ∀ m ∈ EIGHT, m ≤ 2 := by decide
theorem strike_nb {z : Str} (h : Nb z.cps.toList) : (Txt.replace z (" " : Str) ("" : Str)).length ≤ z.length ∧ Nb (Txt.replace z (" " : Str) ("" : Str)).cps.toList := by
  have e : (Txt.replace z (" " : Str) ("" : Str)).cps.toList = z.cps.toList.filter (· != 32) := by
    rw [show (" " : Str) = ⟨#[32]⟩ by decide +kernel, show ("" : Str) = ⟨#[]⟩ by decide +kernel]
    exact replace_strikes z 32
  refine ⟨?_, fun c hc => h c ?_⟩
  · have h1 := congrArg List.length e
    have h2 := List.length_filter_le (· != 32) z.cps.toList
    rw [← h1, Array.length_toList, Array.length_toList] at h2
    exact h2
  · rw [e] at hc
    exact (List.mem_filter.mp hc).1
def SM : Str := "sm"
theorem sm_at {r : Nat} (h : r < 2) : ∃ c, SM.cps[r]? = some c ∧ ∃ wr, WayOk c wr := by
  match r, h with
  | 0, _ => exact ⟨115, by decide +kernel, sixC, .inl ⟨rfl, rfl⟩⟩
  | 1, _ => exact ⟨109, by decide +kernel, marksC, .inr ⟨rfl, rfl⟩⟩
theorem sm_len : SM.length = 2 := by decide +kernel
section
variable {P : Program} {w : World} {K : PySem.W.Frag} {mg : Str → Option Value} {base : Heap}
def spPiece14 : Sp := fun vs H Q _ => ∃ a : Addr, vs = [.ref a] ∧ Src H a ∧ ∀ H' (r : Str), Drawn a H H' → r.length ≤ 400 → Nb r.cps.toList → Q (.str r) H'
theorem scLawPiece : FnScope ["_law_source_here", "_law_way", "_law_row", "_law_eights", "_law_k", "_law_piece_here", "_law_some"] ["_law_source_here"] (defScope sLawPiece) := ⟨rfl, rfl, rfl, by decide +kernel, rfl, by decide +kernel, by decide +kernel⟩
theorem r_law_piece14 (A : FnAt K mg "_law_piece" sLawPiece) (R1 : Ready P w K mg base 2 "_law_next" ["_law_source_here", "_law_many"] spNextD) (R2 : Ready P w K mg base 3 "_law_saying" ["_law_source_here"] (spLawSaying K)) (R3 : Ready P w K mg base 1 "_law_octets_of" ["_law_row"] (spLawOcts K)) (R4 : Ready P w K mg base 2 "_law_word" ["_law_eights", "_law_way"] spLawWord) (R5 : Ready P w K mg base 3 "_law_touched" ["_law_source_here", "_law_piece_here"] spTouch14) (m_len : mg "len" = none) (m_range : mg "range" = none) : Ready P w K mg base 4 "_law_piece" ["_law_source_here"] spPiece14 := by
  obtain ⟨f1, fd1, g1, k1, b1, G1⟩ := R1
  obtain ⟨f2, fd2, g2, k2, b2, G2⟩ := R2
  obtain ⟨f3, fd3, g3, k3, b3, G3⟩ := R3
  obtain ⟨f4, fd4, g4, k4, b4, G4⟩ := R4
  obtain ⟨f5, fd5, g5, k5, b5, G5⟩ := R5
  refine ready_of A (fun _ _ _ _ _ _ us hl => match us, hl with | [_], _ => rfl) fun f fd F => ?_
  refine F.ok scLawPiece (fun vs H Q E h => ?_) (fun cdv A outer s H vs Q E hr h => ?_)
  · obtain ⟨a, rfl, _⟩ := h
    rfl
  · obtain ⟨a, rfl, hS, q⟩ := h
    have sc := scLawPiece
    refine ⟨_, pss_cons (ps_set (i := 1) sc.nd rfl (.inl rfl) (pe_call G1 (hr.mono (by decide)) (by rfl) g1 k1 b1 .nil pass0 (pa_cons (pv 0) (pa_cons pe_int pa_nil))))
      (pss_cons (ps_set (i := 2) sc.nd rfl (.inl rfl) (pe_slice sl_list (pe_call G2 (hr.mono (by decide)) (by rfl) g2 k2 b2 .nil pass0 (pa_cons (pv 0) pa_nil)) po_none (po_some (pe_ix ix_list (pe_lst (pa_cons pe_int (pa_cons pe_int (pa_cons pe_int pa_nil)))) (pe_call G1 (hr.mono (by decide)) (by rfl) g1 k1 b1 .nil pass0 (pa_cons (pv 0) (pa_cons pe_int pa_nil))) (fun _ _ => rfl)))))
      (pss_cons (ps_set (i := 3) sc.nd rfl (.inl rfl) (pe_call G3 (hr.mono (by decide)) (by rfl) g3 k3 b3 .nil pass0 (pa_cons (pv 2) pa_nil)))
      (pss_cons (ps_if (pt_cmpR op_eq (pv 1) pe_int (nomark _))
        (pss_one (ps_setLc (i := 3) (own := [("_law_k", 4)]) (g := gName 4) (tt := tYes) (te := (tCall _ [] _ (tCons (tVar 0) (tCons (tC (.int 256)) tNil)))) (by rfl) sc.nd rfl rfl (sw_true rfl rfl rfl (by decide +kernel)) (pi_range1 (by rfl) m_range (pa_cons (pe_call G1 (hr.mono (by decide)) (by rfl) g1 k1 b1 .nil pass0 (pa_cons (pv 0) (pa_cons pe_int pa_nil))) pa_nil)) (blkOk_by (own := [("_law_k", 4)]) (N := ["_law_source_here", "_law_way", "_law_row", "_law_eights", "_law_k", "_law_piece_here", "_law_some"]) (sc := defScope sLawPiece) (by decide +kernel)) (fun _ _ _ _ _ => (pg_name (i := 4) sc.nd rfl (.inl rfl))) (fun _ _ _ _ _ => pts_nil) (fun _ _ _ _ _ => (pe_call G1 (hr.mono (by decide)) (by rfl) g1 k1 b1 .nil pass0 (pa_cons (pv 0) (pa_cons pe_int pa_nil))))))
        pss_nil)
      (pss_cons (ps_if (pt_cmpR op_eq (pv 1) pe_int (nomark _))
        (pss_one (ps_set (i := 3) sc.nd rfl (.inl rfl) (pe_slice sl_list (pv 3) po_none (po_some (pe_call G1 (hr.mono (by decide)) (by rfl) g1 k1 b1 .nil pass0 (pa_cons (pv 0) (pa_cons (pe_op op_add (pe_callB call_len_seq (by rfl) m_len PySem.boot_len (pa_cons (pv 3) pa_nil)) pe_int) pa_nil)))))))
        pss_nil)
      (pss_cons (ps_set (i := 5) sc.nd rfl (.inl rfl) (pe_call G4 (hr.mono (by decide)) (by rfl) g4 k4 b4 .nil pass0 (pa_cons (pv 3) (pa_cons (pe_item_str pe_str (pe_call G1 (hr.mono (by decide)) (by rfl) g1 k1 b1 .nil pass0 (pa_cons (pv 0) (pa_cons pe_int pa_nil))) (fun _ _ => rfl)) pa_nil))))
      (pss_cons (ps_if (pt_cmpR op_eq (pv 1) pe_int (nomark _))
        (pss_cons (ps_set (i := 6) sc.nd rfl (.inl rfl) (pe_lst (pa_cons pe_str (pa_cons pe_str (pa_cons pe_str (pa_cons pe_str (pa_cons pe_str (pa_cons pe_str (pa_cons pe_str (pa_cons pe_str (pa_cons pe_str (pa_cons pe_str pa_nil))))))))))))
          (pss_one (ps_ret (pe_ix ix_list (pe_op op_cat (pv 6) (pe_lst (pa_cons pe_str (pa_cons pe_str pa_nil)))) (pe_call G1 (hr.mono (by decide)) (by rfl) g1 k1 b1 .nil pass0 (pa_cons (pv 0) (pa_cons pe_int pa_nil))) (fun _ _ => rfl)))))
        pss_nil)
      (pss_cons (ps_for PassesOwn.never rfl (pi_range1 (by rfl) m_range (pa_cons (pe_ix ix_list (pe_lst (pa_cons pe_int (pa_cons pe_int (pa_cons pe_int (pa_cons pe_int (pa_cons pe_int (pa_cons pe_int (pa_cons pe_int (pa_cons pe_int pa_nil))))))))) (pv 1) (fun _ _ => rfl)) pa_nil)) (pg_name (i := 4) sc.nd rfl (.inl rfl))
        (pss_one (ps_set (i := 5) sc.nd rfl (.inl rfl) (pe_call G5 (hr.mono (by decide)) (by rfl) g5 k5 b5 .nil pass0 (pa_cons (pv 0) (pa_cons (pv 5) pa_nil))))))
      (pss_ifT op_eq (pv 1) (pss_one (ps_set (i := 5) sc.nd rfl (.inl rfl) (pe_op op_add_str (pv 5) (pe_call G4 (hr.mono (by decide)) (by rfl) g4 k4 b4 .nil pass0 (pa_cons (pe_lst (pa_cons pe_int pa_nil)) (pa_cons pe_str pa_nil))))))
        pss_nil (CwR.psst_one (CwR.pst_ret (pet_orT (CwR.pet_replC (pv 5)) (pe_one pe_str)))) (nomark _))))))))), ?_⟩
    refine ⟨_, rfl, a, 8, rfl, by decide, by decide, hS, fun way H1 hway d1 => ?_⟩
    refine ⟨_, rfl, a, rfl, d1.src, fun H2 p l d2 np hp hl hll => ?_⟩
    have sp : DR a H1 p (.lst (iv l)) H2 := ⟨d2, hp, d1.src.neR np, np⟩
    refine ⟨(by show 3 ≤ sizeLine; decide), fun q0 n0 => ?_⟩
    have s3 := sp.same (same_new (o := .lst [.int 3, .int 12, .int 40]) n0)
    have hq0 : (upd H2 q0 (.lst [.int 3, .int 12, .int 40])) q0 = some (.lst [.int 3, .int 12, .int 40]) := upd_same
    refine ⟨_, rfl, a, 3, rfl, by decide, by decide, s3.d.src, fun r0 H3 hr0 d3 => ?_⟩
    have s4 := s3.draw d3
    have hr0' : r0 < [3, 12, 40].length := hr0
    refine ⟨q0, _, _, .int (([3, 12, 40][r0]'hr0' : Nat) : Int), rfl, rfl, SqL.of (d3.old q0 _ (d2.src.neR n0) hq0), pickNR (ms := [3, 12, 40]) hr0', ?_⟩
    have hm : ([3, 12, 40][r0]'hr0' : Nat) ≤ 40 := (by decide : ∀ m ∈ [3, 12, 40], m ≤ 40) _ (List.getElem_mem hr0')
    generalize ([3, 12, 40][r0]'hr0' : Nat) = M at hm
    refine ⟨_, rfl, p, _, rfl, SqL.of s4.f, fun p4 n4 => ?_⟩
    rw [cut_takeR]
    have s5 := s4.new (x := .lst (iv (l.take M))) n4
    have hl' : ∀ n ∈ l.take M, 32 ≤ n ∧ n ≤ 65535 := fun n hn => hl n (List.mem_of_mem_take hn)
    have hlm : (l.take M).length ≤ 40 := Nat.le_trans (List.length_take_le _ _) hm
    refine ⟨_, rfl, p4, l.take M, rfl, s5.f, ⟨hl', by omega⟩, fun H5 e s6 n5 he => ?_⟩
    have hol := octsOf_len (l.take M)
    have hob := octsOf_lt hl'
    have t0 : DR a H e (.lst (iv (octsOf (l.take M)))) H5 := ⟨d1.trans (s5.d.same s6), he, (s5.free n5).2.1, drn_none d1 (s5.free n5).1⟩
    generalize octsOf (l.take M) = o0 at hol hob t0
    have ho0 : o0.length ≤ 120 := by omega
    refine ⟨_, rfl, rfl, _, rfl, ?_⟩
    refine ite_key (fun σ' H' => ∃ (e : Addr) (o : List Nat) (y4 y5 y6 : Option V), σ' = [some (.ref a), some (.int (way : Nat)), some (.ref p4), some (.ref e), y4, y5, y6] ∧ DR a H e (.lst (iv o)) H' ∧ (∀ n ∈ o, n < 256) ∧ o.length ≤ 120) (fun σ' H' hJ => ?_) (fun key hc => ?_) (fun hc => ⟨e, o0, none, none, none, rfl, t0, hob, ho0⟩)
    · obtain ⟨e, o, y4, y5, y6, rfl, t1, hb1, ho1⟩ := hJ
      clear hol hob t0 ho0
      refine ⟨_, rfl, rfl, _, rfl, ?_⟩
      refine ite_key (fun σ' H' => ∃ (e : Addr) (o : List Nat) (y4 y5 y6 : Option V), σ' = [some (.ref a), some (.int (way : Nat)), some (.ref p4), some (.ref e), y4, y5, y6] ∧ DR a H e (.lst (iv o)) H' ∧ (∀ n ∈ o, n < 256) ∧ o.length ≤ 120) (fun σ' H' hJ => ?_) (fun key hc => ?_) (fun hc => ⟨e, o, y4, y5, y6, rfl, t1, hb1, ho1⟩)
      · obtain ⟨e, o, y4, y5, y6, rfl, t1, hb1, ho1⟩ := hJ
        refine ⟨_, rfl, _, rfl, a, 2, rfl, by decide, by decide, t1.d.src, fun r1 H7 hr1 d7 => ?_⟩
        have t2 := t1.draw d7
        obtain ⟨c, hc, wr, hw⟩ := sm_at hr1
        refine ⟨SM, _, c, rfl, rfl, by omega, by omega, by rw [sm_len]; omega, by rw [Int.toNat_natCast]; exact hc, ?_⟩
        refine ⟨e, o, c, wr, rfl, hw, t2.f, hb1, by omega, fun H8 s8 => ?_⟩
        have d8 := t2.d.same s8
        obtain ⟨hwn, hwl⟩ := word_nb hw hb1
        generalize wordC wr c o = z0 at hwn hwl
        have hz0 : z0.length ≤ 368 := by omega
        clear hc hw hwl t2 d7 s8
        refine ⟨_, rfl, rfl, _, rfl, ?_⟩
        by_cases h2 : way = 2
        · subst h2
          refine iteT ?_
          refine ⟨(by show 10 ≤ sizeLine; decide), fun q1 n1 => ?_⟩
          have hq1 : (upd H8 q1 (.lst (TEN.map V.str))) q1 = some (.lst (TEN.map V.str)) := upd_same
          have e1 := d8.same (same_new (o := .lst (TEN.map V.str)) n1)
          refine ⟨_, rfl, (by show 2 ≤ sizeLine; decide), fun q2 n2 => ?_⟩
          have e2 := e1.same (same_new (o := .lst (TWO.map V.str)) n2)
          refine ⟨q1, q2, TEN.map V.str, TWO.map V.str, rfl, rfl, kn hq1 n2, upd_same, by show 12 ≤ sizeLine; decide, fun q3 n3 => ?_⟩
          have e3 := e2.same (same_new (o := .lst (TEN.map V.str ++ TWO.map V.str)) n3)
          have hq3 : (upd (upd (upd H8 q1 (.lst (TEN.map V.str))) q2 (.lst (TWO.map V.str))) q3 (.lst (TEN.map V.str ++ TWO.map V.str))) q3 = some (.lst (TEN.map V.str ++ TWO.map V.str)) := upd_same
          refine ⟨_, rfl, a, 12, rfl, by decide, by decide, e3.src, fun r9 H9 hr9 d9 => ?_⟩
          obtain ⟨v, hv, y, rfl, hy⟩ := pickPR (p := fun v => ∃ z : Str, v = .str z ∧ z.length ≤ 400 ∧ Nb z.cps.toList) (xs := TEN.map V.str ++ TWO.map V.str) (r := r9) hr9 (fun v hv => by
            rw [← List.map_append] at hv
            obtain ⟨z, hz, rfl⟩ := List.mem_map.mp hv
            exact ⟨z, rfl, ten_two z hz⟩)
          exact ⟨q3, _, _, _, rfl, rfl, SqL.of (d9.old _ _ (e2.src.neR n3) hq3), hv, q H9 y (e3.trans d9) hy.1 hy.2⟩
        · rw [decide_eq_false (fun z => h2 (by have := V.int.inj z; omega))]
          refine iteF ?_
          refine ⟨(by show 8 ≤ sizeLine; decide), fun q1 n1 => ?_⟩
          have e1 := d8.same (same_new (o := .lst (EIGHT.map fun m => V.int (m : Nat))) n1)
          have hq1 : (upd H8 q1 (.lst (EIGHT.map fun m => V.int (m : Nat)))) q1 = some (.lst (EIGHT.map fun m => V.int (m : Nat))) := upd_same
          have hway' : way < EIGHT.length := hway
          refine ⟨_, rfl, q1, _, _, .int ((EIGHT[way]'hway' : Nat) : Int), rfl, rfl, SqL.of hq1, pickNR (ms := EIGHT) hway', ?_⟩
          have hN := eight_at _ (List.getElem_mem hway')
          generalize (EIGHT[way]'hway' : Nat) = N at hN
          refine ⟨(N : Int), rfl, by omega, by omega, ?_⟩
          refine for_it walk_range (fun i σ H' => ∃ (z : Str) (y4 y6 : Option V), σ = [some (.ref a), some (.int (way : Nat)), some (.ref p4), some (.ref e), y4, some (.str z), y6] ∧ Drawn a H H' ∧ z.length ≤ 368 + 2 * i ∧ Nb z.cps.toList) ⟨mk z0, y4, y6, rfl, e1, by rw [mk_len]; omega, by rw [mk_codes]; exact hwn⟩ (fun _ _ _ _ _ => trivial) (fun i x σ H9 H10 hi hp hy => ?_) (fun σ H9 hp => ?_)
          · obtain ⟨z, y4, y6, rfl, e2, hz, hn⟩ := hp
            obtain ⟨rfl, hxv⟩ := hy
            refine ⟨_, rfl, _, rfl, a, z, rfl, e2.src, by omega, hn, fun H11 r d11 hr11 hrn => ?_⟩
            exact ⟨r, _, y6, rfl, e2.trans d11, by omega, hrn⟩
          · obtain ⟨z, y4, y6, rfl, e2, hz, hn⟩ := hp
            have hz3 : z.length ≤ 372 := by omega
            refine ⟨_, rfl, rfl, _, rfl, ?_⟩
            refine ite_key (fun σ' H' => ∃ (z : Str) (y4 y6 : Option V), σ' = [some (.ref a), some (.int (way : Nat)), some (.ref p4), some (.ref e), y4, some (.str z), y6] ∧ Drawn a H H' ∧ z.length ≤ 400 ∧ Nb z.cps.toList) (fun σ' H' hJ => ?_) (fun key hc => ?_) (fun hc => ⟨z, y4, y6, rfl, e2, by omega, hn⟩)
            · obtain ⟨z, y4, y6, rfl, e3, hz7, hn7⟩ := hJ
              obtain ⟨hs1, hs2⟩ := strike_nb hn7
              refine ⟨_, rfl, z, rfl, (by rw [show ("" : Str).length = 0 by decide +kernel]; omega), _, ⟨by rw [sizeLine_eq]; omega, rfl⟩, ite2 (fun _ => ?_) (fun _ => ?_)⟩
              · exact q _ _ e3 (by omega) hs2
              · exact q _ _ e3 nb_x.1 nb_x.2
            · refine ⟨_, rfl, (by show 1 ≤ sizeLine; decide), fun q2 n2 => ?_⟩
              have e3 := e2.same (same_new (o := .lst (iv [97])) n2)
              refine ⟨q2, [97], 109, marksC, rfl, .inr ⟨rfl, rfl⟩, upd_same, by decide, by decide, fun H12 s12 => ?_⟩
              have hm7 : (mk (wordC marksC 109 [97])).length ≤ 20 := by decide +kernel
              have hn8 : Nb (mk (wordC marksC 109 [97])).cps.toList := by unfold Nb; decide +kernel
              refine ⟨_, _, rfl, rfl, (by rw [sizeLine_eq]; omega), key _ _ ⟨_, y4, y6, rfl, e3.same s12, by rw [len_append]; omega, nb_appH hn hn8⟩⟩
      · refine ⟨_, rfl, _, rfl, _, rfl, e, _, rfl, .inl (SqL.of t1.f), _, _, rfl, rfl, ?_⟩
        rw [iv_len]
        refine ⟨a, o.length + 1, rfl, by omega, by omega, t1.d.src, fun r7 H8 hr7 d7 => ?_⟩
        have t2 := t1.draw d7
        refine ⟨_, rfl, e, _, rfl, SqL.of t2.f, fun q7 n7 => ?_⟩
        rw [cut_takeR]
        exact key _ _ ⟨q7, o.take r7, y4, y5, y6, rfl, t2.new n7, fun n hn => hb1 n (List.mem_of_mem_take hn), Nat.le_trans (List.length_take_le' _ _) ho1⟩
    · refine ⟨_, rfl, a, 5, rfl, by decide, by decide, t0.d.src, fun N H6 hN d6 => ?_⟩
      have t1 := t0.draw d6
      refine ⟨(N : Int), rfl, by omega, by omega, fun D nD => ?_⟩
      have t2 := t1.new (x := .lst []) nD
      refine lc_it walk_range (fun i H' => ∃ o : List Nat, DR a H D (.lst (iv o)) H' ∧ (∀ n ∈ o, n < 256) ∧ o.length = i) ⟨[], t2, (fun n hn => nomatch hn), rfl⟩ (fun _ _ _ _ => trivial) (fun i x H10 H11 hi hp hy => ?_) (fun H10 hp => ?_)
      · obtain ⟨rfl, hxv⟩ := hy
        obtain ⟨o, t4, hb4, ho4⟩ := hp
        refine ⟨rfl, ?_⟩
        unfold tYes
        refine iteT ⟨_, rfl, a, 256, rfl, by decide, by decide, t4.d.src, fun r8 H12 hr8 d8 => ?_⟩
        have t5 := t4.draw d8
        refine ⟨_, t5.f, ?_, o ++ [r8], ?_, ?_, ?_⟩
        · rw [iv_len]
          exact szl (by omega)
        · have e9 : iv o ++ [.int (r8 : Nat)] = iv (o ++ [r8]) := by rw [iv_app]; rfl
          rw [e9]
          exact t5.set
        · intro n hn
          rcases List.mem_append.mp hn with hn | hn
          · exact hb4 n hn
          · rw [List.mem_singleton.mp hn]
            exact hr8
        · rw [List.length_append, ho4]
          rfl
      · obtain ⟨o, t4, hb4, ho4⟩ := hp
        exact key _ _ ⟨D, o, none, none, none, rfl, t4, hb4, by omega⟩
end
end FL

namespace FL
open PySem PySem.Spec PyProof.Rows L2
/-! ### how long what is told can be; the pieces of a joined value -/
theorem sayR_len {l : List Nat} : ∀ (n p : Nat) (r : List Nat), sayR l n p = some (.ok r) → r.length ≤ l.length - p
  | 0, p, r, h => by
    unfold sayR at h
    split at h
    · cases h
    · injection h with h
      injection h with h
      rw [← h]
      exact Nat.zero_le _
  | n + 1, p, r, h => by
    unfold sayR at h
    split at h
    · injection h with h
      injection h with h
      rw [← h]
      exact Nat.zero_le _
    · rename_i o ho
      have hp := (List.getElem?_eq_some_iff.mp ho).1
      have hs := sizeFrom_pos o
      split at h
      · injection h with h
        cases h
      · rename_i s hs2
        cases hr : sayR l n (p + ((l.drop p).take (sizeFrom o)).length) with
        | none =>
          rw [hr] at h
          cases h
        | some R =>
          rw [hr] at h
          have hk : 1 ≤ ((l.drop p).take (sizeFrom o)).length := by
            rw [List.length_take, List.length_drop]
            omega
          cases R with
          | error e =>
            injection h with h
            cases h
          | ok r2 =>
            have ih := sayR_len n _ r2 hr
            injection h with h
            injection h with h
            rw [← h, List.length_cons]
            omega
theorem sayO_len {o x : List Nat} (h : sayO o = some x) : x.length ≤ o.length := by
  unfold sayO at h
  split at h
  · rename_i s hs
    injection h with h
    have := sayR_len _ _ _ hs
    rw [← h]
    omega
  · cases h
theorem marksC_ge : ∀ o : List Nat, o.length ≤ (marksC o).length
  | [] => Nat.zero_le _
  | c :: r => by
    have ih := marksC_ge r
    have e : marksC (c :: r) = markC c ++ marksC r := by
      unfold marksC
      rw [List.flatMap_cons]
    have h1 : 1 ≤ (markC c).length := by
      unfold markC
      split
      · exact Nat.le_refl _
      · split
        · exact Nat.le_refl _
        · simp
    rw [e, List.length_append, List.length_cons]
    omega
theorem sixC_ge : ∀ o : List Nat, o.length ≤ (sixC o).length
  | [] => Nat.zero_le _
  | [a] => by
    have := four_len (l := [a]) (by simp) (by simp)
    show 1 ≤ (four [a]).length
    omega
  | [a, b] => by
    have := four_len (l := [a, b]) (by simp) (by simp)
    show 2 ≤ (four [a, b]).length
    omega
  | a :: b :: c :: r => by
    have ih := sixC_ge r
    have := four_len (l := [a, b, c]) (by simp) (by simp)
    show _ ≤ (four [a, b, c] ++ sixC r).length
    rw [List.length_append]
    simp only [List.length_cons]
    omega
theorem toldO_len {i b o : List Nat} {rd : RdC} {wr : List Nat → List Nat} (hw : ∀ o : List Nat, o.length ≤ (wr o).length) (h : toldO i b rd wr = some o) : o.length ≤ i.length := by
  unfold toldO at h
  split at h
  · cases h
  · split at h
    · rename_i o2 _ e
      injection h with h
      subst h
      rw [← e]
      exact hw _
    · cases h
theorem sayW_len {w x : List Nat} (h : sayW w = some x) : x.length ≤ w.length := by
  have hi := inner_len w
  unfold sayW at h
  split at h
  · cases h
  · rename_i o ho
    have h1 := sayO_len h
    unfold octW at ho
    split at ho
    · cases ho
    · split at ho
      · have := toldO_len sixC_ge ho
        omega
      · split at ho
        · have := toldO_len marksC_ge ho
          omega
        · cases ho
theorem lawD_len (hW : ∀ q x, sayW q = some x → x.length ≤ q.length) : ∀ (ps : List (List Nat)) (t : Bool) (b : Nat), (lawD t b ps).length ≤ b + (ps.map fun p => p.length + 1).sum
  | [], t, b => by
    rw [lawD_end, List.length_replicate]
    omega
  | p :: ps, t, b => by
    rw [List.map_cons, List.sum_cons]
    by_cases hp : p = []
    · subst hp
      have ih := lawD_len hW ps t (b + 1)
      rw [lawD_nil]
      simp only [List.length_nil]
      omega
    · have ih := lawD_len hW ps (sayW p).isSome 1
      have h1 : (if ((sayW p).isSome && t) = true then [] else List.replicate b 32).length ≤ b := by
        split
        · exact Nat.zero_le _
        · rw [List.length_replicate]
          exact Nat.le_refl _
      rw [lawD_cons hp, List.length_append, List.length_append]
      cases hs : sayW p with
      | none =>
        rw [hs] at ih h1
        dsimp only
        omega
      | some x =>
        rw [hs] at ih h1
        have h2 := hW p x hs
        dsimp only
        omega
theorem spb_sum : ∀ l : List Nat, (((spb l).1 :: (spb l).2).map fun p => p.length + 1).sum = l.length + 1
  | [] => rfl
  | c :: r => by
    have ih := spb_sum r
    unfold spb
    by_cases h : c = 32
    · rw [if_pos h]
      simp only [List.map_cons, List.sum_cons, List.length_cons, List.length_nil] at ih ⊢
      omega
    · rw [if_neg h]
      simp only [List.map_cons, List.sum_cons, List.length_cons] at ih ⊢
      omega
theorem spb_c (c : Nat) (z : List Nat) : spb (c :: z) = if c = 32 then ([], (spb z).1 :: (spb z).2) else (c :: (spb z).1, (spb z).2) := by rw [spb]
/-- the pieces of a value cut at its blanks -/
def runs (l : List Nat) : List (List Nat) := (spb l).1 :: (spb l).2
theorem decL_len (l : List Nat) : (decL l).length ≤ l.length + 1 := by
  rw [← lawD_dec l]
  have h1 := lawD_len (fun q x h => sayW_len h) ((spb l).1 :: (spb l).2) false 0
  have h2 := spb_sum l
  omega
theorem runs_app : ∀ (l m : List Nat), runs (l ++ 32 :: m) = runs l ++ runs m
  | [], m => by
    unfold runs
    have e : spb (32 :: m) = ([], (spb m).1 :: (spb m).2) := (spb_c 32 m).trans (if_pos rfl)
    show (spb (32 :: m)).1 :: (spb (32 :: m)).2 = _
    rw [e]
    rfl
  | c :: r, m => by
    have ih := runs_app r m
    unfold runs at ih ⊢
    show (spb (c :: (r ++ 32 :: m))).1 :: (spb (c :: (r ++ 32 :: m))).2 = _
    have e : ∀ z, spb (c :: z) = if c = 32 then ([], (spb z).1 :: (spb z).2) else (c :: (spb z).1, (spb z).2) := fun z => by rw [spb]
    rw [e, e]
    by_cases h : c = 32
    · rw [if_pos h, if_pos h, ih]
      rfl
    · rw [if_neg h, if_neg h]
      have h1 := List.cons.inj ih
      rw [h1.1, h1.2]
      rfl
theorem mem_sum : ∀ (ps : List (List Nat)) (q : List Nat), q ∈ ps → q.length + 1 ≤ (ps.map fun p => p.length + 1).sum
  | [], q, h => by cases h
  | p :: ps, q, h => by
    rw [List.map_cons, List.sum_cons]
    rcases List.mem_cons.mp h with rfl | h
    · omega
    · have := mem_sum ps q h
      omega
theorem runs_len {l q : List Nat} (h : q ∈ runs l) : q.length ≤ l.length := by
  have e := spb_sum l
  have : q.length + 1 ≤ (((spb l).1 :: (spb l).2).map fun p => p.length + 1).sum := mem_sum _ _ h
  omega
end FL

namespace FL
open PySem PySem.Spec PyProof.Rows L2
/-! ### a value joined of pieces of at most 400 signs, each with a blank behind -/
def Okl (l : List Nat) : Prop := ∀ m q, q ∈ runs (l ++ m) → q.length ≤ 400 ∨ q.length ≤ m.length
theorem runs_blanks (m : List Nat) : ∀ k q, q ∈ runs (List.replicate k 32 ++ m) → q = [] ∨ q ∈ runs m
  | 0, q, h => .inr h
  | k + 1, q, h => by
    have e : List.replicate (k + 1) 32 ++ m = [] ++ 32 :: (List.replicate k 32 ++ m) := by rw [List.replicate_succ]; rfl
    rw [e, runs_app] at h
    rcases List.mem_append.mp h with h | h
    · exact .inl (List.mem_singleton.mp h)
    · exact runs_blanks m k q h
theorem okl_blanks (k : Nat) : Okl (List.replicate k 32) := fun m q h => by
  rcases runs_blanks m k q h with rfl | h
  · exact .inl (Nat.zero_le _)
  · exact .inr (runs_len h)
theorem okl_more {l p : List Nat} (h : Okl l) (hp : p.length ≤ 400) (k : Nat) : Okl (l ++ p ++ List.replicate (k + 1) 32) := fun m q hq => by
  have e : l ++ p ++ List.replicate (k + 1) 32 ++ m = (l ++ p) ++ 32 :: (List.replicate k 32 ++ m) := by
    rw [List.replicate_succ, List.append_assoc]
    rfl
  rw [e, runs_app] at hq
  rcases List.mem_append.mp hq with hq | hq
  · rcases h p q hq with z | z
    · exact .inl z
    · exact .inl (Nat.le_trans z hp)
  · exact okl_blanks k m q hq
theorem okl_runs {l : List Nat} (h : Okl l) : ∀ q ∈ runs l, q.length ≤ 400 := fun q hq => by
  rcases h [] q (by rw [List.append_nil]; exact hq) with z | z
  · exact z
  · exact Nat.le_trans z (Nat.zero_le _)
/-- so also without the blanks at its end -/
theorem runs_front {l m : List Nat} {k : Nat} (e : l = m ++ List.replicate k 32) (h : ∀ q ∈ runs l, q.length ≤ 400) : ∀ q ∈ runs m, q.length ≤ 400 := fun q hq => by
  cases k with
  | zero =>
    rw [show l = m by rw [e]; simp] at h
    exact h q hq
  | succ k =>
    refine h q ?_
    rw [e, List.replicate_succ, runs_app]
    exact List.mem_append_left _ hq
theorem bl_has : (" " : Str).cps.contains = fun c => decide (c = 32) := by
  funext c
  show (#[32] : Array Nat).contains c = _
  simp
def rst32 (l : List Nat) : List Nat := (l.reverse.dropWhile fun c => decide (c = 32)).reverse
theorem rst32_codes (x : Str) : (Txt.rstripChars x (" " : Str)).cps.toList = rst32 x.cps.toList := by
  unfold Txt.rstripChars
  rw [bl_has, PyProof.Rows.stripBy_eq, PySem.StrLaws.strSub_toList]
  unfold PySem.stripHi PySem.stripLo rst32
  rw [if_neg Bool.false_ne_true, if_pos rfl, List.drop_zero, Nat.sub_zero]
  have hx := len_cps x
  generalize x.cps.toList = l at hx ⊢
  rw [← hx, ← drop_tw, List.drop_reverse, List.reverse_reverse]
theorem tw_rep : ∀ l : List Nat, l.takeWhile (fun c => decide (c = 32)) = List.replicate (l.takeWhile (fun c => decide (c = 32))).length 32
  | [] => rfl
  | c :: r => by
    have ih := tw_rep r
    rw [List.takeWhile_cons]
    by_cases h : c = 32
    · rw [if_pos (decide_eq_true h), List.length_cons, List.replicate_succ, ← ih, h]
    · rw [if_neg (by simpa using h)]
      rfl
theorem rst32_front (l : List Nat) : ∃ k, l = rst32 l ++ List.replicate k 32 := by
  refine ⟨(l.reverse.takeWhile fun c => decide (c = 32)).length, ?_⟩
  have h := List.takeWhile_append_dropWhile (p := fun c => decide (c = 32)) (l := l.reverse)
  have h2 := congrArg List.reverse h
  rw [List.reverse_reverse, List.reverse_append, tw_rep, List.reverse_replicate] at h2
  exact h2.symm
end FL

namespace FL
open PySem PySem.Spec PyProof.Rows L2
def BL5 : List Nat := [0, 0, 0, 1, 2]
theorem bl5 : ∀ m ∈ BL5, m ≤ 2 := by decide
section
variable {P : Program} {w : World} {K : PySem.W.Frag} {mg : Str → Option Value} {base : Heap}
def spLaw14 (K : PySem.W.Frag) : Sp := fun vs H Q _ => ∃ (a : Addr) (ns : List Int), vs = [.ref a] ∧ SqL K H a (ns.map V.int) ∧ ∀ H', Same H H' → Q (.bl true) H'
theorem scLaw : FnScope ["_law_script", "_law_k", "_law_source_here", "_law_line", "_law_j", "_law_due", "_law_turn", "_law_found"] ["_law_script"] (defScope sLaw) := ⟨rfl, rfl, rfl, by decide +kernel, rfl, by decide +kernel, by decide +kernel⟩
theorem ok_law14 {f : Addr} {fd : FuncData} (F : Fun K "law" "law" sLaw f fd) (R1 : Ready P w K mg base 2 "_law_source" ["_law_script", "_law_k"] (spSource K)) (R2 : Ready P w K mg base 2 "_law_next" ["_law_source_here", "_law_many"] spNextD) (R3 : Ready P w K mg base 4 "_law_piece" ["_law_source_here"] spPiece14) (R4 : Ready P w K mg base 4 "_law_decoded" ["_law_line"] spDecS) (R5 : ∃ f fd, mg "decoded" = some (.ref f) ∧ PySem.W.keepIn K (.ref f) = true ∧ L2.Binds K fd ["value"] [] ∧ KBs K fd ["value"] ∧ FnOk P w K mg base CX0 11 f fd ["value"] spDecoded) (m_len : mg "len" = none) (m_range : mg "range" = none) (m_max : mg "max" = none) (m_min : mg "min" = none) (m_list : mg "list" = none) (m_isinstance : mg "isinstance" = none) :
    FnOk P w K mg base CX0 12 f fd ["_law_script"] (spLaw14 K) := by
  obtain ⟨f1, fd1, g1, k1, b1, G1⟩ := R1
  obtain ⟨f2, fd2, g2, k2, b2, G2⟩ := R2
  obtain ⟨f3, fd3, g3, k3, b3, G3⟩ := R3
  obtain ⟨f4, fd4, g4, k4, b4, G4⟩ := R4
  obtain ⟨f5, fd5, g5, k5, b5, kb5, G5⟩ := R5
  refine F.ok scLaw (fun vs H Q E h => ?_) (fun cdv A outer s H vs Q E hr h => ?_)
  · obtain ⟨a, ns, rfl, _⟩ := h
    rfl
  · obtain ⟨a, ns, rfl, hS, q⟩ := h
    have sc := scLaw
    refine ⟨_, pss_cons (ps_for PassesOwn.never rfl (pi_range1 (by rfl) m_range (pa_cons (pe_callB (call_max2 rfl) (by rfl) m_max (by decide +kernel) (pa_cons pe_int (pa_cons (pe_callB (call_min2 rfl) (by rfl) m_min (by decide +kernel) (pa_cons pe_int (pa_cons (pe_callB call_len_seq (by rfl) m_len PySem.boot_len (pa_cons (pv 0) pa_nil)) pa_nil))) pa_nil))) pa_nil)) (pg_name (i := 1) sc.nd rfl (.inl rfl))
        (pss_cons (ps_set (i := 2) sc.nd rfl (.inl rfl) (pe_call G1 (hr.mono (by decide)) (by rfl) g1 k1 b1 .nil pass0 (pa_cons (pv 0) (pa_cons (pv 1) pa_nil))))
          (pss_cons (ps_set (i := 3) sc.nd rfl (.inl rfl) (pe_op op_mulS pe_str (pe_ix ix_list (pe_lst (pa_cons pe_int (pa_cons pe_int (pa_cons pe_int (pa_cons pe_int (pa_cons pe_int pa_nil)))))) (pe_call G2 (hr.mono (by decide)) (by rfl) g2 k2 b2 .nil pass0 (pa_cons (pv 2) (pa_cons pe_int pa_nil))) (fun _ _ => rfl))))
          (pss_cons (ps_for PassesOwn.never rfl (pi_range1 (by rfl) m_range (pa_cons (pe_call G2 (hr.mono (by decide)) (by rfl) g2 k2 b2 .nil pass0 (pa_cons (pv 2) (pa_cons pe_int pa_nil))) pa_nil)) (pg_name (i := 4) sc.nd rfl (.inl rfl))
            (pss_one (ps_set (i := 3) sc.nd rfl (.inl rfl) (pe_op op_add_str (pe_op op_add_str (pv 3) (pe_call G3 (hr.mono (by decide)) (by rfl) g3 k3 b3 .nil pass0 (pa_cons (pv 2) pa_nil))) (pe_op op_mulS pe_str (pe_op op_add pe_int (pe_ix ix_list (pe_lst (pa_cons pe_int (pa_cons pe_int (pa_cons pe_int (pa_cons (pe_call G2 (hr.mono (by decide)) (by rfl) g2 k2 b2 .nil pass0 (pa_cons (pv 2) (pa_cons pe_int pa_nil))) pa_nil))))) (pe_call G2 (hr.mono (by decide)) (by rfl) g2 k2 b2 .nil pass0 (pa_cons (pv 2) (pa_cons pe_int pa_nil))) (fun _ _ => rfl))))))))
          (pss_cons (ps_if (pt_cmpR op_gt (pe_call G2 (hr.mono (by decide)) (by rfl) g2 k2 b2 .nil pass0 (pa_cons (pv 2) (pa_cons pe_int pa_nil))) pe_int (nomark _))
            (pss_one (ps_set (i := 3) sc.nd rfl (.inl rfl) (pe_bm PySem.F.plainAttrs_str PySem.F.slot_str_rstrip PySem.F.type_str_rstrip mt_rstripChars (pv 3) (pa_cons pe_str pa_nil))))
            pss_nil)
          (pss_cons (ps_set (i := 5) sc.nd rfl (.inl rfl) (pe_call G4 (hr.mono (by decide)) (by rfl) g4 k4 b4 .nil pass0 (pa_cons (pv 3) pa_nil)))
          (pss_one (ps_for PassesOwn.never rfl (pi_range1 (by rfl) m_range (pa_cons pe_int pa_nil)) (pg_name (i := 6) sc.nd rfl (.inl rfl))
            (pss_cons (ps_set (i := 7) sc.nd rfl (.inl rfl) (pe_call G5 (hr.mono (by decide)) (by rfl) g5 k5 b5 .nil pass0 (pa_cons (pv 3) pa_nil)))
              (pss_cons (ps_if (PW.pt (pw_or (pt_not (pt_val (pe_callB call_isi (by rfl) m_isinstance (by decide +kernel) (pa_cons (pv 7) (pa_cons (pe_bltn (v := .ty "list") (by rfl) m_list (by decide +kernel) rfl) pa_nil))))) (pw_or (pt_cmpR (op_neD hr.units) (pv 7) (pv 5) (nomark _)) (pw_or1 (pt_cmpR (op_neD hr.units) (pe_callN0 G5 (hr.mono (by decide)) (by rfl) g5 k5 kb5 pass0 (pk_cons (pv 3) pk_nil)) (pv 5) (nomark _))))))
                (pss_one (ps_ret pe_bl))
                pss_nil)
              (pss_one (ps_expr (pe_bm PySem.F.plainAttrs_list PySem.F.slot_list_append PySem.F.type_list_append mt_append (pv 7) (pa_cons pe_int pa_nil))))))))))))))
      (pss_one (ps_ret pe_bl)), ?_⟩
    have hlen : (ns.map V.int).length = ns.length := List.length_map ..
    refine ⟨_, rfl, a, _, rfl, .inl hS, ?_⟩
    rw [hlen]
    refine ⟨_, _, rfl, _, _, rfl, ?_⟩
    generalize hM : (if (if (ns.length : Int) < 4 then (ns.length : Int) else 4) > 1 then (if (ns.length : Int) < 4 then (ns.length : Int) else 4) else 1) = M
    have hM0 : 0 ≤ M ∧ M ≤ 100 := by
      rw [← hM]
      constructor <;> (split <;> split <;> omega)
    refine ⟨M, rfl, by omega, by omega, ?_⟩
    refine for_it walk_range (fun i σ H' => ∃ y1 y2 y3 y4 y5 y6 y7, σ = [some (.ref a), y1, y2, y3, y4, y5, y6, y7] ∧ Same H H') ⟨none, none, none, none, none, none, none, rfl, Same.refl H⟩ (fun _ _ _ _ _ => trivial) (fun i x σ H1 H2 hi hp hy => ?_) (fun σ H1 hp => by obtain ⟨y1, y2, y3, y4, y5, y6, y7, rfl, sm⟩ := hp; exact q _ sm)
    obtain ⟨y1, y2, y3, y4, y5, y6, y7, rfl, sm⟩ := hp
    obtain ⟨rfl, hxv⟩ := hy
    have hx' : x = .int (i : Nat) := by
      rw [hxv]
      exact congrArg V.int (Int.zero_add _)
    subst hx'
    refine ⟨_, rfl, _, rfl, a, ns, i, rfl, sm.seq hS, fun H3 sr s3 nsr hsr => ?_⟩
    have nsr0 : H sr = none := Same.free sm nsr
    have s03 : Same H H3 := sm.trans s3
    refine ⟨(by show 5 ≤ sizeLine; decide), fun q1 n1 => ?_⟩
    have e1 := (Drawn.refl hsr).same (same_new (o := .lst (BL5.map fun m => V.int (m : Nat))) n1)
    have hq1 : (upd H3 q1 (.lst (BL5.map fun m => V.int (m : Nat)))) q1 = some (.lst (BL5.map fun m => V.int (m : Nat))) := upd_same
    refine ⟨_, rfl, sr, 5, rfl, by decide, by decide, e1.src, fun r1 H4 hr1 d4 => ?_⟩
    have hr1' : r1 < BL5.length := hr1
    refine ⟨q1, _, _, .int ((BL5[r1]'hr1' : Nat) : Int), rfl, rfl, SqL.of (d4.old q1 _ (hsr.neR n1) hq1), pickNR (ms := BL5) hr1', ?_⟩
    have hk0 := bl5 _ (List.getElem_mem hr1')
    generalize (BL5[r1]'hr1' : Nat) = k0 at hk0
    refine ⟨32, k0, by decide +kernel, rfl, by omega, ?_⟩
    have e2 := e1.trans d4
    refine ⟨_, rfl, sr, 7, rfl, by decide, by decide, e2.src, fun N H5 hN d5 => ?_⟩
    refine ⟨(N : Int), rfl, by omega, by omega, ?_⟩
    refine for_it walk_range (fun j σ H' => ∃ (l : List Nat) (y4 : Option V), σ = [some (.ref a), some (.int (i : Nat)), some (.ref sr), some (.str (mk l)), y4, y5, y6, y7] ∧ Drawn sr H3 H' ∧ Nb l ∧ l.length ≤ 2 + 404 * j ∧ Okl l) ⟨List.replicate k0 32, y4, rfl, e2.trans d5, Nmb.bl k0, by rw [List.length_replicate]; omega, okl_blanks k0⟩ (fun _ _ _ _ _ => trivial) (fun j x σ H6 H7 hj hp hy => ?_) (fun σ H6 hp => ?_)
    · obtain ⟨l, y4, rfl, e3, hn, hl, ho⟩ := hp
      obtain ⟨rfl, hxv⟩ := hy
      refine ⟨_, rfl, _, rfl, sr, rfl, e3.src, fun H8 r d8 hr8 hrn => ?_⟩
      have hrl := len_cps r
      obtain ⟨p, rfl⟩ : ∃ p, r = mk p := ⟨_, (mk_of r).symm⟩
      rw [mk_codes] at hrn hrl
      rw [mk_len] at hr8
      have c1 := catX (rfl : mk l = _) (rfl : mk p = _)
      refine ⟨_, _, rfl, rfl, (by rw [mk_len, mk_len, sizeLine_eq]; omega), ?_⟩
      refine ⟨_, rfl, sr, 3, rfl, by decide, by decide, (e3.trans d8).src, fun r3 H9 hr3 d9 => ?_⟩
      have e4 := (e3.trans d8).trans d9
      refine ⟨(by show 4 ≤ sizeLine; decide), fun q2 n2 => ?_⟩
      have e5 := e4.same (same_new (o := .lst (([0, 0, 0, r3] : List Nat).map fun m => V.int (m : Nat))) n2)
      have hq2 : (upd H9 q2 (.lst (([0, 0, 0, r3] : List Nat).map fun m => V.int (m : Nat)))) q2 = some (.lst (([0, 0, 0, r3] : List Nat).map fun m => V.int (m : Nat))) := upd_same
      refine ⟨_, rfl, sr, 4, rfl, by decide, by decide, e5.src, fun r4 H10 hr4 d10 => ?_⟩
      have hr4' : r4 < ([0, 0, 0, r3] : List Nat).length := hr4
      refine ⟨q2, _, _, .int ((([0, 0, 0, r3] : List Nat)[r4]'hr4' : Nat) : Int), rfl, rfl, SqL.of (d10.old q2 _ (e4.src.neR n2) hq2), pickNR (ms := [0, 0, 0, r3]) hr4', ?_⟩
      have hk : (([0, 0, 0, r3] : List Nat)[r4]'hr4' : Nat) ≤ 2 := by
        have hm := List.getElem_mem hr4'
        generalize (([0, 0, 0, r3] : List Nat)[r4]'hr4' : Nat) = kk at hm
        simp only [List.mem_cons, List.not_mem_nil, or_false] at hm
        omega
      generalize (([0, 0, 0, r3] : List Nat)[r4]'hr4' : Nat) = k at hk
      refine ⟨_, _, rfl, rfl, 32, k + 1, by decide +kernel, congrArg V.int (by omega), by omega, ?_⟩
      have c2 := catX c1 (rfl : mk (List.replicate (k + 1) 32) = _)
      refine ⟨_, _, rfl, rfl, (by rw [len_append, mk_len, mk_len, mk_len, List.length_replicate, sizeLine_eq]; omega), ?_⟩
      rw [c2]
      refine ⟨l ++ p ++ List.replicate (k + 1) 32, _, rfl, e5.trans d10, (Nmb.app (Nmb.app hn hrn) (Nmb.bl _)), ?_, okl_more ho (by omega) k⟩
      rw [List.length_append, List.length_append, List.length_replicate]
      omega
    · obtain ⟨l, y4, rfl, e3, hn, hl, ho⟩ := hp
      have hl29 : l.length ≤ 2500 := by omega
      refine ⟨_, rfl, sr, 3, rfl, by decide, by decide, e3.src, fun r5 H7 hr5 d7 => ?_⟩
      have s07 : Same H H7 := same_drawn s03 nsr0 (e3.trans d7)
      refine ⟨_, _, rfl, rfl, _, rfl, ?_⟩
      refine ite_key (fun σ' H' => ∃ (l : List Nat) (y4 : Option V), σ' = [some (.ref a), some (.int (i : Nat)), some (.ref sr), some (.str (mk l)), y4, y5, y6, y7] ∧ Same H H' ∧ Nb l ∧ l.length ≤ 2500 ∧ ∀ q ∈ runs l, q.length ≤ 400) (fun σ' H' hJ => ?_) (fun key hc => ?_) (fun hc => ⟨l, y4, rfl, s07, hn, hl29, okl_runs ho⟩)
      · obtain ⟨l, y4, rfl, s7, hn, hl, hr4⟩ := hJ
        have hd := decL_len l
        refine ⟨_, rfl, mk l, rfl, by rw [mk_len]; omega, by rw [mk_codes]; exact hn, (by rw [mk_codes]; exact fun q hq => Nat.le_trans (hr4 q hq) (by decide)), by rw [mk_codes]; omega, fun H8 du s8 nd hdu => ?_⟩
        rw [mk_codes] at hdu
        refine ⟨2, rfl, by decide, by decide, ?_⟩
        refine for_it walk_range (fun t σ H' => ∃ (z6 z7 : Option V), σ = [some (.ref a), some (.int (i : Nat)), some (.ref sr), some (.str (mk l)), y4, some (.ref du), z6, z7] ∧ Same H8 H') ⟨y6, y7, rfl, Same.refl H8⟩ (fun _ _ _ _ _ => trivial) (fun t x σ H9 H10 ht hp hy => ?_) (fun σ H9 hp => ?_)
        · obtain ⟨z6, z7, rfl, s9⟩ := hp
          obtain ⟨rfl, _⟩ := hy
          refine ⟨_, rfl, mk l, rfl, by rw [mk_len]; omega, by rw [mk_codes]; exact (Nmb.isLn hn), by rw [mk_codes]; omega, fun H11 p s11 np hp => ?_⟩
          rw [mk_codes] at hp
          have np8 : H8 p = none := Same.free s9 np
          refine ⟨_, rfl, _, _, .type "list", .type "list", true, rfl, ClsV.ty "list", .base (.lst hp), kit_ty (by decide +kernel), true, rfl, iteF ?_⟩
          refine ⟨_, rfl, _, rfl, _, _, dpl hp, dpl ((s9.trans s11) _ _ hdu), shaped_ints _, shaped_ints _, _, rfl, ?_⟩
          rw [eqv_ints, decide_eq_true rfl]
          refine iteF ⟨_, rfl, rfl, mk l, rfl, by rw [mk_len]; omega, by rw [mk_codes]; exact (Nmb.isLn hn), by rw [mk_codes]; omega, fun H12 q2 s12 nq2 hq2 => ⟨_, rfl, _, _, dpl hq2, dpl ((s9.trans (s11.trans s12)) _ _ hdu), shaped_ints _, shaped_ints _, _, rfl, ?_⟩⟩
          rw [mk_codes, eqv_ints, decide_eq_true rfl]
          refine iteF ?_
          have hp12 := s12 _ _ hp
          refine ⟨_, rfl, .inl ⟨rfl, _, SqL.of hp12⟩, p, _, _, rfl, rfl, hp12, (by rw [iv_len, sizeLine_eq]; omega), ?_⟩
          exact ⟨_, _, rfl, same_set (s9.trans (s11.trans s12)) np8⟩
        · obtain ⟨z6, z7, rfl, s9⟩ := hp
          exact ⟨_, _, _, _, _, _, _, rfl, s7.trans (s8.trans s9)⟩
      · obtain ⟨k, hk⟩ := rst32_front l
        have hrs := runs_front hk (okl_runs ho)
        have e32 : Txt.rstripChars (mk l) (" " : Str) = mk (rst32 l) := mk_eq (by rw [rst32_codes, mk_codes])
        have hln : (rst32 l).length ≤ l.length := by
          have := congrArg List.length hk
          rw [List.length_append] at this
          omega
        have hnn : Nb (rst32 l) := fun c hc => hn c (by rw [hk]; exact List.mem_append_left _ hc)
        refine ⟨_, rfl, rfl, _, _, rfl, rfl, by rw [mk_len, sizeLine_eq]; omega, ?_⟩
        rw [e32]
        exact key _ _ ⟨rst32 l, y4, rfl, s07, hnn, by omega, hrs⟩
end
end FL

namespace FL
open PySem PySem.Spec PyProof.Rows L2
theorem all_mk {l : PySem.W.OpenLaw} {w : World} {K : PySem.W.Frag} {h : Heap} {mg : Str → Option Value} {fa f1 f2 f3 f4 f5 f6 f7 f8 f9 f10 f11 f12 f13 f14 f15 f16 f17 f18 f19 f20 f21 f22 f23 f24 f25 f26 f27 f28 f29 f30 f31 f32 f33 f34 f35 f36 f37 f38 f39 f40 f41 f42 f43 f44 f45 f46 f47 f48 f49 f50 f51 f52 f53 f54 f55 f56 f57 f58 f59 f60 f61 f62 f63 : Addr} (X : K.In h) (G : h.Ns mainGlobals mg) (hfa : mg "law" = some (.ref fa))
    {od1 an1 od2 an2 od3 an3 od4 an4 od5 an5 od6 an6 od7 an7 od8 an8 od9 an9 od10 an10 od11 an11 od12 an12 od13 an13 od14 an14 od15 an15 od16 an16 od17 an17 od18 an18 od19 an19 od20 an20 od21 an21 od22 an22 od23 an23 od24 an24 od25 an25 od26 an26 od27 an27 od28 an28 od29 an29 od30 an30 od31 an31 od32 an32 od33 an33 od34 an34 od35 an35 od36 an36 od37 an37 od38 an38 od39 an39 od40 an40 od41 an41 od42 an42 od43 an43 od44 an44 od45 an45 od46 an46 od47 an47 od48 an48 od49 an49 od50 an50 od51 an51 od52 an52 od53 an53 od54 an54 od55 an55 od56 an56 od57 an57 od58 an58 od59 an59 od60 an60 od61 an61 od62 an62 od63 an63 : Option Addr} {sl1 sl2 sl3 sl4 sl5 sl6 sl7 sl8 sl9 sl10 sl11 sl12 sl13 sl14 sl15 sl16 sl17 sl18 sl19 sl20 sl21 sl22 sl23 sl24 sl25 sl26 sl27 sl28 sl29 sl30 sl31 sl32 sl33 sl34 sl35 sl36 sl37 sl38 sl39 sl40 sl41 sl42 sl43 sl44 sl45 sl46 sl47 sl48 sl49 sl50 sl51 sl52 sl53 sl54 sl55 sl56 sl57 sl58 sl59 sl60 sl61 sl62 sl63 : Array (Option Value)} {oc1 kV1 dc1 pm1 cd1 ct1 oc2 kV2 dc2 pm2 cd2 ct2 oc3 kV3 dc3 pm3 cd3 ct3 oc4 kV4 dc4 pm4 cd4 ct4 oc5 kV5 dc5 pm5 cd5 ct5 oc6 kV6 dc6 pm6 cd6 ct6 oc7 kV7 dc7 pm7 cd7 ct7 oc8 kV8 dc8 pm8 cd8 ct8 oc9 kV9 dc9 pm9 cd9 ct9 oc10 kV10 dc10 pm10 cd10 ct10 oc11 kV11 dc11 pm11 cd11 ct11 oc12 kV12 dc12 pm12 cd12 ct12 oc13 kV13 dc13 pm13 cd13 ct13 oc14 kV14 dc14 pm14 cd14 ct14 oc15 kV15 dc15 pm15 cd15 ct15 oc16 kV16 dc16 pm16 cd16 ct16 oc17 kV17 dc17 pm17 cd17 ct17 oc18 kV18 dc18 pm18 cd18 ct18 oc19 kV19 dc19 pm19 cd19 ct19 oc20 kV20 dc20 pm20 cd20 ct20 oc21 kV21 dc21 pm21 cd21 ct21 oc22 kV22 dc22 pm22 cd22 ct22 oc23 kV23 dc23 pm23 cd23 ct23 oc24 kV24 dc24 pm24 cd24 ct24 oc25 kV25 dc25 pm25 cd25 ct25 oc26 kV26 dc26 pm26 cd26 ct26 oc27 kV27 dc27 pm27 cd27 ct27 oc28 kV28 dc28 pm28 cd28 ct28 oc29 kV29 dc29 pm29 cd29 ct29 oc30 kV30 dc30 pm30 cd30 ct30 oc31 kV31 dc31 pm31 cd31 ct31 oc32 kV32 dc32 pm32 cd32 ct32 oc33 kV33 dc33 pm33 cd33 ct33 oc34 kV34 dc34 pm34 cd34 ct34 oc35 kV35 dc35 pm35 cd35 ct35 oc36 kV36 dc36 pm36 cd36 ct36 oc37 kV37 dc37 pm37 cd37 ct37 oc38 kV38 dc38 pm38 cd38 ct38 oc39 kV39 dc39 pm39 cd39 ct39 oc40 kV40 dc40 pm40 cd40 ct40 oc41 kV41 dc41 pm41 cd41 ct41 oc42 kV42 dc42 pm42 cd42 ct42 oc43 kV43 dc43 pm43 cd43 ct43 oc44 kV44 dc44 pm44 cd44 ct44 oc45 kV45 dc45 pm45 cd45 ct45 oc46 kV46 dc46 pm46 cd46 ct46 oc47 kV47 dc47 pm47 cd47 ct47 oc48 kV48 dc48 pm48 cd48 ct48 oc49 kV49 dc49 pm49 cd49 ct49 oc50 kV50 dc50 pm50 cd50 ct50 oc51 kV51 dc51 pm51 cd51 ct51 oc52 kV52 dc52 pm52 cd52 ct52 oc53 kV53 dc53 pm53 cd53 ct53 oc54 kV54 dc54 pm54 cd54 ct54 oc55 kV55 dc55 pm55 cd55 ct55 oc56 kV56 dc56 pm56 cd56 ct56 oc57 kV57 dc57 pm57 cd57 ct57 oc58 kV58 dc58 pm58 cd58 ct58 oc59 kV59 dc59 pm59 cd59 ct59 oc60 kV60 dc60 pm60 cd60 ct60 oc61 kV61 dc61 pm61 cd61 ct61 oc62 kV62 dc62 pm62 cd62 ct62 oc63 kV63 dc63 pm63 cd63 ct63 : Value} {tk1 tk2 tk3 tk4 tk5 tk6 tk7 : Tok}
    {CL fL TL : Addr} {odL anL odTL : Option Addr} {slL slTL : Array (Option Value)} {ocL kVL dcL pmL cdL ctL ocTL : Value} {tkL : Tok} {nTL : Nat}
    {C fC TC NC : Addr} {nmC qC : Str} {bsC bmC : List Value} {snC : List Str} {subC : List Value} {abC : Bool} {colC : Option Bool} {ddC odC anC odTC : Option Addr} {m0C m1C m2C m3C m5C : Option Value} {slC slTC : Array (Option Value)} {ocC kVC dcC pmC cdC ctC ocTC : Value} {tkC : Tok} {nTC : Nat}
    {CS fCS TCS NCS : Addr} {nmCS qCS : Str} {bsCS bmCS : List Value} {snCS : List Str} {subCS : List Value} {abCS : Bool} {colCS : Option Bool} {ddCS odCS anCS odTCS : Option Addr} {m0CS m1CS m2CS m3CS m5CS : Option Value} {slCS slTCS : Array (Option Value)} {ocCS kVCS dcCS pmCS cdCS ctCS ocTCS : Value} {tkCS : Tok} {nTCS : Nat}
    {CN NCN : Addr} {nmCN qCN : Str} {bsCN bmCN : List Value} {snCN : List Str} {subCN : List Value} {abCN : Bool} {colCN : Option Bool} {ddCN : Option Addr} {m0CN m1CN m2CN m3CN m5CN : Option Value}
    {a_WRITERS : Addr} {es_WRITERS : Array DictEntry} {n_WRITERS : Nat}
    {a_READERS : Addr} {es_READERS : Array DictEntry} {n_READERS : Nat}
    (gL : PySem.W.nsIn K mainGlobals "LetterError" = some (some (.ref CL)))
    (iL : PySem.W.findIn K (.ref CL) "__init__" = some (some (.ref fL)))
    (lL : K.lookup fL = some ⟨ocL, odL, .func (PySem.W.fnOf "__init__" "LetterError.__init__" (defArgs sLE) (defBody sLE) (defScope sLE) (.ref TL) kVL dcL pmL anL cdL ctL), slL⟩)
    (cL : PySem.W.codeIn K cdL "LetterError.__init__" = true)
    (kL : PySem.W.keepIn K (.ref fL) = true)
    (dL : K.lookup TL = some ⟨ocTL, odTL, .seq #[.str ("" : Str) tkL] nTL, slTL⟩)
    (gaL : PySem.W.specialIn K (.ref CL) "__getattribute__" = some (some (.builtin "type.__getattribute__")))
    (rdL : PySem.W.readsIn K CL (.type "type") = true)
    (atL : PySem.W.findCls K (.ref CL) (.type "type") "__init__" = some (.val (.ref fL)))
    (vV : PySem.W.findCls K (.type "ValueError") (.type "type") "__init__" = some (.val (.builtin "ValueError.__init__")))
    (zVE : PySem.W.nsIn K mainGlobals "ValueError" = some none)
    (exL : PySem.W.subIn K (.ref CL) (.type "BaseException") = some true)
    (hdL : PySem.W.hasDictIn K CL = true)
    (tyL : PySem.W.typeIn K (.ref CL) = some (.type "type"))
    (tifL : PySem.W.typeIn K (.ref fL) = some (.type "function"))
    (gC : PySem.W.nsIn K mainGlobals "NoCode" = some (some (.ref C)))
    (xC : K.lookup C = some (excClassObj nmC qC C NC bsC bmC true snC subC abC colC ddC m0C m1C m2C m3C m5C "ValueError.__new__"))
    (rvC : PySem.HandSPX.refsVE bmC = true)
    (saC : PySem.W.findIn K (.ref C) "__setattr__" = some (some (.builtin "object.__setattr__")))
    (exC : PySem.W.subIn K (.ref C) (.type "BaseException") = some true)
    (tyC : PySem.W.typeIn K (.ref C) = some (.type "type"))
    (kcC : PySem.W.keepIn K (.ref C) = true)
    (noC : PySem.W.findIn K (.ref C) "at" = some none)
    (iC : PySem.W.findIn K (.ref C) "__init__" = some (some (.ref fC)))
    (tiC : PySem.W.typeIn K (.ref fC) = some (.type "function"))
    (lC : K.lookup fC = some ⟨ocC, odC, .func (PySem.W.fnOf "__init__" "NoCode.__init__" (defArgs sNC) (defBody sNC) (defScope sNC) (.ref TC) kVC dcC pmC anC cdC ctC), slC⟩)
    (cC : PySem.W.codeIn K cdC "NoCode.__init__" = true)
    (kC : PySem.W.keepIn K (.ref fC) = true)
    (dC : K.lookup TC = some ⟨ocTC, odTC, .seq #[.int 0 tkC] nTC, slTC⟩)
    (hgC : PySem.W.findIn K (.ref C) "__getattribute__" = some (some (.builtin "BaseException.__getattribute__")))
    (hkC : PySem.W.findIn K (.ref C) "__getattr__" = some none)
    (hdC : PySem.W.hasDictIn K C = true)
    (haC : PySem.W.findIn K (.ref C) "__class__" = some (some (.builtin "object.__class__")))
    (hmC : PySem.W.mroIn K C (.type "object") = some true)
    (suC : PySem.W.subIn K (.ref C) (.ref CL) = some true)
    (gCS : PySem.W.nsIn K mainGlobals "NoSaying" = some (some (.ref CS)))
    (xCS : K.lookup CS = some (excClassObj nmCS qCS CS NCS bsCS bmCS true snCS subCS abCS colCS ddCS m0CS m1CS m2CS m3CS m5CS "ValueError.__new__"))
    (rvCS : PySem.HandSPX.refsVE bmCS = true)
    (saCS : PySem.W.findIn K (.ref CS) "__setattr__" = some (some (.builtin "object.__setattr__")))
    (exCS : PySem.W.subIn K (.ref CS) (.type "BaseException") = some true)
    (tyCS : PySem.W.typeIn K (.ref CS) = some (.type "type"))
    (kcCS : PySem.W.keepIn K (.ref CS) = true)
    (noCS : PySem.W.findIn K (.ref CS) "at" = some none)
    (iCS : PySem.W.findIn K (.ref CS) "__init__" = some (some (.ref fCS)))
    (tiCS : PySem.W.typeIn K (.ref fCS) = some (.type "function"))
    (lCS : K.lookup fCS = some ⟨ocCS, odCS, .func (PySem.W.fnOf "__init__" "NoSaying.__init__" (defArgs sNS) (defBody sNS) (defScope sNS) (.ref TCS) kVCS dcCS pmCS anCS cdCS ctCS), slCS⟩)
    (cCS : PySem.W.codeIn K cdCS "NoSaying.__init__" = true)
    (kCS : PySem.W.keepIn K (.ref fCS) = true)
    (dCS : K.lookup TCS = some ⟨ocTCS, odTCS, .seq #[.int 0 tkCS] nTCS, slTCS⟩)
    (hgCS : PySem.W.findIn K (.ref CS) "__getattribute__" = some (some (.builtin "BaseException.__getattribute__")))
    (hkCS : PySem.W.findIn K (.ref CS) "__getattr__" = some none)
    (hdCS : PySem.W.hasDictIn K CS = true)
    (haCS : PySem.W.findIn K (.ref CS) "__class__" = some (some (.builtin "object.__class__")))
    (hmCS : PySem.W.mroIn K CS (.type "object") = some true)
    (suCS : PySem.W.subIn K (.ref CS) (.ref CL) = some true)
    (gCN : PySem.W.nsIn K mainGlobals "NoOctets" = some (some (.ref CN)))
    (xCN : K.lookup CN = some (excClassObj nmCN qCN CN NCN bsCN bmCN true snCN subCN abCN colCN ddCN m0CN m1CN m2CN m3CN m5CN "ValueError.__new__"))
    (rvCN : PySem.HandSPX.refsVE bmCN = true)
    (saCN : PySem.W.findIn K (.ref CN) "__setattr__" = some (some (.builtin "object.__setattr__")))
    (exCN : PySem.W.subIn K (.ref CN) (.type "BaseException") = some true)
    (tyCN : PySem.W.typeIn K (.ref CN) = some (.type "type"))
    (kcCN : PySem.W.keepIn K (.ref CN) = true)
    (iCN : PySem.W.findIn K (.ref CN) "__init__" = some (some (.ref fL)))
    (hgCN : PySem.W.findIn K (.ref CN) "__getattribute__" = some (some (.builtin "BaseException.__getattribute__")))
    (hkCN : PySem.W.findIn K (.ref CN) "__getattr__" = some none)
    (hdCN : PySem.W.hasDictIn K CN = true)
    (haCN : PySem.W.findIn K (.ref CN) "__class__" = some (some (.builtin "object.__class__")))
    (hmCN : PySem.W.mroIn K CN (.type "object") = some true)
    (suCN : PySem.W.subIn K (.ref CN) (.ref CL) = some true)
    (hn0 : PySem.W.specialIn K (.builtin "object.__class__") "__get__" = some (some (.builtin "getset_descriptor.__get__")))
    (ht0 : PySem.W.takesIn K (.builtin "object.__class__") = some true)
    (suSelf : PySem.W.subIn K (.ref C) (.ref C) = some true)
    (suSelfS : PySem.W.subIn K (.ref CS) (.ref CS) = some true)
    (g_WRITERS : PySem.W.nsIn K mainGlobals "WRITERS" = some (some (.ref a_WRITERS)))
    (l_WRITERS : K.lookup a_WRITERS = some ⟨.type "dict", none, .dict es_WRITERS n_WRITERS, #[]⟩)
    (kly_WRITERS : PySem.W.KeysLit w.params es_WRITERS.toList)
    (lox_WRITERS : (a_WRITERS == sysModules) = false)
    (s_WRITERS_plain : PySem.W.nsIn K a_WRITERS "plain" = some (some (.ref f18)))
    (s_WRITERS_sixes : PySem.W.nsIn K a_WRITERS "sixes" = some (some (.ref f20)))
    (s_WRITERS_marks : PySem.W.nsIn K a_WRITERS "marks" = some (some (.ref f25)))
    (g_READERS : PySem.W.nsIn K mainGlobals "READERS" = some (some (.ref a_READERS)))
    (l_READERS : K.lookup a_READERS = some ⟨.type "dict", none, .dict es_READERS n_READERS, #[]⟩)
    (kly_READERS : PySem.W.KeysLit w.params es_READERS.toList)
    (lox_READERS : (a_READERS == sysModules) = false)
    (s_READERS_plain : PySem.W.nsIn K a_READERS "plain" = some (some (.ref f19)))
    (s_READERS_sixes : PySem.W.nsIn K a_READERS "sixes" = some (some (.ref f22)))
    (s_READERS_marks : PySem.W.nsIn K a_READERS "marks" = some (some (.ref f27)))
    (a1 : PySem.W.nsIn K mainGlobals "is_text" = some (some (.ref f1))) (l1 : K.lookup f1 = some ⟨oc1, od1, .func (PySem.W.fnOf "is_text" "is_text" (defArgs sIsText) (defBody sIsText) (defScope sIsText) .none kV1 dc1 pm1 an1 cd1 ct1), sl1⟩) (c1 : PySem.W.codeIn K cd1 "is_text" = true) (k1 : PySem.W.keepIn K (.ref f1) = true)
    (a2 : PySem.W.nsIn K mainGlobals "is_line" = some (some (.ref f2))) (l2 : K.lookup f2 = some ⟨oc2, od2, .func (PySem.W.fnOf "is_line" "is_line" (defArgs sIsLine) (defBody sIsLine) (defScope sIsLine) .none kV2 dc2 pm2 an2 cd2 ct2), sl2⟩) (c2 : PySem.W.codeIn K cd2 "is_line" = true) (k2 : PySem.W.keepIn K (.ref f2) = true)
    (a3 : PySem.W.nsIn K mainGlobals "is_letter" = some (some (.ref f3))) (l3 : K.lookup f3 = some ⟨oc3, od3, .func (PySem.W.fnOf "is_letter" "is_letter" (defArgs sIsLetter) (defBody sIsLetter) (defScope sIsLetter) .none kV3 dc3 pm3 an3 cd3 ct3), sl3⟩) (c3 : PySem.W.codeIn K cd3 "is_letter" = true) (k3 : PySem.W.keepIn K (.ref f3) = true)
    (a4 : PySem.W.nsIn K mainGlobals "is_figure" = some (some (.ref f4))) (l4 : K.lookup f4 = some ⟨oc4, od4, .func (PySem.W.fnOf "is_figure" "is_figure" (defArgs sIsFigure) (defBody sIsFigure) (defScope sIsFigure) .none kV4 dc4 pm4 an4 cd4 ct4), sl4⟩) (c4 : PySem.W.codeIn K cd4 "is_figure" = true) (k4 : PySem.W.keepIn K (.ref f4) = true)
    (a5 : PySem.W.nsIn K mainGlobals "is_whole" = some (some (.ref f5))) (l5 : K.lookup f5 = some ⟨oc5, od5, .func (PySem.W.fnOf "is_whole" "is_whole" (defArgs sIsWhole) (defBody sIsWhole) (defScope sIsWhole) .none kV5 dc5 pm5 an5 cd5 ct5), sl5⟩) (c5 : PySem.W.codeIn K cd5 "is_whole" = true) (k5 : PySem.W.keepIn K (.ref f5) = true)
    (a6 : PySem.W.nsIn K mainGlobals "is_numbered" = some (some (.ref f6))) (l6 : K.lookup f6 = some ⟨oc6, od6, .func (PySem.W.fnOf "is_numbered" "is_numbered" (defArgs sIsNumbered) (defBody sIsNumbered) (defScope sIsNumbered) .none kV6 dc6 pm6 an6 cd6 ct6), sl6⟩) (c6 : PySem.W.codeIn K cd6 "is_numbered" = true) (k6 : PySem.W.keepIn K (.ref f6) = true)
    (a7 : PySem.W.nsIn K mainGlobals "text_of" = some (some (.ref f7))) (l7 : K.lookup f7 = some ⟨oc7, od7, .func (PySem.W.fnOf "text_of" "text_of" (defArgs sTextOf) (defBody sTextOf) (defScope sTextOf) .none kV7 dc7 pm7 an7 cd7 ct7), sl7⟩) (c7 : PySem.W.codeIn K cd7 "text_of" = true) (k7 : PySem.W.keepIn K (.ref f7) = true)
    (a8 : PySem.W.nsIn K mainGlobals "numbers_of" = some (some (.ref f8))) (l8 : K.lookup f8 = some ⟨oc8, od8, .func (PySem.W.fnOf "numbers_of" "numbers_of" (defArgs sNumbersOf) (defBody sNumbersOf) (defScope sNumbersOf) .none kV8 dc8 pm8 an8 cd8 ct8), sl8⟩) (c8 : PySem.W.codeIn K cd8 "numbers_of" = true) (k8 : PySem.W.keepIn K (.ref f8) = true)
    (a9 : PySem.W.nsIn K mainGlobals "is_sign_texts" = some (some (.ref f9))) (l9 : K.lookup f9 = some ⟨oc9, od9, .func (PySem.W.fnOf "_is_sign" "_is_sign" (defArgs sIsSign) (defBody sIsSign) (defScope sIsSign) .none kV9 dc9 pm9 an9 cd9 ct9), sl9⟩) (c9 : PySem.W.codeIn K cd9 "_is_sign" = true) (k9 : PySem.W.keepIn K (.ref f9) = true)
    (a10 : PySem.W.nsIn K mainGlobals "_sign_of" = some (some (.ref f10))) (l10 : K.lookup f10 = some ⟨oc10, od10, .func (PySem.W.fnOf "_sign_of" "_sign_of" (defArgs sSignOf) (defBody sSignOf) (defScope sSignOf) .none kV10 dc10 pm10 an10 cd10 ct10), sl10⟩) (c10 : PySem.W.codeIn K cd10 "_sign_of" = true) (k10 : PySem.W.keepIn K (.ref f10) = true)
    (a11 : PySem.W.nsIn K mainGlobals "read_by" = some (some (.ref f11))) (l11 : K.lookup f11 = some ⟨oc11, od11, .func (PySem.W.fnOf "read_by" "read_by" (defArgs sReadBy) (defBody sReadBy) (defScope sReadBy) .none kV11 dc11 pm11 an11 cd11 ct11), sl11⟩) (c11 : PySem.W.codeIn K cd11 "read_by" = true) (k11 : PySem.W.keepIn K (.ref f11) = true)
    (a12 : PySem.W.nsIn K mainGlobals "is_octets" = some (some (.ref f12))) (l12 : K.lookup f12 = some ⟨oc12, od12, .func (PySem.W.fnOf "is_octets" "is_octets" (defArgs sIsOctets) (defBody sIsOctets) (defScope sIsOctets) .none kV12 dc12 pm12 an12 cd12 ct12), sl12⟩) (c12 : PySem.W.codeIn K cd12 "is_octets" = true) (k12 : PySem.W.keepIn K (.ref f12) = true)
    (a13 : PySem.W.nsIn K mainGlobals "sixes_of" = some (some (.ref f13))) (l13 : K.lookup f13 = some ⟨oc13, od13, .func (PySem.W.fnOf "sixes_of" "sixes_of" (defArgs sSixesOf) (defBody sSixesOf) (defScope sSixesOf) .none kV13 dc13 pm13 an13 cd13 ct13), sl13⟩) (c13 : PySem.W.codeIn K cd13 "sixes_of" = true) (k13 : PySem.W.keepIn K (.ref f13) = true)
    (a14 : PySem.W.nsIn K mainGlobals "by_sixteen" = some (some (.ref f14))) (l14 : K.lookup f14 = some ⟨oc14, od14, .func (PySem.W.fnOf "by_sixteen" "by_sixteen" (defArgs sBySixteen) (defBody sBySixteen) (defScope sBySixteen) .none kV14 dc14 pm14 an14 cd14 ct14), sl14⟩) (c14 : PySem.W.codeIn K cd14 "by_sixteen" = true) (k14 : PySem.W.keepIn K (.ref f14) = true)
    (a15 : PySem.W.nsIn K mainGlobals "_check_code" = some (some (.ref f15))) (l15 : K.lookup f15 = some ⟨oc15, od15, .func (PySem.W.fnOf "_check_code" "_check_code" (defArgs sCheckCode) (defBody sCheckCode) (defScope sCheckCode) .none kV15 dc15 pm15 an15 cd15 ct15), sl15⟩) (c15 : PySem.W.codeIn K cd15 "_check_code" = true) (k15 : PySem.W.keepIn K (.ref f15) = true)
    (a16 : PySem.W.nsIn K mainGlobals "_is_octet" = some (some (.ref f16))) (l16 : K.lookup f16 = some ⟨oc16, od16, .func (PySem.W.fnOf "_is_octet" "_is_octet" (defArgs sIsOctet) (defBody sIsOctet) (defScope sIsOctet) .none kV16 dc16 pm16 an16 cd16 ct16), sl16⟩) (c16 : PySem.W.codeIn K cd16 "_is_octet" = true) (k16 : PySem.W.keepIn K (.ref f16) = true)
    (a17 : PySem.W.nsIn K mainGlobals "_is_plain" = some (some (.ref f17))) (l17 : K.lookup f17 = some ⟨oc17, od17, .func (PySem.W.fnOf "_is_plain" "_is_plain" (defArgs sIsPlain) (defBody sIsPlain) (defScope sIsPlain) .none kV17 dc17 pm17 an17 cd17 ct17), sl17⟩) (c17 : PySem.W.codeIn K cd17 "_is_plain" = true) (k17 : PySem.W.keepIn K (.ref f17) = true)
    (a18 : PySem.W.nsIn K mainGlobals "_write_plain" = some (some (.ref f18))) (l18 : K.lookup f18 = some ⟨oc18, od18, .func (PySem.W.fnOf "_write_plain" "_write_plain" (defArgs sWritePlain) (defBody sWritePlain) (defScope sWritePlain) .none kV18 dc18 pm18 an18 cd18 ct18), sl18⟩) (c18 : PySem.W.codeIn K cd18 "_write_plain" = true) (k18 : PySem.W.keepIn K (.ref f18) = true)
    (a19 : PySem.W.nsIn K mainGlobals "_read_plain" = some (some (.ref f19))) (l19 : K.lookup f19 = some ⟨oc19, od19, .func (PySem.W.fnOf "_read_plain" "_read_plain" (defArgs sReadPlain) (defBody sReadPlain) (defScope sReadPlain) .none kV19 dc19 pm19 an19 cd19 ct19), sl19⟩) (c19 : PySem.W.codeIn K cd19 "_read_plain" = true) (k19 : PySem.W.keepIn K (.ref f19) = true)
    (a20 : PySem.W.nsIn K mainGlobals "_write_sixes" = some (some (.ref f20))) (l20 : K.lookup f20 = some ⟨oc20, od20, .func (PySem.W.fnOf "_write_sixes" "_write_sixes" (defArgs sWriteSixes) (defBody sWriteSixes) (defScope sWriteSixes) .none kV20 dc20 pm20 an20 cd20 ct20), sl20⟩) (c20 : PySem.W.codeIn K cd20 "_write_sixes" = true) (k20 : PySem.W.keepIn K (.ref f20) = true)
    (a21 : PySem.W.nsIn K mainGlobals "_four_of" = some (some (.ref f21))) (l21 : K.lookup f21 = some ⟨oc21, od21, .func (PySem.W.fnOf "_four_of" "_four_of" (defArgs sFourOf) (defBody sFourOf) (defScope sFourOf) .none kV21 dc21 pm21 an21 cd21 ct21), sl21⟩) (c21 : PySem.W.codeIn K cd21 "_four_of" = true) (k21 : PySem.W.keepIn K (.ref f21) = true)
    (a22 : PySem.W.nsIn K mainGlobals "_read_sixes" = some (some (.ref f22))) (l22 : K.lookup f22 = some ⟨oc22, od22, .func (PySem.W.fnOf "_read_sixes" "_read_sixes" (defArgs sReadSixes) (defBody sReadSixes) (defScope sReadSixes) .none kV22 dc22 pm22 an22 cd22 ct22), sl22⟩) (c22 : PySem.W.codeIn K cd22 "_read_sixes" = true) (k22 : PySem.W.keepIn K (.ref f22) = true)
    (a23 : PySem.W.nsIn K mainGlobals "_may_fill" = some (some (.ref f23))) (l23 : K.lookup f23 = some ⟨oc23, od23, .func (PySem.W.fnOf "_may_fill" "_may_fill" (defArgs sMayFill) (defBody sMayFill) (defScope sMayFill) .none kV23 dc23 pm23 an23 cd23 ct23), sl23⟩) (c23 : PySem.W.codeIn K cd23 "_may_fill" = true) (k23 : PySem.W.keepIn K (.ref f23) = true)
    (a24 : PySem.W.nsIn K mainGlobals "_octets_of_four" = some (some (.ref f24))) (l24 : K.lookup f24 = some ⟨oc24, od24, .func (PySem.W.fnOf "_octets_of_four" "_octets_of_four" (defArgs sOctetsOfFour) (defBody sOctetsOfFour) (defScope sOctetsOfFour) .none kV24 dc24 pm24 an24 cd24 ct24), sl24⟩) (c24 : PySem.W.codeIn K cd24 "_octets_of_four" = true) (k24 : PySem.W.keepIn K (.ref f24) = true)
    (a25 : PySem.W.nsIn K mainGlobals "_write_marks" = some (some (.ref f25))) (l25 : K.lookup f25 = some ⟨oc25, od25, .func (PySem.W.fnOf "_write_marks" "_write_marks" (defArgs sWriteMarks) (defBody sWriteMarks) (defScope sWriteMarks) .none kV25 dc25 pm25 an25 cd25 ct25), sl25⟩) (c25 : PySem.W.codeIn K cd25 "_write_marks" = true) (k25 : PySem.W.keepIn K (.ref f25) = true)
    (a26 : PySem.W.nsIn K mainGlobals "_unit_at" = some (some (.ref f26))) (l26 : K.lookup f26 = some ⟨oc26, od26, .func (PySem.W.fnOf "_unit_at" "_unit_at" (defArgs sUnitAt) (defBody sUnitAt) (defScope sUnitAt) .none kV26 dc26 pm26 an26 cd26 ct26), sl26⟩) (c26 : PySem.W.codeIn K cd26 "_unit_at" = true) (k26 : PySem.W.keepIn K (.ref f26) = true)
    (a27 : PySem.W.nsIn K mainGlobals "_read_marks" = some (some (.ref f27))) (l27 : K.lookup f27 = some ⟨oc27, od27, .func (PySem.W.fnOf "_read_marks" "_read_marks" (defArgs sReadMarks) (defBody sReadMarks) (defScope sReadMarks) .none kV27 dc27 pm27 an27 cd27 ct27), sl27⟩) (c27 : PySem.W.codeIn K cd27 "_read_marks" = true) (k27 : PySem.W.keepIn K (.ref f27) = true)
    (a28 : PySem.W.nsIn K mainGlobals "_read_stretch" = some (some (.ref f28))) (l28 : K.lookup f28 = some ⟨oc28, od28, .func (PySem.W.fnOf "_read_stretch" "_read_stretch" (defArgs sReadStretch) (defBody sReadStretch) (defScope sReadStretch) .none kV28 dc28 pm28 an28 cd28 ct28), sl28⟩) (c28 : PySem.W.codeIn K cd28 "_read_stretch" = true) (k28 : PySem.W.keepIn K (.ref f28) = true)
    (a29 : PySem.W.nsIn K mainGlobals "_read_equals" = some (some (.ref f29))) (l29 : K.lookup f29 = some ⟨oc29, od29, .func (PySem.W.fnOf "_read_equals" "_read_equals" (defArgs sReadEquals) (defBody sReadEquals) (defScope sReadEquals) .none kV29 dc29 pm29 an29 cd29 ct29), sl29⟩) (c29 : PySem.W.codeIn K cd29 "_read_equals" = true) (k29 : PySem.W.keepIn K (.ref f29) = true)
    (a30 : PySem.W.nsIn K mainGlobals "_blanks_end" = some (some (.ref f30))) (l30 : K.lookup f30 = some ⟨oc30, od30, .func (PySem.W.fnOf "_blanks_end" "_blanks_end" (defArgs sBlanksEnd) (defBody sBlanksEnd) (defScope sBlanksEnd) .none kV30 dc30 pm30 an30 cd30 ct30), sl30⟩) (c30 : PySem.W.codeIn K cd30 "_blanks_end" = true) (k30 : PySem.W.keepIn K (.ref f30) = true)
    (a31 : PySem.W.nsIn K mainGlobals "_figure_at" = some (some (.ref f31))) (l31 : K.lookup f31 = some ⟨oc31, od31, .func (PySem.W.fnOf "_figure_at" "_figure_at" (defArgs sFigureAt) (defBody sFigureAt) (defScope sFigureAt) .none kV31 dc31 pm31 an31 cd31 ct31), sl31⟩) (c31 : PySem.W.codeIn K cd31 "_figure_at" = true) (k31 : PySem.W.keepIn K (.ref f31) = true)
    (a32 : PySem.W.nsIn K mainGlobals "saying_of" = some (some (.ref f32))) (l32 : K.lookup f32 = some ⟨oc32, od32, .func (PySem.W.fnOf "saying_of" "saying_of" (defArgs sSayingOf) (defBody sSayingOf) (defScope sSayingOf) .none kV32 dc32 pm32 an32 cd32 ct32), sl32⟩) (c32 : PySem.W.codeIn K cd32 "saying_of" = true) (k32 : PySem.W.keepIn K (.ref f32) = true)
    (a33 : PySem.W.nsIn K mainGlobals "decoded" = some (some (.ref f33))) (l33 : K.lookup f33 = some ⟨oc33, od33, .func (PySem.W.fnOf "decoded" "decoded" (defArgs sDecoded) (defBody sDecoded) (defScope sDecoded) .none kV33 dc33 pm33 an33 cd33 ct33), sl33⟩) (c33 : PySem.W.codeIn K cd33 "decoded" = true) (k33 : PySem.W.keepIn K (.ref f33) = true)
    (a34 : PySem.W.nsIn K mainGlobals "saying_of_word" = some (some (.ref f34))) (l34 : K.lookup f34 = some ⟨oc34, od34, .func (PySem.W.fnOf "saying_of_word" "saying_of_word" (defArgs sSayingOfWord) (defBody sSayingOfWord) (defScope sSayingOfWord) .none kV34 dc34 pm34 an34 cd34 ct34), sl34⟩) (c34 : PySem.W.codeIn K cd34 "saying_of_word" = true) (k34 : PySem.W.keepIn K (.ref f34) = true)
    (a35 : PySem.W.nsIn K mainGlobals "is_sign_sayings" = some (some (.ref f35))) (l35 : K.lookup f35 = some ⟨oc35, od35, .func (PySem.W.fnOf "_is_sign" "_is_sign" (defArgs sIsSaySign) (defBody sIsSaySign) (defScope sIsSaySign) .none kV35 dc35 pm35 an35 cd35 ct35), sl35⟩) (c35 : PySem.W.codeIn K cd35 "_is_sign" = true) (k35 : PySem.W.keepIn K (.ref f35) = true)
    (a36 : PySem.W.nsIn K mainGlobals "_octets_of_sign" = some (some (.ref f36))) (l36 : K.lookup f36 = some ⟨oc36, od36, .func (PySem.W.fnOf "_octets_of_sign" "_octets_of_sign" (defArgs sOctetsOfSign) (defBody sOctetsOfSign) (defScope sOctetsOfSign) .none kV36 dc36 pm36 an36 cd36 ct36), sl36⟩) (c36 : PySem.W.codeIn K cd36 "_octets_of_sign" = true) (k36 : PySem.W.keepIn K (.ref f36) = true)
    (a37 : PySem.W.nsIn K mainGlobals "_size_from" = some (some (.ref f37))) (l37 : K.lookup f37 = some ⟨oc37, od37, .func (PySem.W.fnOf "_size_from" "_size_from" (defArgs sSizeFrom) (defBody sSizeFrom) (defScope sSizeFrom) .none kV37 dc37 pm37 an37 cd37 ct37), sl37⟩) (c37 : PySem.W.codeIn K cd37 "_size_from" = true) (k37 : PySem.W.keepIn K (.ref f37) = true)
    (a38 : PySem.W.nsIn K mainGlobals "_sign_of_octets" = some (some (.ref f38))) (l38 : K.lookup f38 = some ⟨oc38, od38, .func (PySem.W.fnOf "_sign_of_octets" "_sign_of_octets" (defArgs sSignOfOctets) (defBody sSignOfOctets) (defScope sSignOfOctets) .none kV38 dc38 pm38 an38 cd38 ct38), sl38⟩) (c38 : PySem.W.codeIn K cd38 "_sign_of_octets" = true) (k38 : PySem.W.keepIn K (.ref f38) = true)
    (a39 : PySem.W.nsIn K mainGlobals "_marks_of" = some (some (.ref f39))) (l39 : K.lookup f39 = some ⟨oc39, od39, .func (PySem.W.fnOf "_marks_of" "_marks_of" (defArgs sMarksOf) (defBody sMarksOf) (defScope sMarksOf) .none kV39 dc39 pm39 an39 cd39 ct39), sl39⟩) (c39 : PySem.W.codeIn K cd39 "_marks_of" = true) (k39 : PySem.W.keepIn K (.ref f39) = true)
    (a40 : PySem.W.nsIn K mainGlobals "_mark_of" = some (some (.ref f40))) (l40 : K.lookup f40 = some ⟨oc40, od40, .func (PySem.W.fnOf "_mark_of" "_mark_of" (defArgs sMarkOf) (defBody sMarkOf) (defScope sMarkOf) .none kV40 dc40 pm40 an40 cd40 ct40), sl40⟩) (c40 : PySem.W.codeIn K cd40 "_mark_of" = true) (k40 : PySem.W.keepIn K (.ref f40) = true)
    (a41 : PySem.W.nsIn K mainGlobals "_octets_of_word" = some (some (.ref f41))) (l41 : K.lookup f41 = some ⟨oc41, od41, .func (PySem.W.fnOf "_octets_of_word" "_octets_of_word" (defArgs sOctetsOfWord) (defBody sOctetsOfWord) (defScope sOctetsOfWord) .none kV41 dc41 pm41 an41 cd41 ct41), sl41⟩) (c41 : PySem.W.codeIn K cd41 "_octets_of_word" = true) (k41 : PySem.W.keepIn K (.ref f41) = true)
    (a42 : PySem.W.nsIn K mainGlobals "_octets_told" = some (some (.ref f42))) (l42 : K.lookup f42 = some ⟨oc42, od42, .func (PySem.W.fnOf "_octets_told" "_octets_told" (defArgs sOctetsTold) (defBody sOctetsTold) (defScope sOctetsTold) .none kV42 dc42 pm42 an42 cd42 ct42), sl42⟩) (c42 : PySem.W.codeIn K cd42 "_octets_told" = true) (k42 : PySem.W.keepIn K (.ref f42) = true)
    (a43 : PySem.W.nsIn K mainGlobals "_stretches" = some (some (.ref f43))) (l43 : K.lookup f43 = some ⟨oc43, od43, .func (PySem.W.fnOf "_stretches" "_stretches" (defArgs sStretches) (defBody sStretches) (defScope sStretches) .none kV43 dc43 pm43 an43 cd43 ct43), sl43⟩) (c43 : PySem.W.codeIn K cd43 "_stretches" = true) (k43 : PySem.W.keepIn K (.ref f43) = true)
    (a44 : PySem.W.nsIn K mainGlobals "_is_between_told" = some (some (.ref f44))) (l44 : K.lookup f44 = some ⟨oc44, od44, .func (PySem.W.fnOf "_is_between_told" "_is_between_told" (defArgs sIsBetweenTold) (defBody sIsBetweenTold) (defScope sIsBetweenTold) .none kV44 dc44 pm44 an44 cd44 ct44), sl44⟩) (c44 : PySem.W.codeIn K cd44 "_is_between_told" = true) (k44 : PySem.W.keepIn K (.ref f44) = true)
    (a45 : PySem.W.nsIn K mainGlobals "_law_cell_at" = some (some (.ref f45))) (l45 : K.lookup f45 = some ⟨oc45, od45, .func (PySem.W.fnOf "_law_cell_at" "_law_cell_at" (defArgs sCellAt) (defBody sCellAt) (defScope sCellAt) .none kV45 dc45 pm45 an45 cd45 ct45), sl45⟩) (c45 : PySem.W.codeIn K cd45 "_law_cell_at" = true) (k45 : PySem.W.keepIn K (.ref f45) = true)
    (a46 : PySem.W.nsIn K mainGlobals "_law_mixed" = some (some (.ref f46))) (l46 : K.lookup f46 = some ⟨oc46, od46, .func (PySem.W.fnOf "_law_mixed" "_law_mixed" (defArgs sMixed) (defBody sMixed) (defScope sMixed) .none kV46 dc46 pm46 an46 cd46 ct46), sl46⟩) (c46 : PySem.W.codeIn K cd46 "_law_mixed" = true) (k46 : PySem.W.keepIn K (.ref f46) = true)
    (a47 : PySem.W.nsIn K mainGlobals "_law_source" = some (some (.ref f47))) (l47 : K.lookup f47 = some ⟨oc47, od47, .func (PySem.W.fnOf "_law_source" "_law_source" (defArgs sSource) (defBody sSource) (defScope sSource) .none kV47 dc47 pm47 an47 cd47 ct47), sl47⟩) (c47 : PySem.W.codeIn K cd47 "_law_source" = true) (k47 : PySem.W.keepIn K (.ref f47) = true)
    (a48 : PySem.W.nsIn K mainGlobals "_law_next" = some (some (.ref f48))) (l48 : K.lookup f48 = some ⟨oc48, od48, .func (PySem.W.fnOf "_law_next" "_law_next" (defArgs sNext) (defBody sNext) (defScope sNext) .none kV48 dc48 pm48 an48 cd48 ct48), sl48⟩) (c48 : PySem.W.codeIn K cd48 "_law_next" = true) (k48 : PySem.W.keepIn K (.ref f48) = true)
    (a49 : PySem.W.nsIn K mainGlobals "_law_saying" = some (some (.ref f49))) (l49 : K.lookup f49 = some ⟨oc49, od49, .func (PySem.W.fnOf "_law_saying" "_law_saying" (defArgs sLawSaying) (defBody sLawSaying) (defScope sLawSaying) .none kV49 dc49 pm49 an49 cd49 ct49), sl49⟩) (c49 : PySem.W.codeIn K cd49 "_law_saying" = true) (k49 : PySem.W.keepIn K (.ref f49) = true)
    (a50 : PySem.W.nsIn K mainGlobals "_law_octets_of" = some (some (.ref f50))) (l50 : K.lookup f50 = some ⟨oc50, od50, .func (PySem.W.fnOf "_law_octets_of" "_law_octets_of" (defArgs sLawOctetsOf) (defBody sLawOctetsOf) (defScope sLawOctetsOf) .none kV50 dc50 pm50 an50 cd50 ct50), sl50⟩) (c50 : PySem.W.codeIn K cd50 "_law_octets_of" = true) (k50 : PySem.W.keepIn K (.ref f50) = true)
    (a51 : PySem.W.nsIn K mainGlobals "_law_sign" = some (some (.ref f51))) (l51 : K.lookup f51 = some ⟨oc51, od51, .func (PySem.W.fnOf "_law_sign" "_law_sign" (defArgs sLawSign) (defBody sLawSign) (defScope sLawSign) .none kV51 dc51 pm51 an51 cd51 ct51), sl51⟩) (c51 : PySem.W.codeIn K cd51 "_law_sign" = true) (k51 : PySem.W.keepIn K (.ref f51) = true)
    (a52 : PySem.W.nsIn K mainGlobals "_law_signs_of" = some (some (.ref f52))) (l52 : K.lookup f52 = some ⟨oc52, od52, .func (PySem.W.fnOf "_law_signs_of" "_law_signs_of" (defArgs sLawSignsOf) (defBody sLawSignsOf) (defScope sLawSignsOf) .none kV52 dc52 pm52 an52 cd52 ct52), sl52⟩) (c52 : PySem.W.codeIn K cd52 "_law_signs_of" = true) (k52 : PySem.W.keepIn K (.ref f52) = true)
    (a53 : PySem.W.nsIn K mainGlobals "_law_sixes" = some (some (.ref f53))) (l53 : K.lookup f53 = some ⟨oc53, od53, .func (PySem.W.fnOf "_law_sixes" "_law_sixes" (defArgs sLawSixes) (defBody sLawSixes) (defScope sLawSixes) .none kV53 dc53 pm53 an53 cd53 ct53), sl53⟩) (c53 : PySem.W.codeIn K cd53 "_law_sixes" = true) (k53 : PySem.W.keepIn K (.ref f53) = true)
    (a54 : PySem.W.nsIn K mainGlobals "_law_text" = some (some (.ref f54))) (l54 : K.lookup f54 = some ⟨oc54, od54, .func (PySem.W.fnOf "_law_text" "_law_text" (defArgs sLawText) (defBody sLawText) (defScope sLawText) .none kV54 dc54 pm54 an54 cd54 ct54), sl54⟩) (c54 : PySem.W.codeIn K cd54 "_law_text" = true) (k54 : PySem.W.keepIn K (.ref f54) = true)
    (a55 : PySem.W.nsIn K mainGlobals "_law_word" = some (some (.ref f55))) (l55 : K.lookup f55 = some ⟨oc55, od55, .func (PySem.W.fnOf "_law_word" "_law_word" (defArgs sLawWord) (defBody sLawWord) (defScope sLawWord) .none kV55 dc55 pm55 an55 cd55 ct55), sl55⟩) (c55 : PySem.W.codeIn K cd55 "_law_word" = true) (k55 : PySem.W.keepIn K (.ref f55) = true)
    (a56 : PySem.W.nsIn K mainGlobals "_law_six_octets" = some (some (.ref f56))) (l56 : K.lookup f56 = some ⟨oc56, od56, .func (PySem.W.fnOf "_law_six_octets" "_law_six_octets" (defArgs sLawSixOctets) (defBody sLawSixOctets) (defScope sLawSixOctets) .none kV56 dc56 pm56 an56 cd56 ct56), sl56⟩) (c56 : PySem.W.codeIn K cd56 "_law_six_octets" = true) (k56 : PySem.W.keepIn K (.ref f56) = true)
    (a57 : PySem.W.nsIn K mainGlobals "_law_mark_octets" = some (some (.ref f57))) (l57 : K.lookup f57 = some ⟨oc57, od57, .func (PySem.W.fnOf "_law_mark_octets" "_law_mark_octets" (defArgs sLawMarkOctets) (defBody sLawMarkOctets) (defScope sLawMarkOctets) .none kV57 dc57 pm57 an57 cd57 ct57), sl57⟩) (c57 : PySem.W.codeIn K cd57 "_law_mark_octets" = true) (k57 : PySem.W.keepIn K (.ref f57) = true)
    (a58 : PySem.W.nsIn K mainGlobals "_law_told" = some (some (.ref f58))) (l58 : K.lookup f58 = some ⟨oc58, od58, .func (PySem.W.fnOf "_law_told" "_law_told" (defArgs sLawTold) (defBody sLawTold) (defScope sLawTold) .none kV58 dc58 pm58 an58 cd58 ct58), sl58⟩) (c58 : PySem.W.codeIn K cd58 "_law_told" = true) (k58 : PySem.W.keepIn K (.ref f58) = true)
    (a59 : PySem.W.nsIn K mainGlobals "_law_numbers" = some (some (.ref f59))) (l59 : K.lookup f59 = some ⟨oc59, od59, .func (PySem.W.fnOf "_law_numbers" "_law_numbers" (defArgs sLawNumbers) (defBody sLawNumbers) (defScope sLawNumbers) .none kV59 dc59 pm59 an59 cd59 ct59), sl59⟩) (c59 : PySem.W.codeIn K cd59 "_law_numbers" = true) (k59 : PySem.W.keepIn K (.ref f59) = true)
    (a60 : PySem.W.nsIn K mainGlobals "_law_decoded" = some (some (.ref f60))) (l60 : K.lookup f60 = some ⟨oc60, od60, .func (PySem.W.fnOf "_law_decoded" "_law_decoded" (defArgs sLawDecoded) (defBody sLawDecoded) (defScope sLawDecoded) .none kV60 dc60 pm60 an60 cd60 ct60), sl60⟩) (c60 : PySem.W.codeIn K cd60 "_law_decoded" = true) (k60 : PySem.W.keepIn K (.ref f60) = true)
    (a61 : PySem.W.nsIn K mainGlobals "_law_touched" = some (some (.ref f61))) (l61 : K.lookup f61 = some ⟨oc61, od61, .func (PySem.W.fnOf "_law_touched" "_law_touched" (defArgs sLawTouched) (defBody sLawTouched) (defScope sLawTouched) .none kV61 dc61 pm61 an61 cd61 ct61), sl61⟩) (c61 : PySem.W.codeIn K cd61 "_law_touched" = true) (k61 : PySem.W.keepIn K (.ref f61) = true)
    (a62 : PySem.W.nsIn K mainGlobals "_law_piece" = some (some (.ref f62))) (l62 : K.lookup f62 = some ⟨oc62, od62, .func (PySem.W.fnOf "_law_piece" "_law_piece" (defArgs sLawPiece) (defBody sLawPiece) (defScope sLawPiece) .none kV62 dc62 pm62 an62 cd62 ct62), sl62⟩) (c62 : PySem.W.codeIn K cd62 "_law_piece" = true) (k62 : PySem.W.keepIn K (.ref f62) = true)
    (a63 : PySem.W.nsIn K mainGlobals "law" = some (some (.ref f63))) (l63 : K.lookup f63 = some ⟨oc63, od63, .func (PySem.W.fnOf "law" "law" (defArgs sLaw) (defBody sLaw) (defScope sLaw) .none kV63 dc63 pm63 an63 cd63 ct63), sl63⟩) (c63 : PySem.W.codeIn K cd63 "law" = true) (k63 : PySem.W.keepIn K (.ref f63) = true)
    (z1 : PySem.W.nsIn K mainGlobals "isinstance" = some none) (z2 : PySem.W.nsIn K mainGlobals "int" = some none) (z3 : PySem.W.nsIn K mainGlobals "bool" = some none) (z4 : PySem.W.nsIn K mainGlobals "str" = some none) (z5 : PySem.W.nsIn K mainGlobals "list" = some none) (z6 : PySem.W.nsIn K mainGlobals "all" = some none) (z7 : PySem.W.nsIn K mainGlobals "ord" = some none) (z8 : PySem.W.nsIn K mainGlobals "len" = some none) (z9 : PySem.W.nsIn K mainGlobals "range" = some none) (z10 : PySem.W.nsIn K mainGlobals "max" = some none) (z11 : PySem.W.nsIn K mainGlobals "min" = some none) (z12 : PySem.W.nsIn K mainGlobals "enumerate" = some none) (v1 : PySem.W.nsIn K mainGlobals "PERCENT" = some (some (.int 37 tk1))) (v2 : PySem.W.nsIn K mainGlobals "BLANK" = some (some (.int 32 tk2))) (v3 : PySem.W.nsIn K mainGlobals "LINE_FEED" = some (some (.int 10 tk3))) (v4 : PySem.W.nsIn K mainGlobals "GREATEST_SIGN" = some (some (.int 65535 tk4))) (v5 : PySem.W.nsIn K mainGlobals "SIGNS" = some (some (.str SIGS tk5))) (v6 : PySem.W.nsIn K mainGlobals "SIXES" = some (some (.str SIXS tk6))) (v7 : PySem.W.nsIn K mainGlobals "SIXTEEN" = some (some (.str SXTN tk7))) :
    ∃ fd : FuncData, (∀ (s : Shared) (v : Value), BindsTo s fd ⟨[v], []⟩ [("_law_script", v)]) ∧ ∀ base : Heap, K.In base → base.Ns mainGlobals mg → FnOk l.prog w K mg base CX0 12 fa fd ["_law_script"] (spLaw14 K) := by
  have e := hfa.symm.trans (PySem.W.mg_of X G a63)
  cases e
  have m_ValueError : mg "ValueError" = none := PySem.W.mg_none_of X G zVE
  have m_LetterError := PySem.W.mg_of X G gL
  have FL : FunA K "LetterError.__init__" sLE [.str ""] fL _ := ⟨⟨_, _, _, _, _, _, _, _, _, _, rfl, lL, cL, .inr ⟨by simp, TL, _, [.str ("" : Str) tkL], nTL, rfl, dL, rfl, .cons ⟨tkL, rfl⟩ .nil⟩, .inl rfl⟩, kL⟩
  have TLc : ClsFn K CL fL := ⟨gaL, rdL, atL, kL⟩
  have m_NoCode := PySem.W.mg_of X G gC
  have FC : FunA K "NoCode.__init__" sNC [.int 0] fC _ := ⟨⟨_, _, _, _, _, _, _, _, _, _, rfl, lC, cC, .inr ⟨by simp, TC, _, [.int 0 tkC], nTC, rfl, dC, rfl, .cons ⟨tkC, rfl⟩ .nil⟩, .inl rfl⟩, kC⟩
  have OC : OexC K C := ⟨⟨nmC, qC, NC, bsC, bmC, snC, subC, abC, colC, ddC, m0C, m1C, m2C, m3C, m5C, xC, rvC⟩, saC, exC, tyC, kcC⟩
  have ECC : ExcC K C := ⟨hgC, hkC, exC, hdC, haC, hn0, ht0, hmC⟩
  have teC : PySem.W.exmOne K (.ref C) (.ref CL) = some true := PySem.W.exm_ref exL hdL tyL suC
  have XFC : XfC K C := ⟨hgC, hkC, exC, hdC⟩
  have m_NoSaying := PySem.W.mg_of X G gCS
  have FCS : FunA K "NoSaying.__init__" sNS [.int 0] fCS _ := ⟨⟨_, _, _, _, _, _, _, _, _, _, rfl, lCS, cCS, .inr ⟨by simp, TCS, _, [.int 0 tkCS], nTCS, rfl, dCS, rfl, .cons ⟨tkCS, rfl⟩ .nil⟩, .inl rfl⟩, kCS⟩
  have OCS : OexC K CS := ⟨⟨nmCS, qCS, NCS, bsCS, bmCS, snCS, subCS, abCS, colCS, ddCS, m0CS, m1CS, m2CS, m3CS, m5CS, xCS, rvCS⟩, saCS, exCS, tyCS, kcCS⟩
  have ECCS : ExcC K CS := ⟨hgCS, hkCS, exCS, hdCS, haCS, hn0, ht0, hmCS⟩
  have teCS : PySem.W.exmOne K (.ref CS) (.ref CL) = some true := PySem.W.exm_ref exL hdL tyL suCS
  have XFCS : XfC K CS := ⟨hgCS, hkCS, exCS, hdCS⟩
  have m_NoOctets := PySem.W.mg_of X G gCN
  have OCN : OexC K CN := ⟨⟨nmCN, qCN, NCN, bsCN, bmCN, snCN, subCN, abCN, colCN, ddCN, m0CN, m1CN, m2CN, m3CN, m5CN, xCN, rvCN⟩, saCN, exCN, tyCN, kcCN⟩
  have ECCN : ExcC K CN := ⟨hgCN, hkCN, exCN, hdCN, haCN, hn0, ht0, hmCN⟩
  have teCN : PySem.W.exmOne K (.ref CN) (.ref CL) = some true := PySem.W.exm_ref exL hdL tyL suCN
  have XFCN : XfC K CN := ⟨hgCN, hkCN, exCN, hdCN⟩
  have A1 : FnAt K mg "is_text" sIsText := ⟨f1, _, fun_mk (st := sIsText) l1 c1 k1, PySem.W.mg_of X G a1⟩
  have A2 : FnAt K mg "is_line" sIsLine := ⟨f2, _, fun_mk (st := sIsLine) l2 c2 k2, PySem.W.mg_of X G a2⟩
  have A3 : FnAt K mg "is_letter" sIsLetter := ⟨f3, _, fun_mk (st := sIsLetter) l3 c3 k3, PySem.W.mg_of X G a3⟩
  have A4 : FnAt K mg "is_figure" sIsFigure := ⟨f4, _, fun_mk (st := sIsFigure) l4 c4 k4, PySem.W.mg_of X G a4⟩
  have A5 : FnAt K mg "is_whole" sIsWhole := ⟨f5, _, fun_mk (st := sIsWhole) l5 c5 k5, PySem.W.mg_of X G a5⟩
  have A6 : FnAt K mg "is_numbered" sIsNumbered := ⟨f6, _, fun_mk (st := sIsNumbered) l6 c6 k6, PySem.W.mg_of X G a6⟩
  have A7 : FnAt K mg "text_of" sTextOf := ⟨f7, _, fun_mk (st := sTextOf) l7 c7 k7, PySem.W.mg_of X G a7⟩
  have A8 : FnAt K mg "numbers_of" sNumbersOf := ⟨f8, _, fun_mk (st := sNumbersOf) l8 c8 k8, PySem.W.mg_of X G a8⟩
  have A9 : FnAs K mg "is_sign_texts" "_is_sign" sIsSign := ⟨f9, _, fun_mk (st := sIsSign) l9 c9 k9, PySem.W.mg_of X G a9⟩
  have A10 : FnAt K mg "_sign_of" sSignOf := ⟨f10, _, fun_mk (st := sSignOf) l10 c10 k10, PySem.W.mg_of X G a10⟩
  have A11 : FnAt K mg "read_by" sReadBy := ⟨f11, _, fun_mk (st := sReadBy) l11 c11 k11, PySem.W.mg_of X G a11⟩
  have A12 : FnAt K mg "is_octets" sIsOctets := ⟨f12, _, fun_mk (st := sIsOctets) l12 c12 k12, PySem.W.mg_of X G a12⟩
  have A13 : FnAt K mg "sixes_of" sSixesOf := ⟨f13, _, fun_mk (st := sSixesOf) l13 c13 k13, PySem.W.mg_of X G a13⟩
  have A14 : FnAt K mg "by_sixteen" sBySixteen := ⟨f14, _, fun_mk (st := sBySixteen) l14 c14 k14, PySem.W.mg_of X G a14⟩
  have A15 : FnAt K mg "_check_code" sCheckCode := ⟨f15, _, fun_mk (st := sCheckCode) l15 c15 k15, PySem.W.mg_of X G a15⟩
  have A16 : FnAt K mg "_is_octet" sIsOctet := ⟨f16, _, fun_mk (st := sIsOctet) l16 c16 k16, PySem.W.mg_of X G a16⟩
  have A17 : FnAt K mg "_is_plain" sIsPlain := ⟨f17, _, fun_mk (st := sIsPlain) l17 c17 k17, PySem.W.mg_of X G a17⟩
  have A18 : FnAt K mg "_write_plain" sWritePlain := ⟨f18, _, fun_mk (st := sWritePlain) l18 c18 k18, PySem.W.mg_of X G a18⟩
  have A19 : FnAt K mg "_read_plain" sReadPlain := ⟨f19, _, fun_mk (st := sReadPlain) l19 c19 k19, PySem.W.mg_of X G a19⟩
  have A20 : FnAt K mg "_write_sixes" sWriteSixes := ⟨f20, _, fun_mk (st := sWriteSixes) l20 c20 k20, PySem.W.mg_of X G a20⟩
  have A21 : FnAt K mg "_four_of" sFourOf := ⟨f21, _, fun_mk (st := sFourOf) l21 c21 k21, PySem.W.mg_of X G a21⟩
  have A22 : FnAt K mg "_read_sixes" sReadSixes := ⟨f22, _, fun_mk (st := sReadSixes) l22 c22 k22, PySem.W.mg_of X G a22⟩
  have A23 : FnAt K mg "_may_fill" sMayFill := ⟨f23, _, fun_mk (st := sMayFill) l23 c23 k23, PySem.W.mg_of X G a23⟩
  have A24 : FnAt K mg "_octets_of_four" sOctetsOfFour := ⟨f24, _, fun_mk (st := sOctetsOfFour) l24 c24 k24, PySem.W.mg_of X G a24⟩
  have A25 : FnAt K mg "_write_marks" sWriteMarks := ⟨f25, _, fun_mk (st := sWriteMarks) l25 c25 k25, PySem.W.mg_of X G a25⟩
  have A26 : FnAt K mg "_unit_at" sUnitAt := ⟨f26, _, fun_mk (st := sUnitAt) l26 c26 k26, PySem.W.mg_of X G a26⟩
  have A27 : FnAt K mg "_read_marks" sReadMarks := ⟨f27, _, fun_mk (st := sReadMarks) l27 c27 k27, PySem.W.mg_of X G a27⟩
  have A28 : FnAt K mg "_read_stretch" sReadStretch := ⟨f28, _, fun_mk (st := sReadStretch) l28 c28 k28, PySem.W.mg_of X G a28⟩
  have A29 : FnAt K mg "_read_equals" sReadEquals := ⟨f29, _, fun_mk (st := sReadEquals) l29 c29 k29, PySem.W.mg_of X G a29⟩
  have A30 : FnAt K mg "_blanks_end" sBlanksEnd := ⟨f30, _, fun_mk (st := sBlanksEnd) l30 c30 k30, PySem.W.mg_of X G a30⟩
  have A31 : FnAt K mg "_figure_at" sFigureAt := ⟨f31, _, fun_mk (st := sFigureAt) l31 c31 k31, PySem.W.mg_of X G a31⟩
  have A32 : FnAt K mg "saying_of" sSayingOf := ⟨f32, _, fun_mk (st := sSayingOf) l32 c32 k32, PySem.W.mg_of X G a32⟩
  have A33 : FnAt K mg "decoded" sDecoded := ⟨f33, _, fun_mk (st := sDecoded) l33 c33 k33, PySem.W.mg_of X G a33⟩
  have A34 : FnAt K mg "saying_of_word" sSayingOfWord := ⟨f34, _, fun_mk (st := sSayingOfWord) l34 c34 k34, PySem.W.mg_of X G a34⟩
  have A35 : FnAs K mg "is_sign_sayings" "_is_sign" sIsSaySign := ⟨f35, _, fun_mk (st := sIsSaySign) l35 c35 k35, PySem.W.mg_of X G a35⟩
  have A36 : FnAt K mg "_octets_of_sign" sOctetsOfSign := ⟨f36, _, fun_mk (st := sOctetsOfSign) l36 c36 k36, PySem.W.mg_of X G a36⟩
  have A37 : FnAt K mg "_size_from" sSizeFrom := ⟨f37, _, fun_mk (st := sSizeFrom) l37 c37 k37, PySem.W.mg_of X G a37⟩
  have A38 : FnAt K mg "_sign_of_octets" sSignOfOctets := ⟨f38, _, fun_mk (st := sSignOfOctets) l38 c38 k38, PySem.W.mg_of X G a38⟩
  have A39 : FnAt K mg "_marks_of" sMarksOf := ⟨f39, _, fun_mk (st := sMarksOf) l39 c39 k39, PySem.W.mg_of X G a39⟩
  have A40 : FnAt K mg "_mark_of" sMarkOf := ⟨f40, _, fun_mk (st := sMarkOf) l40 c40 k40, PySem.W.mg_of X G a40⟩
  have A41 : FnAt K mg "_octets_of_word" sOctetsOfWord := ⟨f41, _, fun_mk (st := sOctetsOfWord) l41 c41 k41, PySem.W.mg_of X G a41⟩
  have A42 : FnAt K mg "_octets_told" sOctetsTold := ⟨f42, _, fun_mk (st := sOctetsTold) l42 c42 k42, PySem.W.mg_of X G a42⟩
  have A43 : FnAt K mg "_stretches" sStretches := ⟨f43, _, fun_mk (st := sStretches) l43 c43 k43, PySem.W.mg_of X G a43⟩
  have A44 : FnAt K mg "_is_between_told" sIsBetweenTold := ⟨f44, _, fun_mk (st := sIsBetweenTold) l44 c44 k44, PySem.W.mg_of X G a44⟩
  have A45 : FnAt K mg "_law_cell_at" sCellAt := ⟨f45, _, fun_mk (st := sCellAt) l45 c45 k45, PySem.W.mg_of X G a45⟩
  have A46 : FnAt K mg "_law_mixed" sMixed := ⟨f46, _, fun_mk (st := sMixed) l46 c46 k46, PySem.W.mg_of X G a46⟩
  have A47 : FnAt K mg "_law_source" sSource := ⟨f47, _, fun_mk (st := sSource) l47 c47 k47, PySem.W.mg_of X G a47⟩
  have A48 : FnAt K mg "_law_next" sNext := ⟨f48, _, fun_mk (st := sNext) l48 c48 k48, PySem.W.mg_of X G a48⟩
  have A49 : FnAt K mg "_law_saying" sLawSaying := ⟨f49, _, fun_mk (st := sLawSaying) l49 c49 k49, PySem.W.mg_of X G a49⟩
  have A50 : FnAt K mg "_law_octets_of" sLawOctetsOf := ⟨f50, _, fun_mk (st := sLawOctetsOf) l50 c50 k50, PySem.W.mg_of X G a50⟩
  have A51 : FnAt K mg "_law_sign" sLawSign := ⟨f51, _, fun_mk (st := sLawSign) l51 c51 k51, PySem.W.mg_of X G a51⟩
  have A52 : FnAt K mg "_law_signs_of" sLawSignsOf := ⟨f52, _, fun_mk (st := sLawSignsOf) l52 c52 k52, PySem.W.mg_of X G a52⟩
  have A53 : FnAt K mg "_law_sixes" sLawSixes := ⟨f53, _, fun_mk (st := sLawSixes) l53 c53 k53, PySem.W.mg_of X G a53⟩
  have A54 : FnAt K mg "_law_text" sLawText := ⟨f54, _, fun_mk (st := sLawText) l54 c54 k54, PySem.W.mg_of X G a54⟩
  have A55 : FnAt K mg "_law_word" sLawWord := ⟨f55, _, fun_mk (st := sLawWord) l55 c55 k55, PySem.W.mg_of X G a55⟩
  have A56 : FnAt K mg "_law_six_octets" sLawSixOctets := ⟨f56, _, fun_mk (st := sLawSixOctets) l56 c56 k56, PySem.W.mg_of X G a56⟩
  have A57 : FnAt K mg "_law_mark_octets" sLawMarkOctets := ⟨f57, _, fun_mk (st := sLawMarkOctets) l57 c57 k57, PySem.W.mg_of X G a57⟩
  have A58 : FnAt K mg "_law_told" sLawTold := ⟨f58, _, fun_mk (st := sLawTold) l58 c58 k58, PySem.W.mg_of X G a58⟩
  have A59 : FnAt K mg "_law_numbers" sLawNumbers := ⟨f59, _, fun_mk (st := sLawNumbers) l59 c59 k59, PySem.W.mg_of X G a59⟩
  have A60 : FnAt K mg "_law_decoded" sLawDecoded := ⟨f60, _, fun_mk (st := sLawDecoded) l60 c60 k60, PySem.W.mg_of X G a60⟩
  have A61 : FnAt K mg "_law_touched" sLawTouched := ⟨f61, _, fun_mk (st := sLawTouched) l61 c61 k61, PySem.W.mg_of X G a61⟩
  have A62 : FnAt K mg "_law_piece" sLawPiece := ⟨f62, _, fun_mk (st := sLawPiece) l62 c62 k62, PySem.W.mg_of X G a62⟩
  have F63 := fun_mk (st := sLaw) l63 c63 k63
  have m_WRITERS := PySem.W.mg_of X G g_WRITERS
  have D_WRITERS : KDict K w a_WRITERS es_WRITERS n_WRITERS := ⟨l_WRITERS, kly_WRITERS, lox_WRITERS⟩
  have m_READERS := PySem.W.mg_of X G g_READERS
  have D_READERS : KDict K w a_READERS es_READERS n_READERS := ⟨l_READERS, kly_READERS, lox_READERS⟩
  have m_isinstance : mg "isinstance" = none := PySem.W.mg_none_of X G z1
  have m_int : mg "int" = none := PySem.W.mg_none_of X G z2
  have m_bool : mg "bool" = none := PySem.W.mg_none_of X G z3
  have m_str : mg "str" = none := PySem.W.mg_none_of X G z4
  have m_list : mg "list" = none := PySem.W.mg_none_of X G z5
  have m_all : mg "all" = none := PySem.W.mg_none_of X G z6
  have m_ord : mg "ord" = none := PySem.W.mg_none_of X G z7
  have m_len : mg "len" = none := PySem.W.mg_none_of X G z8
  have m_range : mg "range" = none := PySem.W.mg_none_of X G z9
  have m_max : mg "max" = none := PySem.W.mg_none_of X G z10
  have m_min : mg "min" = none := PySem.W.mg_none_of X G z11
  have m_enumerate : mg "enumerate" = none := PySem.W.mg_none_of X G z12
  have m_PERCENT := PySem.W.mg_of X G v1
  have m_BLANK := PySem.W.mg_of X G v2
  have m_LINE_FEED := PySem.W.mg_of X G v3
  have m_GREATEST_SIGN := PySem.W.mg_of X G v4
  have m_SIGNS := PySem.W.mg_of X G v5
  have m_SIXES := PySem.W.mg_of X G v6
  have m_SIXTEEN := PySem.W.mg_of X G v7
  refine ⟨PySem.W.fnOf "law" "law" (defArgs sLaw) (defBody sLaw) (defScope sLaw) .none kV63 dc63 pm63 an63 cd63 ct63, fun s v => .of_eq rfl, fun base _ _ => ?_⟩
  have MC := mk_NC (P := l.prog) (w := w) (base := base) FC FL TLc m_LetterError m_ValueError vV OC noC m_NoCode iC tiC
  have MCS := mk_NS (P := l.prog) (w := w) (base := base) FCS FL TLc m_LetterError m_ValueError vV OCS noCS m_NoSaying iCS tiCS
  have MCN : MkN l.prog w K mg base "NoOctets" CN := ⟨OCN, m_NoOctets, fL, _, iCN, tifL, ok_LE FL m_ValueError vV, bind_LE FL⟩
  have R1 := r_is_whole (P := l.prog) (w := w) (base := base) A5 m_isinstance m_int m_bool
  have R2 := r_is_octet A16 R1
  have R3 := r_is_octets A12 R2 m_isinstance m_list m_all
  have R5 := x_check_code MC A15 D_WRITERS m_WRITERS m_isinstance m_str
  have R6 := r_is_sign (P := l.prog) (w := w) (base := base) A9 m_ord m_PERCENT
  have R7 := r_is_text A1 R6 m_isinstance m_str m_all
  have S1 := r_four_of (P := l.prog) (w := w) (base := base) A21 m_len m_SIXES
  have S2 := r_sixes_of A13 S1 m_len m_range
  have S4 := r_may_fill (P := l.prog) (w := w) (base := base) A23 m_len
  have S5 := r_octets_of_four (P := l.prog) (w := w) (base := base) A24 m_len m_max
  have S6 := x_read_sixes MC A22 S4 S5 m_enumerate m_len m_SIXES
  obtain ⟨fR6, fdR6, gR6, kR6, bR6, GR6⟩ := S6
  have eR6 := gR6.symm.trans (PySem.W.mg_of X G a22)
  cases eR6
  have Q1 := r_is_numbered (P := l.prog) (w := w) (base := base) A6 m_len m_SIGNS m_BLANK m_PERCENT
  have Q2 := r_by_sixteen (P := l.prog) (w := w) (base := base) A14
  have Q3 := r_sign_of (P := l.prog) (w := w) (base := base) A10 m_SIGNS m_BLANK m_LINE_FEED
  have Q4 := r_text_of A7 Q3
  have Q7 := r_blanks_end (P := l.prog) (w := w) (base := base) A30 m_len
  have Q8 := x_figure_at MC A31 m_SIXTEEN
  have Q9 := r_read_stretch A28 Q7 m_ord m_BLANK
  have Q10 := x_read_equals MC A29 Q7 Q8
  have Q11 := x_read_marks A27 Q10 Q9 m_len
  obtain ⟨fRM, fdRM, gRM, kRM, bRM, GRM⟩ := Q11
  have eRM := gRM.symm.trans (PySem.W.mg_of X G a27)
  cases eRM
  have P4 := r_numbers_of (P := l.prog) (w := w) (base := base) A8 m_ord
  have P5 := r_read_plain A19 P4
  obtain ⟨fRP, fdRP, gRP, kRP, bRP, GRP⟩ := P5
  have eRP := gRP.symm.trans (PySem.W.mg_of X G a19)
  cases eRP
  have V2 := x_read3 A11 (fun f fd F => ok_read3 (ok_read_by0 MC F R7 R5 m_READERS m_len D_READERS s_WRITERS_plain s_READERS_plain GRP (by decide) kRP bRP) (ok_read_by (rd := read6) MC F R7 R5 m_READERS m_len D_READERS s_WRITERS_sixes s_READERS_sixes GR6 (by decide) kR6 bR6) (ok_read_by (rd := readMk) MC F R7 R5 m_READERS m_len D_READERS s_WRITERS_marks s_READERS_marks GRM (by decide) kRM bRM))
  have Y1 := r_is_say_sign A35 R1 m_BLANK m_GREATEST_SIGN
  have Y4 := r_octets_of_sign (P := l.prog) (w := w) (base := base) A36
  have Y6 := r_mark_of A40 Q1 Q4 (r_is_figure (P := l.prog) (w := w) (base := base) A4) (r_is_letter (P := l.prog) (w := w) (base := base) A3) Q2 m_BLANK
  have YM := r_marks_of A39 Y6
  obtain ⟨fM, fdM, gM, kM, bM, GM⟩ := YM
  have eM := gM.symm.trans (PySem.W.mg_of X G a39)
  cases eM
  obtain ⟨fS, fdS, gS, kS, bS, GS⟩ := S2
  have eS := gS.symm.trans (PySem.W.mg_of X G a13)
  cases eS
  have hne : f13 ≠ f39 := fun e => by
    have h1 := l13
    rw [e, l39] at h1
    injection h1 with h1
    injection h1 with _ _ h3 _
    injection h3 with h3
    exact absurd (congrArg FuncData.name h3) (by show ¬ ("_marks_of" : Str) = "sixes_of"; decide +kernel)
  have Y7 := r_size_from (P := l.prog) (w := w) (base := base) A37
  have Y8 := r_sign_of_octets A38 Y4 Y1 m_len
  have YO := x_saying_of MCS MCN A32 R3 Y7 Y8 m_len
  have GA : ∀ f sp, wrS f13 f39 f = some sp → Held l.prog w K mg base 4 f sp := fun f sp h => by
    unfold wrS at h
    split at h
    · rename_i e
      injection h with h
      subst h
      subst e
      exact ⟨⟨fdS, _, GS.mono (by decide), kS, bS⟩⟩
    · split at h
      · rename_i e
        injection h with h
        subst h
        subst e
        exact ⟨⟨fdM, _, GM, kM, bM⟩⟩
      · cases h
  have teC' : PySem.W.exmOne K (.ref C) (.ref C) = some true := PySem.W.exm_ref exC hdC tyC suSelf
  have teS' : PySem.W.exmOne K (.ref CS) (.ref CS) = some true := PySem.W.exm_ref exCS hdCS tyCS suSelfS
  have Z1 := r_octets_told m_NoCode teC' A42 V2 hne GA
  have Z2 := r_octets_of_word A41 Z1 A14 m_BLANK gS gM
  have Z3 := r_saying_of_word m_NoSaying teS' A34 Z2 YO
  have Z4 := r_is_line A2 R7
  have Z5 := r_stretches (P := l.prog) (w := w) (base := base) A43 m_len m_range
  have Z6 := r_is_between (P := l.prog) (w := w) (base := base) A44 m_len
  have Z8 := r_decoded A33 Z4 Z5 Z3 Z6 P4 m_enumerate
  have W1 := r_cell_at (P := l.prog) (w := w) (base := base) A45 m_len
  have W2 := r_mixed (P := l.prog) (w := w) (base := base) A46
  have W3 := r_source A47 W1 W2 m_len
  have W4 := r_next A48 W2
  have L1 := r_law_saying A49 W4 m_len m_range
  have L2 := r_law_octets_of (P := l.prog) (w := w) (base := base) A50
  have L3 := r_law_sixes (P := l.prog) (w := w) (base := base) A53 m_len m_range
  have L4 := r_law_text (P := l.prog) (w := w) (base := base) A54 m_int
  have L5 := r_law_word A55 L3 L4
  have L6 := r_law_sign (P := l.prog) (w := w) (base := base) A51
  have L7 := r_signs_of A52 L6 m_len
  have L8 := r_six_octets (P := l.prog) (w := w) (base := base) A56 m_len m_range
  have L9 := r_mark_octets (P := l.prog) (w := w) (base := base) A57 m_enumerate m_int m_len
  obtain ⟨fO, fdO, gO, kO, bO, GO⟩ := L8
  have eO := gO.symm.trans (PySem.W.mg_of X G a56)
  cases eO
  obtain ⟨fQ, fdQ, gQ, kQ, bQ, GQ⟩ := L9
  have eQ := gQ.symm.trans (PySem.W.mg_of X G a57)
  cases eQ
  have hne2 : f56 ≠ f57 := fun e => by
    have h1 := l56
    rw [e, l57] at h1
    injection h1 with h1
    injection h1 with _ _ h3 _
    injection h3 with h3
    exact absurd (congrArg FuncData.name h3) (by show ¬ ("_law_mark_octets" : Str) = "_law_six_octets"; decide +kernel)
  have GA2 : ∀ f sp, decO f56 f57 f = some sp → Held l.prog w K mg base 2 f sp := fun f sp h => by
    unfold decO at h
    split at h
    · rename_i e
      injection h with h
      subst h
      subst e
      exact ⟨⟨fdO, _, GO.mono (by decide), kO, bO⟩⟩
    · split at h
      · rename_i e
        injection h with h
        subst h
        subst e
        exact ⟨⟨fdQ, _, GQ.mono (by decide), kQ, bQ⟩⟩
      · cases h
  have L10 := r_law_told A58 hne2 gO gQ kO kQ GA2 L5 L7 m_len m_int
  have L11 := r_nums (P := l.prog) (w := w) (base := base) A59 m_int
  have L12 := r_law_decoded A60 L10 L11
  have L13 := r_touched14 A61 (next_m W4) m_len
  have L14 := r_law_piece14 A62 (next_d W4) L1 L2 L5 L13 m_len m_range
  exact ok_law14 F63 W3 (next_d W4) L14 L12 Z8 m_len m_range m_max m_min m_list m_isinstance
end FL
open PySem PySem.W PyProof.Rows
set_option maxRecDepth 100000 in
set_option maxHeartbeats 8000000 in
theorem PySem.Challenge.cw_foldletter_k14_values_decoded_holds : PySem.Challenge.rw_foldletter_k14_values_decoded.Holds := by
  w_on; o_law; k_head; (case hw => w_witness2)
  k_fill
  refine L2.walk_of (l := PySem.Challenge.rw_foldletter_k14_values_decoded) (n := 63) (k := 12) (x := "_law_script") (CX := fun _ => L2.CX0) (sp := fun w => FL.spLaw14 _) rfl (by decide) rfl ⟨rfl, by decide, by decide⟩ (fun w h Y => PySem.W.kIn_of Y) ?F (fun _ _ a ns hl _ hS => ⟨a, ns, rfl, hS, fun _ _ => rfl⟩) (fun _ _ _ _ _ h => h)
  case F =>
    intro w mg fa h KX G hmg
    refine' FL.all_mk KX G hmg ?gL ?iL ?lL ?cL ?kL ?dL ?gaL ?rdL ?atL ?vV ?zVE ?exL ?hdL ?tyL ?tifL ?gC ?xC ?rvC ?saC ?exC ?tyC ?kcC ?noC ?iC ?tiC ?lC ?cC ?kC ?dC ?hgC ?hkC ?hdC ?haC ?hmC ?suC ?gCS ?xCS ?rvCS ?saCS ?exCS ?tyCS ?kcCS ?noCS ?iCS ?tiCS ?lCS ?cCS ?kCS ?dCS ?hgCS ?hkCS ?hdCS ?haCS ?hmCS ?suCS ?gCN ?xCN ?rvCN ?saCN ?exCN ?tyCN ?kcCN ?iCN ?hgCN ?hkCN ?hdCN ?haCN ?hmCN ?suCN ?hn0 ?ht0 ?suSelf ?suSelfS ?g_WRITERS ?l_WRITERS ?kly_WRITERS ?lox_WRITERS ?s_WRITERS_plain ?s_WRITERS_sixes ?s_WRITERS_marks ?g_READERS ?l_READERS ?kly_READERS ?lox_READERS ?s_READERS_plain ?s_READERS_sixes ?s_READERS_marks ?a1 ?l1 ?c1 ?k1 ?a2 ?l2 ?c2 ?k2 ?a3 ?l3 ?c3 ?k3 ?a4 ?l4 ?c4 ?k4 ?a5 ?l5 ?c5 ?k5 ?a6 ?l6 ?c6 ?k6 ?a7 ?l7 ?c7 ?k7 ?a8 ?l8 ?c8 ?k8 ?a9 ?l9 ?c9 ?k9 ?a10 ?l10 ?c10 ?k10 ?a11 ?l11 ?c11 ?k11 ?a12 ?l12 ?c12 ?k12 ?a13 ?l13 ?c13 ?k13 ?a14 ?l14 ?c14 ?k14 ?a15 ?l15 ?c15 ?k15 ?a16 ?l16 ?c16 ?k16 ?a17 ?l17 ?c17 ?k17 ?a18 ?l18 ?c18 ?k18 ?a19 ?l19 ?c19 ?k19 ?a20 ?l20 ?c20 ?k20 ?a21 ?l21 ?c21 ?k21 ?a22 ?l22 ?c22 ?k22 ?a23 ?l23 ?c23 ?k23 ?a24 ?l24 ?c24 ?k24 ?a25 ?l25 ?c25 ?k25 ?a26 ?l26 ?c26 ?k26 ?a27 ?l27 ?c27 ?k27 ?a28 ?l28 ?c28 ?k28 ?a29 ?l29 ?c29 ?k29 ?a30 ?l30 ?c30 ?k30 ?a31 ?l31 ?c31 ?k31 ?a32 ?l32 ?c32 ?k32 ?a33 ?l33 ?c33 ?k33 ?a34 ?l34 ?c34 ?k34 ?a35 ?l35 ?c35 ?k35 ?a36 ?l36 ?c36 ?k36 ?a37 ?l37 ?c37 ?k37 ?a38 ?l38 ?c38 ?k38 ?a39 ?l39 ?c39 ?k39 ?a40 ?l40 ?c40 ?k40 ?a41 ?l41 ?c41 ?k41 ?a42 ?l42 ?c42 ?k42 ?a43 ?l43 ?c43 ?k43 ?a44 ?l44 ?c44 ?k44 ?a45 ?l45 ?c45 ?k45 ?a46 ?l46 ?c46 ?k46 ?a47 ?l47 ?c47 ?k47 ?a48 ?l48 ?c48 ?k48 ?a49 ?l49 ?c49 ?k49 ?a50 ?l50 ?c50 ?k50 ?a51 ?l51 ?c51 ?k51 ?a52 ?l52 ?c52 ?k52 ?a53 ?l53 ?c53 ?k53 ?a54 ?l54 ?c54 ?k54 ?a55 ?l55 ?c55 ?k55 ?a56 ?l56 ?c56 ?k56 ?a57 ?l57 ?c57 ?k57 ?a58 ?l58 ?c58 ?k58 ?a59 ?l59 ?c59 ?k59 ?a60 ?l60 ?c60 ?k60 ?a61 ?l61 ?c61 ?k61 ?a62 ?l62 ?c62 ?k62 ?a63 ?l63 ?c63 ?k63 ?z1 ?z2 ?z3 ?z4 ?z5 ?z6 ?z7 ?z8 ?z9 ?z10 ?z11 ?z12 ?v1 ?v2 ?v3 ?v4 ?v5 ?v6 ?v7
    (case gL => k_is); (case iL => k_is); (case lL => k_is); (case cL => k_is); (case kL => k_is); (case dL => k_is); (case gaL => k_is); (case rdL => k_is); (case atL => k_is); (case vV => k_is); (case zVE => k_is); (case exL => k_is); (case hdL => k_is); (case tyL => k_is); (case tifL => k_is); (case gC => k_is); (case xC => k_is); (case rvC => first | rfl | k_is); (case saC => k_is); (case exC => k_is); (case tyC => k_is); (case kcC => k_is); (case noC => k_is); (case iC => k_is); (case tiC => k_is); (case lC => k_is); (case cC => k_is); (case kC => k_is); (case dC => k_is); (case hgC => k_is); (case hkC => k_is); (case hdC => k_is); (case haC => k_is); (case hmC => k_is); (case suC => k_is); (case gCS => k_is); (case xCS => k_is); (case rvCS => first | rfl | k_is); (case saCS => k_is); (case exCS => k_is); (case tyCS => k_is); (case kcCS => k_is); (case noCS => k_is); (case iCS => k_is); (case tiCS => k_is); (case lCS => k_is); (case cCS => k_is); (case kCS => k_is); (case dCS => k_is); (case hgCS => k_is); (case hkCS => k_is); (case hdCS => k_is); (case haCS => k_is); (case hmCS => k_is); (case suCS => k_is); (case gCN => k_is); (case xCN => k_is); (case rvCN => first | rfl | k_is); (case saCN => k_is); (case exCN => k_is); (case tyCN => k_is); (case kcCN => k_is); (case iCN => k_is); (case hgCN => k_is); (case hkCN => k_is); (case hdCN => k_is); (case haCN => k_is); (case hmCN => k_is); (case suCN => k_is); (case hn0 => k_is); (case ht0 => k_is); (case suSelf => k_is); (case suSelfS => k_is); (case g_WRITERS => k_is); (case l_WRITERS => k_is); (case kly_WRITERS => k_keys); (case lox_WRITERS => first | rfl | decide); (case s_WRITERS_plain => k_is); (case s_WRITERS_sixes => k_is); (case s_WRITERS_marks => k_is); (case g_READERS => k_is); (case l_READERS => k_is); (case kly_READERS => k_keys); (case lox_READERS => first | rfl | decide); (case s_READERS_plain => k_is); (case s_READERS_sixes => k_is); (case s_READERS_marks => k_is); (case a1 => k_is); (case l1 => k_is); (case c1 => k_is); (case k1 => k_is); (case a2 => k_is); (case l2 => k_is); (case c2 => k_is); (case k2 => k_is); (case a3 => k_is); (case l3 => k_is); (case c3 => k_is); (case k3 => k_is); (case a4 => k_is); (case l4 => k_is); (case c4 => k_is); (case k4 => k_is); (case a5 => k_is); (case l5 => k_is); (case c5 => k_is); (case k5 => k_is); (case a6 => k_is); (case l6 => k_is); (case c6 => k_is); (case k6 => k_is); (case a7 => k_is); (case l7 => k_is); (case c7 => k_is); (case k7 => k_is); (case a8 => k_is); (case l8 => k_is); (case c8 => k_is); (case k8 => k_is); (case a9 => k_is); (case l9 => k_is); (case c9 => k_is); (case k9 => k_is); (case a10 => k_is); (case l10 => k_is); (case c10 => k_is); (case k10 => k_is); (case a11 => k_is); (case l11 => k_is); (case c11 => k_is); (case k11 => k_is); (case a12 => k_is); (case l12 => k_is); (case c12 => k_is); (case k12 => k_is); (case a13 => k_is); (case l13 => k_is); (case c13 => k_is); (case k13 => k_is); (case a14 => k_is); (case l14 => k_is); (case c14 => k_is); (case k14 => k_is); (case a15 => k_is); (case l15 => k_is); (case c15 => k_is); (case k15 => k_is); (case a16 => k_is); (case l16 => k_is); (case c16 => k_is); (case k16 => k_is); (case a17 => k_is); (case l17 => k_is); (case c17 => k_is); (case k17 => k_is); (case a18 => k_is); (case l18 => k_is); (case c18 => k_is); (case k18 => k_is); (case a19 => k_is); (case l19 => k_is); (case c19 => k_is); (case k19 => k_is); (case a20 => k_is); (case l20 => k_is); (case c20 => k_is); (case k20 => k_is); (case a21 => k_is); (case l21 => k_is); (case c21 => k_is); (case k21 => k_is); (case a22 => k_is); (case l22 => k_is); (case c22 => k_is); (case k22 => k_is); (case a23 => k_is); (case l23 => k_is); (case c23 => k_is); (case k23 => k_is); (case a24 => k_is); (case l24 => k_is); (case c24 => k_is); (case k24 => k_is); (case a25 => k_is); (case l25 => k_is); (case c25 => k_is); (case k25 => k_is); (case a26 => k_is); (case l26 => k_is); (case c26 => k_is); (case k26 => k_is); (case a27 => k_is); (case l27 => k_is); (case c27 => k_is); (case k27 => k_is); (case a28 => k_is); (case l28 => k_is); (case c28 => k_is); (case k28 => k_is); (case a29 => k_is); (case l29 => k_is); (case c29 => k_is); (case k29 => k_is); (case a30 => k_is); (case l30 => k_is); (case c30 => k_is); (case k30 => k_is); (case a31 => k_is); (case l31 => k_is); (case c31 => k_is); (case k31 => k_is); (case a32 => k_is); (case l32 => k_is); (case c32 => k_is); (case k32 => k_is); (case a33 => k_is); (case l33 => k_is); (case c33 => k_is); (case k33 => k_is); (case a34 => k_is); (case l34 => k_is); (case c34 => k_is); (case k34 => k_is); (case a35 => k_is); (case l35 => k_is); (case c35 => k_is); (case k35 => k_is); (case a36 => k_is); (case l36 => k_is); (case c36 => k_is); (case k36 => k_is); (case a37 => k_is); (case l37 => k_is); (case c37 => k_is); (case k37 => k_is); (case a38 => k_is); (case l38 => k_is); (case c38 => k_is); (case k38 => k_is); (case a39 => k_is); (case l39 => k_is); (case c39 => k_is); (case k39 => k_is); (case a40 => k_is); (case l40 => k_is); (case c40 => k_is); (case k40 => k_is); (case a41 => k_is); (case l41 => k_is); (case c41 => k_is); (case k41 => k_is); (case a42 => k_is); (case l42 => k_is); (case c42 => k_is); (case k42 => k_is); (case a43 => k_is); (case l43 => k_is); (case c43 => k_is); (case k43 => k_is); (case a44 => k_is); (case l44 => k_is); (case c44 => k_is); (case k44 => k_is); (case a45 => k_is); (case l45 => k_is); (case c45 => k_is); (case k45 => k_is); (case a46 => k_is); (case l46 => k_is); (case c46 => k_is); (case k46 => k_is); (case a47 => k_is); (case l47 => k_is); (case c47 => k_is); (case k47 => k_is); (case a48 => k_is); (case l48 => k_is); (case c48 => k_is); (case k48 => k_is); (case a49 => k_is); (case l49 => k_is); (case c49 => k_is); (case k49 => k_is); (case a50 => k_is); (case l50 => k_is); (case c50 => k_is); (case k50 => k_is); (case a51 => k_is); (case l51 => k_is); (case c51 => k_is); (case k51 => k_is); (case a52 => k_is); (case l52 => k_is); (case c52 => k_is); (case k52 => k_is); (case a53 => k_is); (case l53 => k_is); (case c53 => k_is); (case k53 => k_is); (case a54 => k_is); (case l54 => k_is); (case c54 => k_is); (case k54 => k_is); (case a55 => k_is); (case l55 => k_is); (case c55 => k_is); (case k55 => k_is); (case a56 => k_is); (case l56 => k_is); (case c56 => k_is); (case k56 => k_is); (case a57 => k_is); (case l57 => k_is); (case c57 => k_is); (case k57 => k_is); (case a58 => k_is); (case l58 => k_is); (case c58 => k_is); (case k58 => k_is); (case a59 => k_is); (case l59 => k_is); (case c59 => k_is); (case k59 => k_is); (case a60 => k_is); (case l60 => k_is); (case c60 => k_is); (case k60 => k_is); (case a61 => k_is); (case l61 => k_is); (case c61 => k_is); (case k61 => k_is); (case a62 => k_is); (case l62 => k_is); (case c62 => k_is); (case k62 => k_is); (case a63 => k_is); (case l63 => k_is); (case c63 => k_is); (case k63 => k_is); (case z1 => k_is); (case z2 => k_is); (case z3 => k_is); (case z4 => k_is); (case z5 => k_is); (case z6 => k_is); (case z7 => k_is); (case z8 => k_is); (case z9 => k_is); (case z10 => k_is); (case z11 => k_is); (case z12 => k_is); (case v1 => k_is); (case v2 => k_is); (case v3 => k_is); (case v4 => k_is); (case v5 => k_is); (case v6 => k_is); (case v7 => k_is)
