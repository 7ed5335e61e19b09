import PyProof.Rows.All
import Wide.All
import OpenK.AllK
import Wide.FinOn
import PySem.Challenge.RW_foldletter_k77_places_led
import HandS.ForMost
import HandS.Walk
import HandS.IsInst
import HandS.Wide
import HandS.ReplaceDef
import HandS.ReplaceLit
import HandS.ReplaceList
import HandS.StrMore
import HandS.ExcInit
import HandS.ExcIs
import HandS.ExcField
import HandS.Defaults
import HandS.TryOnly
import HandS.WordsExc
import HandS.Rev
import HandS.Conv
import HandS.ClsMeth
import HandS.FStr
import HandS.Flow
import HandS.Style
import HandS.Strs
import PyProof.FString3
import HandS.SetFor
import HandS.Lambda
import HandS.EndOwn
set_option Elab.async false
set_option linter.all false
set_option maxRecDepth 100000
set_option maxHeartbeats 4000000
namespace FL
open PySem PySem.Spec PyProof.Rows L2
def topS (i : Nat) : Stmt := PySem.Challenge.pw_foldletter_k77_places_led.main.body.getD i (.Pass ⟨0, 0, 0, 0⟩)
abbrev sIsText : Stmt := topS 2
abbrev sIsWhole : Stmt := topS 3
abbrev sIsSign : Stmt := topS 4
abbrev cLetterError : Stmt := topS 6
abbrev cNoPlace : Stmt := topS 7
abbrev cNoText : Stmt := topS 8
abbrev cNoChange : Stmt := topS 9
abbrev sDone : Stmt := topS 11
abbrev sLed : Stmt := topS 12
abbrev sIsChange : Stmt := topS 13
abbrev sCellAt : Stmt := topS 15
abbrev sMixed : Stmt := topS 16
abbrev sSource : Stmt := topS 17
abbrev sNext : Stmt := topS 18
abbrev sLawWord : Stmt := topS 19
abbrev sDue : Stmt := topS 20
abbrev sLawRefusedRight : Stmt := topS 21
abbrev sLaw : Stmt := topS 22
end FL

namespace FL
open PySem PySem.Spec PyProof.Rows L2
/-! ### small words -/
theorem pe_weak {X : Cx} {e : Expr} {t t' : TE} (h : PE X e t) (m : ∀ σ H Q, t' σ H Q → t σ H Q) : PE X e t' := ⟨fun pins s σ H Q I q => h.run pins s σ H Q I (m σ H Q q)⟩
theorem lt_one {a b : Nat} : ((([a] : List Nat) < [b])) ↔ a < b := by
  rw [List.cons_lt_cons_iff]
  simp
theorem bl_to {Q : V → Hp → Prop} {H : Hp} {a b : Bool} (e : a = b) (q : Q (.bl b) H) : Q (.bl a) H := by
  rw [e]
  exact q
def tBtw (i lo hi : Nat) : TE := fun σ H Q => ∃ c : Nat, σ[i]? = some (some (.str ⟨#[c]⟩)) ∧ Q (.bl (decide (lo ≤ c ∧ c ≤ hi))) H
theorem pe_btw {X : Cx} (i : Nat) {x a b : Str} {lo hi k1 k2 : Nat} {p1 p2 p3 pos : Pos} (ea : a.cps.toList = [lo]) (eb : b.cps.toList = [hi]) (hx : PE X (.Name x p2) (tVar i))
    (hm : lastMarks [.LtE, .LtE] [.Name x p2, .Constant (.str b) k2 p3] = false := by with_unfolding_all rfl) :
    PE X (.Compare (.Constant (.str a) k1 p1) [.LtE, .LtE] [.Name x p2, .Constant (.str b) k2 p3] pos) (tBtw i lo hi) := by
  refine pe_weak (pe_chain op_le_str op_le_str pe_str hx pe_str hm) ?_
  rintro σ H Q ⟨c, hc, q⟩
  refine ⟨_, hc, _, _, rfl, rfl, _, rfl, ?_⟩
  have e1 : (!decide (((⟨#[c]⟩ : Str).cps.toList) < a.cps.toList)) = decide (lo ≤ c) := by
    rw [ea]
    show (!decide (([c] : List Nat) < [lo])) = decide (lo ≤ c)
    rw [decide_eq_decide.mpr (lt_one (a := c) (b := lo))]
    by_cases h : lo ≤ c
    · rw [decide_eq_true h, decide_eq_false (by omega)]; rfl
    · rw [decide_eq_false h, decide_eq_true (by omega)]; rfl
  have e2 : (!decide (b.cps.toList < ((⟨#[c]⟩ : Str).cps.toList))) = decide (c ≤ hi) := by
    rw [eb]
    show (!decide (([hi] : List Nat) < [c])) = decide (c ≤ hi)
    rw [decide_eq_decide.mpr (lt_one (a := hi) (b := c))]
    by_cases h : c ≤ hi
    · rw [decide_eq_true h, decide_eq_false (by omega)]; rfl
    · rw [decide_eq_false h, decide_eq_true (by omega)]; rfl
  rw [e1]
  by_cases h1 : lo ≤ c
  · rw [decide_eq_true h1, if_pos rfl]
    refine ⟨_, _, rfl, rfl, bl_to e2 (bl_to ?_ q)⟩
    by_cases h2 : c ≤ hi
    · rw [decide_eq_true h2, decide_eq_true ⟨h1, h2⟩]
    · rw [decide_eq_false h2, decide_eq_false (fun z => h2 z.2)]
  · rw [decide_eq_false h1, if_neg Bool.false_ne_true]
    exact bl_to (decide_eq_false (fun z => h1 z.1)).symm q
/-- x or y of two truths -/
theorem pe_orB {X : Cx} {a b : Expr} {rest : List Expr} {pos : Pos} {ta tb : TE} (ha : PE X a ta) (hb : PE X (.BoolOp .Or (b :: rest) pos) tb) :
    PE X (.BoolOp .Or (a :: b :: rest) pos) (tOrV ta tb) := pe_or ha hb
/-! ### what stands where -/
structure FnAt (K : PySem.W.Frag) (mg : Str → Option Value) (x : Str) (st : Stmt) : Prop where
  ex : ∃ f fd, Fun K x x st f fd ∧ mg x = some (.ref f)
def Ready (P : Program) (w : World) (K : PySem.W.Frag) (mg : Str → Option Value) (base : Heap) (k : Nat) (x : Str) (ps : List Str) (sp : Sp) : Prop :=
  ∃ f fd, mg x = some (.ref f) ∧ PySem.W.keepIn K (.ref f) = true ∧ Binds K fd ps [] ∧ FnOk P w K mg base CX0 k f fd ps sp
section
variable {P : Program} {w : World} {K : PySem.W.Frag} {mg : Str → Option Value} {base : Heap}
theorem ready_of {x : Str} {st : Stmt} {k : Nat} {ps : List Str} {sp : Sp} (A : FnAt K mg x st)
    (hb : ∀ (kV doc pm : Value) (an : Option Addr) (cdv ct : Value) (us : List Value), us.length = ps.length → bindArgs (PySem.W.fnOf x x (defArgs st) (defBody st) (defScope st) .none kV doc pm an cdv ct) ⟨us, []⟩ = pure (ps.zip us))
    (ok : ∀ f fd, Fun K x x st f fd → FnOk P w K mg base CX0 k f fd ps sp) : Ready P w K mg base k x ps sp := by
  obtain ⟨f, fd, F, g⟩ := A.ex
  exact ⟨f, fd, g, F.kp, F.binds hb, ok f fd F⟩
/-! ### the mathematics of signs -/
def isLet (c : Nat) : Bool := decide (97 ≤ c ∧ c ≤ 122) || decide (65 ≤ c ∧ c ≤ 90)
def isFig (c : Nat) : Bool := decide (48 ≤ c ∧ c ≤ 57)
def isSig (c : Nat) : Bool := decide (c = 10) || (decide (32 ≤ c ∧ c ≤ 126) && !decide (c = 37))
def atomSigns : List Nat := [33, 35, 36, 38, 39, 42, 43, 45, 46, 47, 61, 63, 94, 95, 96, 123, 124, 125, 126]
def isAtm (c : Nat) : Bool := isLet c || (isFig c || decide (c ∈ atomSigns))
def spSign (f : Nat → Bool) : Sp := fun vs H Q _ => ∃ c : Nat, vs = [.str ⟨#[c]⟩] ∧ Q (.bl (f c)) H
theorem str_one {c d : Nat} : (V.str ⟨#[c]⟩ = V.str ⟨#[d]⟩) ↔ c = d := by
  constructor
  · intro h
    injection h with h
    injection h with h
    have h2 := congrArg Array.toList h
    simpa using h2
  · intro h
    rw [h]
theorem scIsSign : FnScope ["sign"] ["sign"] (defScope sIsSign) := ⟨rfl, rfl, rfl, by decide +kernel, rfl, by decide +kernel, by decide +kernel⟩
theorem r_is_sign (A : FnAt K mg "_is_sign" sIsSign) (mo : mg "ord" = none) {tp : Tok} (mp : mg "PERCENT" = some (.int 37 tp)) : Ready P w K mg base 1 "_is_sign" ["sign"] (spSign isSig) := by
  refine ready_of A (fun _ _ _ _ _ _ us hl => match us, hl with | [_], _ => rfl) fun f fd F => ?_
  refine F.ok scIsSign (fun vs H Q E h => ?_) (fun cdv A outer s H vs Q E hr h => ?_)
  · obtain ⟨c, rfl, _⟩ := h
    rfl
  · obtain ⟨c, rfl, q⟩ := h
    refine ⟨_, pss_one (ps_ret (pe_or (pe_cmpR op_eq (pv 0) pe_str (nomark _)) (pe_one (pe_and (pe_btw (lo := 32) (hi := 126) 0 rfl rfl (pv 0))
      (pe_one (pe_cmpR op_ne (pe_callB call_ord (by rfl) mo (by decide +kernel) (pa_cons (pv 0) pa_nil)) (pe_glob (v := .int 37) rfl mp ⟨tp, rfl⟩) (nomark _))))))), ?_⟩
    refine ⟨_, rfl, rfl, _, rfl, ?_⟩
    have e1 : decide (V.str ⟨#[c]⟩ = V.str ("\n" : Str)) = decide (c = 10) := decide_eq_decide.mpr (str_one (d := 10))
    rw [e1]
    by_cases h1 : c = 10
    · rw [decide_eq_true h1, if_pos rfl]
      exact bl_to (by unfold isSig; rw [decide_eq_true h1]; rfl) q
    · rw [decide_eq_false h1, if_neg Bool.false_ne_true]
      refine ⟨c, rfl, _, rfl, ?_⟩
      by_cases h2 : 32 ≤ c ∧ c ≤ 126
      · rw [decide_eq_true h2, if_pos rfl]
        refine ⟨_, rfl, _, rfl, rfl, rfl, bl_to ?_ q⟩
        unfold isSig
        rw [decide_eq_false h1, decide_eq_true h2, Bool.false_or, Bool.true_and]
        show (!decide (V.int ((c : Nat) : Int) = V.int 37)) = !decide (c = 37)
        congr 1
        refine decide_eq_decide.mpr ⟨fun h => ?_, fun h => by rw [h]; rfl⟩
        injection h with h
        omega
      · rw [decide_eq_false h2, if_neg Bool.false_ne_true]
        exact bl_to (by unfold isSig; rw [decide_eq_false h1, decide_eq_false h2]; rfl) q
end
end FL

namespace FL
open PySem PySem.Spec PyProof.Rows L2
section
variable {P : Program} {w : World} {K : PySem.W.Frag} {mg : Str → Option Value} {base : Heap}
theorem szl {n : Nat} (h : n ≤ 10000) : n < sizeLine := Nat.lt_of_le_of_lt h (by decide)
theorem same_new {H : Hp} {p : Addr} {o : HO} (h : H p = none) : Same H (upd H p o) := fun b x e => by
  rw [upd_ne (ne_of_none e h)]
  exact e
/-- a store to what was not there at the start -/
theorem same_set {H H1 : Hp} {p : Addr} {o : HO} (s : Same H H1) (h : H p = none) : Same H (upd H1 p o) := fun b x e => by
  rw [upd_ne (ne_of_none e h)]
  exact s b x e
theorem take_more {α : Type} {l : List α} {i : Nat} {x : α} (h : l[i]? = some x) : l.take (i + 1) = l.take i ++ [x] := by
  rw [List.take_add_one, h]
  rfl
def allSig (l : List Nat) : Bool := l.all isSig
def isLn (l : List Nat) : Bool := allSig l && !decide (10 ∈ l)
/-- of a text f of its signs; of what is none, False -/
def spLine (K : PySem.W.Frag) (f : List Nat → Bool) : Sp := fun vs H Q _ => ∃ v, vs = [v] ∧
  ((∃ z : Str, v = .str z ∧ z.length ≤ 10000 ∧ ∀ H', Same H H' → Q (.bl (f z.cps.toList)) H') ∨ (∃ t, TyX K H v t ∧ PySem.W.kitOne K t (.type "str") = some false ∧ Q (.bl false) H))
theorem scIsText : FnScope ["value", "sign"] ["value"] (defScope sIsText) := ⟨rfl, rfl, rfl, by decide +kernel, rfl, by decide +kernel, by decide +kernel⟩
theorem r_is_text (A : FnAt K mg "is_text" sIsText) (RS : Ready P w K mg base 1 "_is_sign" ["sign"] (spSign isSig)) (mi : mg "isinstance" = none) (ms : mg "str" = none) (ma : mg "all" = none) :
    Ready P w K mg base 2 "is_text" ["value"] (spLine K allSig) := by
  obtain ⟨fS, fdS, gS, kS, bS, GS⟩ := RS
  refine ready_of A (fun _ _ _ _ _ _ us hl => match us, hl with | [_], _ => rfl) fun f fd F => ?_
  refine F.ok scIsText (fun vs H Q E h => ?_) (fun cdv A outer s H vs Q E hr h => ?_)
  · obtain ⟨v, rfl, _⟩ := h
    rfl
  · obtain ⟨v, rfl, q⟩ := h
    refine ⟨_, pss_one (ps_ret (pe_and (pe_callB call_isi (by rfl) mi (by decide +kernel) (pa_cons (pv 0) (pa_cons (pe_bltn (v := .ty "str") (by rfl) ms (by decide +kernel) rfl) pa_nil)))
      (pe_one (pe_callB (cr_all rfl) (by rfl) ma (by decide +kernel) (pa_cons (pe_lc (own := [("sign", 1)]) (g := gName 1) (tt := tYes) (by rfl) scIsText.nd (pi_str (pv 0))
        (blkOk_by (own := [("sign", 1)]) (N := ["value", "sign"]) (sc := defScope sIsText) (by decide +kernel)) (fun _ _ _ _ _ => pg_name (i := 1) scIsText.nd rfl (Or.inl rfl)) (fun _ _ _ _ _ => pts_nil)
        (fun _ _ _ _ _ => pe_call GS hr (by rfl) gS kS bS .nil pass0 (pa_cons (pv 1) pa_nil))) pa_nil))))), ?_⟩
    rcases q with ⟨z, rfl, hz, q⟩ | ⟨t, ht, hk, q⟩
    · refine ⟨_, rfl, _, _, .type "str", .type "str", true, rfl, ClsV.ty "str", .base (.str z), kit_ty (by decide +kernel), true, rfl, iteT ?_⟩
      refine ⟨_, rfl, z, rfl, fun D hD => ?_⟩
      refine lc_it walk_str (fun i H' => Same H H' ∧ H' D = some (.lst ((z.cps.toList.take i).map fun c => V.bl (isSig c)))) ⟨same_new hD, upd_same⟩ (fun _ _ _ _ => trivial) (fun i x H1 H2 hi hp hy => ?_) (fun H1 hp => ?_)
      · obtain ⟨rfl, c, hc, rfl⟩ := hy
        obtain ⟨sm, hd⟩ := hp
        have hc' : z.cps.toList[i]? = some c := by
          rw [Array.getElem?_toList]
          exact hc
        refine ⟨rfl, ?_⟩
        unfold tYes
        refine iteT ?_
        refine ⟨_, rfl, c, rfl, _, hd, ?_, same_set sm hD, ?_⟩
        · rw [List.length_map]
          exact Nat.lt_of_le_of_lt (List.length_take_le _ _) (szl (by have h2 : z.cps.size = z.length := rfl; omega))
        · rw [upd_same, take_more hc', List.map_append]
          rfl
      · obtain ⟨sm, hd⟩ := hp
        have e : z.cps.toList.take z.cps.size = z.cps.toList := List.take_of_length_le (by simp)
        rw [e] at hd
        refine ⟨D, z.cps.toList.map isSig, rfl, SqL.of (by rw [List.map_map]; exact hd), bl_to ?_ (q H1 sm)⟩
        unfold allSig
        rw [List.all_map]
        rfl
    · exact ⟨_, rfl, _, _, t, .type "str", false, rfl, ClsV.ty "str", ht, hk, false, rfl, iteF q⟩
theorem len_cps (z : Str) : z.cps.toList.length = z.length := by simp [Str.length]
end
end FL

namespace FL
open PySem PySem.Spec PyProof.Rows L2
section
variable {P : Program} {w : World} {K : PySem.W.Frag} {mg : Str → Option Value} {base : Heap}
def spCellAt (K : PySem.W.Frag) : Sp := fun vs H Q _ => ∃ (a : Addr) (ns : List Int) (k : Nat), vs = [.ref a, .int (k : Nat)] ∧ SqL K H a (ns.map V.int) ∧ ∀ x : Int, Q (.int x) H
theorem scCellAt : FnScope ["_law_script", "_law_k"] ["_law_script", "_law_k"] (defScope sCellAt) := ⟨rfl, rfl, rfl, by decide +kernel, rfl, by decide +kernel, by decide +kernel⟩
theorem r_cell_at (A : FnAt K mg "_law_cell_at" sCellAt) (ml : mg "len" = none) : Ready P w K mg base 1 "_law_cell_at" ["_law_script", "_law_k"] (spCellAt K) := by
  refine ready_of A (fun _ _ _ _ _ _ us hl => match us, hl with | [_, _], _ => rfl) fun f fd F => ?_
  refine F.ok scCellAt (fun vs H Q E h => ?_) (fun cdv A outer s H vs Q E hr h => ?_)
  · obtain ⟨a, ns, k, rfl, _⟩ := h
    rfl
  · obtain ⟨a, ns, k, rfl, hS, q⟩ := h
    refine ⟨_, pss_cons (ps_if (pt_cmpR op_lt (pv 1) (pe_callB call_len_seq (by rfl) ml PySem.boot_len (pa_cons (pv 0) pa_nil)) (nomark _)) (pss_one (ps_ret (pe_ix ix_list (pv 0) (pv 1) (fun _ _ => rfl)))) pss_nil)
      (pss_one (ps_ret pe_int)), ?_⟩
    refine ⟨_, rfl, _, rfl, a, _, rfl, .inl hS, _, _, rfl, rfl, _, rfl, ite2 (fun h => ?_) (fun h => ?_)⟩
    · have h1 : k < ns.length := by
        have := of_decide_eq_true h
        rw [List.length_map] at this
        omega
      refine ⟨_, rfl, _, rfl, a, _, _, _, rfl, rfl, hS, atI_nat (v := .int ns[k]) ?_, q _⟩
      rw [List.getElem?_map, List.getElem?_eq_getElem h1]
      rfl
    · exact q 0
def spMixed : Sp := fun vs H Q _ => ∃ (c k : Int), vs = [.int c, .int k] ∧ ∀ r : Int, 0 ≤ r → r < 2147483563 → Q (.int r) H
theorem scMixed : FnScope ["_law_cell", "_law_k", "_law_low"] ["_law_cell", "_law_k"] (defScope sMixed) := ⟨rfl, rfl, rfl, by decide +kernel, rfl, by decide +kernel, by decide +kernel⟩
theorem r_mixed (A : FnAt K mg "_law_mixed" sMixed) : Ready P w K mg base 1 "_law_mixed" ["_law_cell", "_law_k"] spMixed := by
  refine ready_of A (fun _ _ _ _ _ _ us hl => match us, hl with | [_, _], _ => rfl) fun f fd F => ?_
  refine F.ok scMixed (fun vs H Q E h => ?_) (fun cdv A outer s H vs Q E hr h => ?_)
  · obtain ⟨c, k, rfl, _⟩ := h
    rfl
  · obtain ⟨c, k, rfl, q⟩ := h
    refine ⟨_, pss_cons (ps_set (i := 2) scMixed.nd rfl (.inl rfl) (pe_op op_add (pe_op op_mod (pv 0) pe_int) (pe_op op_mul (pe_op op_fdivW (pv 0) pe_int) pe_int)))
      (pss_cons (ps_set (i := 2) scMixed.nd rfl (.inl rfl) (pe_op op_mod (pe_op op_mul (pe_op op_add (pe_op op_add (pv 2) (pe_op op_mul pe_int (pv 1))) pe_int) pe_int) pe_int))
      (pss_cons (ps_set (i := 2) scMixed.nd rfl (.inl rfl) (pe_op op_mod (pe_op op_mul (pv 2) (pe_op op_add (pe_op op_add (pe_op op_fdivN (pv 2) pe_int) pe_int) (pv 1))) pe_int))
      (pss_one (ps_ret (pe_op op_mod (pe_op op_mul (pv 2) (pe_op op_add (pe_op op_fdivN (pv 2) pe_int) pe_int)) pe_int))))), ?_⟩
    refine ⟨_, rfl, _, _, rfl, rfl, (show (0 : Int) < 2147483629 by decide), _, rfl, _, _, rfl, rfl, wide_div (b := 40) (by decide) (by decide) (by decide) (by decide), _, _, rfl, rfl, .inr (by decide), _, _, rfl, rfl, ?_⟩
    generalize c % 2147483629 + c / 2147483629 * 30011 = x1
    refine ⟨_, rfl, _, rfl, _, _, rfl, rfl, .inl (by decide), _, _, rfl, rfl, _, _, rfl, rfl, _, _, rfl, rfl, .inr (by decide), _, _, rfl, rfl, (show (0 : Int) < 2147483629 by decide), ?_⟩
    have a2 := Int.emod_nonneg ((x1 + 69621 * k + 1) * 48271) (by decide : (2147483629 : Int) ≠ 0)
    have b2 := Int.emod_lt_of_pos ((x1 + 69621 * k + 1) * 48271) (by decide : (0 : Int) < 2147483629)
    generalize ((x1 + 69621 * k + 1) * 48271) % 2147483629 = x2 at a2 b2
    refine ⟨_, rfl, _, rfl, _, _, rfl, rfl, ⟨by decide, by decide⟩, _, _, rfl, rfl, _, rfl, _, _, rfl, rfl, _, _, rfl, rfl, .inl ⟨by omega, by omega⟩, _, _, rfl, rfl, (show (0 : Int) < 2147483587 by decide), ?_⟩
    generalize hX : x2 * (x2.fdiv 907 + 16831 + k) = X3
    have a3 := Int.emod_nonneg X3 (by decide : (2147483587 : Int) ≠ 0)
    have b3 := Int.emod_lt_of_pos X3 (by decide : (0 : Int) < 2147483587)
    generalize X3 % 2147483587 = x3 at a3 b3
    refine ⟨_, rfl, _, rfl, _, _, rfl, rfl, ⟨by decide, by decide⟩, _, _, rfl, rfl, _, _, rfl, rfl, .inl ⟨by omega, by omega⟩, _, _, rfl, rfl, (show (0 : Int) < 2147483563 by decide), ?_⟩
    exact q _ (Int.emod_nonneg _ (by decide)) (Int.emod_lt_of_pos _ (by decide))
/-- a source: three numbers at a -/
def Src (H : Hp) (a : Addr) : Prop := ∃ x y z : Int, H a = some (.lst [.int x, .int y, .int z])
def spSource (K : PySem.W.Frag) : Sp := fun vs H Q _ => ∃ (a : Addr) (ns : List Int) (k : Nat), vs = [.ref a, .int (k : Nat)] ∧ SqL K H a (ns.map V.int) ∧ ∀ H' p, Same H H' → H p = none → Src H' p → Q (.ref p) H'
theorem scSource : FnScope ["_law_script", "_law_k", "_law_cell"] ["_law_script", "_law_k"] (defScope sSource) := ⟨rfl, rfl, rfl, by decide +kernel, rfl, by decide +kernel, by decide +kernel⟩
theorem r_source (A : FnAt K mg "_law_source" sSource) (RC : Ready P w K mg base 1 "_law_cell_at" ["_law_script", "_law_k"] (spCellAt K)) (RM : Ready P w K mg base 1 "_law_mixed" ["_law_cell", "_law_k"] spMixed) (ml : mg "len" = none) :
    Ready P w K mg base 2 "_law_source" ["_law_script", "_law_k"] (spSource K) := by
  obtain ⟨f1, fd1, g1, k1, b1, G1⟩ := RC
  obtain ⟨f2, fd2, g2, k2, b2, G2⟩ := RM
  refine ready_of A (fun _ _ _ _ _ _ us hl => match us, hl with | [_, _], _ => rfl) fun f fd F => ?_
  refine F.ok scSource (fun vs H Q E h => ?_) (fun cdv A outer s H vs Q E hr h => ?_)
  · obtain ⟨a, ns, k, rfl, _⟩ := h
    rfl
  · obtain ⟨a, ns, k, rfl, hS, q⟩ := h
    have ix : ∀ e1 e2, PlainIx (.Name e1 e2) := fun _ _ _ _ => rfl
    refine ⟨_, pss_cons (ps_if (pt_cmpR op_lt (pv 1) (pe_callB call_len_seq (by rfl) ml PySem.boot_len (pa_cons (pv 0) pa_nil)) (nomark _))
        (pss_one (ps_ret (pe_lst (pa_cons (pe_ix ix_list (pv 0) (pv 1) (fun _ _ => rfl)) (pa_cons (pe_ix ix_list (pv 0) (pv 1) (fun _ _ => rfl)) (pa_cons pe_int pa_nil)))))) pss_nil)
      (pss_cons (ps_set (i := 2) scSource.nd rfl (.inl rfl) (pe_call G2 hr (by rfl) g2 k2 b2 .nil pass0 (pa_cons (pe_call G1 hr (by rfl) g1 k1 b1 .nil pass0 (pa_cons (pv 0) (pa_cons pe_int pa_nil))) (pa_cons (pe_op op_add pe_int (pv 1)) pa_nil))))
      (pss_one (ps_ret (pe_lst (pa_cons (pv 2) (pa_cons (pv 2) (pa_cons pe_int pa_nil))))))), ?_⟩
    refine ⟨_, rfl, _, rfl, a, _, rfl, .inl hS, _, _, rfl, rfl, _, rfl, ite2 (fun h => ?_) (fun h => ?_)⟩
    · have h1 : k < ns.length := by
        have := of_decide_eq_true h
        rw [List.length_map] at this
        omega
      have g : (ns.map V.int)[k]? = some (.int ns[k]) := by
        rw [List.getElem?_map, List.getElem?_eq_getElem h1]
        rfl
      refine ⟨_, rfl, _, rfl, a, _, _, _, rfl, rfl, hS, atI_nat g, _, rfl, _, rfl, a, _, _, _, rfl, rfl, hS, atI_nat g, (by show 3 ≤ sizeLine; decide), fun l hl => ?_⟩
      exact q _ l (same_new hl) hl ⟨_, _, _, upd_same⟩
    · refine ⟨_, rfl, a, ns, 0, rfl, hS, fun x => ⟨_, rfl, _, _, rfl, rfl, x, _, rfl, fun r _ _ => ?_⟩⟩
      refine ⟨_, rfl, _, rfl, (by show 3 ≤ sizeLine; decide), fun l hl => ?_⟩
      exact q _ l (same_new hl) hl ⟨_, _, _, upd_same⟩
def spNext : Sp := fun vs H Q _ => ∃ (a : Addr) (m : Nat) (x y z : Int), vs = [.ref a, .int (m : Nat)] ∧ 1 ≤ m ∧ m ≤ 100000 ∧ H a = some (.lst [.int x, .int y, .int z]) ∧
  ∀ (r : Nat) (x' z' : Int), r < m → Q (.int (r : Nat)) (upd H a (.lst [.int x', .int y, .int z']))
theorem scNext : FnScope ["_law_source_here", "_law_many", "_law_found"] ["_law_source_here", "_law_many"] (defScope sNext) := ⟨rfl, rfl, rfl, by decide +kernel, rfl, by decide +kernel, by decide +kernel⟩
theorem r_next (A : FnAt K mg "_law_next" sNext) (RM : Ready P w K mg base 1 "_law_mixed" ["_law_cell", "_law_k"] spMixed) : Ready P w K mg base 2 "_law_next" ["_law_source_here", "_law_many"] spNext := by
  obtain ⟨f2, fd2, g2, k2, b2, G2⟩ := RM
  refine ready_of A (fun _ _ _ _ _ _ us hl => match us, hl with | [_, _], _ => rfl) fun f fd F => ?_
  refine F.ok scNext (fun vs H Q E h => ?_) (fun cdv A outer s H vs Q E hr h => ?_)
  · obtain ⟨a, m, x, y, z, rfl, _⟩ := h
    rfl
  · obtain ⟨a, m, x, y, z, rfl, hm1, hm2, hS, q⟩ := h
    refine ⟨_, pss_cons (ps_if (pt_cmpR op_ge (pe_ix ix_list (pv 0) pe_int (fun _ _ => rfl)) (pe_op op_pow pe_int pe_int) (nomark _))
        (pss_cons (ps_set (i := 2) scNext.nd rfl (.inl rfl) (pe_op op_mod (pe_ix ix_list (pv 0) pe_int (fun _ _ => rfl)) (pv 1)))
          (pss_cons (ps_asg (pe_op op_fdivN (pe_ix ix_list (pv 0) pe_int (fun _ _ => rfl)) (pv 1)) (pg_sub (pv 0) pe_int set_list))
          (pss_one (ps_ret (pv 2))))) pss_nil)
      (pss_cons (ps_asg (pe_op op_add (pe_ix ix_list (pv 0) pe_int (fun _ _ => rfl)) pe_int) (pg_sub (pv 0) pe_int set_list))
      (pss_one (ps_ret (pe_op op_mod (pe_call G2 hr (by rfl) g2 k2 b2 .nil pass0 (pa_cons (pe_ix ix_list (pv 0) pe_int (fun _ _ => rfl)) (pa_cons (pe_ix ix_list (pv 0) pe_int (fun _ _ => rfl)) pa_nil))) (pv 1))))), ?_⟩
    have hm0 : (0 : Int) < (m : Int) := by omega
    refine ⟨_, rfl, a, _, _, .int x, rfl, rfl, SqL.of hS, rfl, _, _, rfl, rfl, ⟨by decide, by decide, by decide⟩, _, _, rfl, rfl, _, rfl, ite2 (fun h => ?_) (fun h => ?_)⟩
    · refine ⟨_, rfl, a, _, _, .int x, rfl, rfl, SqL.of hS, rfl, _, rfl, _, _, rfl, rfl, hm0, ?_⟩
      refine ⟨_, rfl, a, _, _, .int x, rfl, rfl, SqL.of hS, rfl, _, rfl, _, _, rfl, rfl, ⟨by omega, by omega⟩, _, rfl, a, _, _, 0, rfl, rfl, hS, rfl, ?_⟩
      have h1 := Int.emod_nonneg x (by omega : (m : Int) ≠ 0)
      have h2 := Int.emod_lt_of_pos x hm0
      have e : ((x % (m : Int)).toNat : Int) = x % (m : Int) := Int.toNat_of_nonneg h1
      refine ⟨_, rfl, ?_⟩
      have := q (x % (m : Int)).toNat (x.fdiv m) z (by omega)
      rw [e] at this
      exact this
    · refine ⟨_, rfl, a, _, _, .int z, rfl, rfl, SqL.of hS, rfl, _, _, rfl, rfl, _, rfl, a, _, _, 2, rfl, rfl, hS, rfl, ?_⟩
      refine ⟨_, rfl, a, _, _, .int y, rfl, rfl, SqL.of upd_same, rfl, _, rfl, a, _, _, .int (z + 1), rfl, rfl, SqL.of upd_same, rfl, y, _, rfl, fun r _ _ => ?_⟩
      refine ⟨_, rfl, _, _, rfl, rfl, hm0, ?_⟩
      have h1 := Int.emod_nonneg r (by omega : (m : Int) ≠ 0)
      have h2 := Int.emod_lt_of_pos r hm0
      have e : ((r % (m : Int)).toNat : Int) = r % (m : Int) := Int.toNat_of_nonneg h1
      have := q (r % (m : Int)).toNat x (z + 1) (by omega)
      rw [e] at this
      exact this
end
end FL

namespace FL
open PySem PySem.Spec PyProof.Rows L2
section
variable {P : Program} {w : World} {K : PySem.W.Frag} {mg : Str → Option Value} {base : Heap}
/-- only the source at a has changed, and new things came -/
structure Drawn (a : Addr) (H H' : Hp) : Prop where
  old : ∀ b o, b ≠ a → H b = some o → H' b = some o
  src : Src H' a
theorem Drawn.refl {a : Addr} {H : Hp} (h : Src H a) : Drawn a H H := ⟨fun _ _ _ h => h, h⟩
theorem Drawn.trans {a : Addr} {H H1 H2 : Hp} (x : Drawn a H H1) (y : Drawn a H1 H2) : Drawn a H H2 := ⟨fun b o n h => y.old b o n (x.old b o n h), y.src⟩
theorem Drawn.same {a : Addr} {H H1 H2 : Hp} (x : Drawn a H H1) (s : Same H1 H2) : Drawn a H H2 :=
  ⟨fun b o n h => s b o (x.old b o n h), let ⟨p, q, r, e⟩ := x.src; ⟨p, q, r, s _ _ e⟩⟩
theorem drawn_upd {a : Addr} {H : Hp} {x y z : Int} : Drawn a H (upd H a (.lst [.int x, .int y, .int z])) := ⟨fun b o n h => by rw [upd_ne n]; exact h, ⟨x, y, z, upd_same⟩⟩
theorem drawn_set {a p : Addr} {H H1 : Hp} {o : HO} (x : Drawn a H H1) (h : H p = none) (n : a ≠ p) : Drawn a H (upd H1 p o) :=
  ⟨fun b u nb e => by rw [upd_ne (ne_of_none e h)]; exact x.old b u nb e, let ⟨u, v, r, e⟩ := x.src; ⟨u, v, r, by rw [upd_ne n]; exact e⟩⟩
theorem joinL_nil : ∀ L : List (List Nat), TL.joinL [] L = L.flatten
  | [] => rfl
  | [p] => by simp [TL.joinL]
  | p :: q :: r => by
    have := joinL_nil (q :: r)
    show p ++ ([] ++ TL.joinL [] (q :: r)) = _
    rw [List.nil_append, this]
    rfl
theorem join_codes (ys : List Str) : (Txt.join ("" : Str) ys).cps.toList = (ys.map fun y => y.cps.toList).flatten := by
  have e : TL.tl ("" : Str) = [] := by decide +kernel
  have h := TL.tl_join ("" : Str) ys
  rw [← TL.join_eq, e, joinL_nil] at h
  exact h
theorem sum_one {ys : List Str} (h : ∀ t ∈ ys, t.length ≤ 1) : (ys.map (·.length)).sum ≤ ys.length := by
  induction ys with
  | nil => exact Nat.le_refl _
  | cons y r ih =>
    have h1 := h y (List.mem_cons_self ..)
    have h2 := ih fun t ht => h t (List.mem_cons_of_mem _ ht)
    rw [List.map_cons, List.sum_cons, List.length_cons]
    omega
theorem codes_one (c : Nat) : (⟨#[c]⟩ : Str).cps.toList = [c] := rfl
theorem flat_ones {ys : List Str} {l : List Nat} (h : ∀ t ∈ ys, ∃ c ∈ l, t = ⟨#[c]⟩) : (∀ c ∈ (ys.map fun y => y.cps.toList).flatten, c ∈ l) ∧ ((ys.map fun y => y.cps.toList).flatten).length = ys.length := by
  induction ys with
  | nil => exact ⟨fun c hc => by simp at hc, rfl⟩
  | cons y r ih =>
    obtain ⟨i1, i2⟩ := ih fun t ht => h t (List.mem_cons_of_mem _ ht)
    obtain ⟨c, hc, rfl⟩ := h y (List.mem_cons_self ..)
    rw [List.map_cons, List.flatten_cons]
    show (∀ d ∈ [c] ++ _, d ∈ l) ∧ ([c] ++ _).length = _
    refine ⟨fun d hd => ?_, by rw [List.length_append, i2, List.length_cons]; simp; omega⟩
    rcases List.mem_append.mp hd with hd | hd
    · rw [List.mem_singleton.mp hd]; exact hc
    · exact i1 d hd
def spSigns : Sp := fun vs H Q _ => ∃ (a : Addr) (s : Str) (m : Nat), vs = [.ref a, .str s, .int (m : Nat)] ∧ 1 ≤ s.length ∧ s.length ≤ 10000 ∧ m ≤ 10000 ∧ Src H a ∧
  ∀ (t : Str) (H' : Hp), (∀ c ∈ t.cps.toList, c ∈ s.cps.toList) → t.length = m → Drawn a H H' → Q (.str t) H'
end
end FL

namespace FL
open PySem PySem.Spec PyProof.Rows L2
/-! ### the class of a caught error that has a dict of its own -/
section
open PySem.W PySem.Calls
theorem cls_found {K : Frag} {D : Addr} {oo : Option Obj} (G : ExcC K D) : findObj K D oo "__class__" = some (.bind (.builtin "getset_descriptor.__get__") (.builtin "object.__class__")) := by
  obtain ⟨cd, hc, _⟩ := any_some G.hd
  unfold findObj
  rw [hc, Option.bind_some, G.ha, Option.bind_some]
  simp [G.hn, G.ht]
theorem cls_of_exc {prog : Program} {w : World} {A : Around} {E : Value → Shared → Prop} {s : Shared} {K : Frag} {x D : Addr} {ox : Obj} {oo : Option Obj} {Q : Option Value → Shared → Prop}
    (G : ExcC K D) (Y : K.In s.heap) (J : InstAt s.heap x ox D oo) (q : Q (some (.ref D)) { s with toks := s.toks + 1 }) : wpAny (model prog w) A (getAttr? (.ref x) "__class__") Q E s := by
  have found := cls_found (oo := oo) G
  obtain ⟨hh, gg, dd, tt, oos⟩ := s
  have t0 : Looks (model prog w) hh (typeOf (.ref x)) (.ref D) := J.type
  have t1 := looks_findIn (M := model prog w) Y G.hg
  have t2 := looks_findIn (M := model prog w) Y G.hk
  have t3 := looks_find (M := model prog w) Y J found
  have isB : Looks (model prog w) hh (isInstance (.ref x) (.type "BaseException")) true := t0.andThen (looks_subIn Y G.hs)
  have n0 : (false && onTheHeap (Value.builtin "BaseException.__getattribute__")) = false := rfl
  have n1 : (onTheHeap (Value.ref D) && Value.builtin "BaseException.__getattribute__" == Value.builtin "object.__getattribute__") = false := by
    rw [show (Value.builtin "BaseException.__getattribute__" == Value.builtin "object.__getattribute__") = false by decide +kernel]
    rfl
  unfold getAttr? getAttrBy? getAttrBy
  refine wpAny_bind (wpAny_mkText (wpAny_bind (wpAny_attempt (wpAny_holding (wpAny_bind (t0.at (wpAny_bind (t1.at ?_))))))))
  refine (show wpAny (model prog w) A (if (onTheHeap (Value.ref D) && Value.builtin "BaseException.__getattribute__" == Value.builtin "object.__getattribute__") = true then _ else _) _ _ _ from ?_)
  rw [n1, if_neg Bool.false_ne_true]
  unfold getAttrByItsOwn hookBefore
  refine wpAny_bind ?_
  rw [if_pos (show onTheHeap (Value.ref D) = true from rfl)]
  refine t2.at (wpAny_bind (wpAny_attempt (wpAny_holding ?_)))
  unfold callGetattribute
  rw [n0, if_neg Bool.false_ne_true]
  unfold boundAndCalled
  rw [PySem.F.excAttr_ValueError.ga.bind (.ref x)]
  refine wpAny_bind (wpAny_pure ?_)
  refine (show wpAny (model prog w) _ (call (.builtin "BaseException.__getattribute__") [.ref x, .str "__class__" tt]) _ _ _ from ?_)
  refine wpAny_call (codeAny_call_builtin PySem.F.excAttr_ValueError.ga.plain PySem.F.entry_bexc_ga ?_)
  refine @check_slot (model prog w) _ _ ⟨hh, gg, dd, tt + 1, oos⟩ "BaseException.__getattribute__" "BaseException" "__getattribute__" (.ref x) [.str "__class__" tt] [] _ (by decide +kernel) (by decide +kernel) isB (PySem.F.args_bexc_ga (.ref x) (.str "__class__" tt)) ?_
  unfold Builtin.«object.__getattribute__»
  refine wpAny_bind (wpAny_of_eq (a := ((Value.ref x : Value), [Value.str "__class__" tt])) (by first | rfl | (simp only [slotArgs]; rfl)) ?_)
  refine wpAny_bind (wpAny_pure (wpAny_bind (t0.at (wpAny_bind (t3.at ?_)))))
  refine (show wpAny (model prog w) _ (holding [Value.builtin "object.__class__"] (call (.builtin "getset_descriptor.__get__") [.builtin "object.__class__", .ref x, .ref D]) >>= ret) _ _ _ from ?_)
  refine wpAny_bind (wpAny_holding (wpAny_call (class_get (s := ⟨hh, gg, dd, tt + 1, oos⟩) (ox := ox) (od := oo) Y J G.hm (wpAny_pure ?_))))
  refine (show wpAny (model prog w) _ (handedOut (.ref D)) _ _ _ from ?_)
  rw [handedOut_of (v := .ref D) rfl]
  first
    | exact wpAny_pure (wpAny_pure q)
    | exact wpAny_pure q
    | exact wpAny_pure (wpAny_bind (wpAny_pure (wpAny_pure q)))
/-- an own class at D stands in the written part as a class -/
theorem cls_there {K : Frag} {D : Addr} (h : hasDictIn K D = true) : ∃ c d' cd sl, K.lookup D = some ⟨c, d', .cls cd, sl⟩ := by
  obtain ⟨cd, hc, _⟩ := any_some h
  unfold clsIn at hc
  split at hc
  · rename_i c' d' cd' sl' ho
    exact ⟨c', d', cd', sl', ho⟩
  · cases hc
theorem kitx_excD {K : Frag} {x D : Addr} {ox : Obj} {oo : Option Obj} (G : ExcC K D) : KitX K (.ref x) (.ref D) (fun h => InstAt h x ox D oo) where
  ty := fun _ _ _ J => J.type
  it := fun _ _ Y _ => by
    obtain ⟨c', d', cd', sl', ho⟩ := cls_there G.hd
    intro A' Q' E' s' k q
    unfold isType loadHead
    exact wpAny_bind (wpAny_loadPart (k _ _ (Y _ _ ho)) (wpAny_pure q))
  ne := fun h tp dd its n sl Y htp => by
    obtain ⟨c', d', cd', sl', ho⟩ := cls_there G.hd
    refine Bool.eq_false_iff.mpr fun z => ?_
    have e : D = tp := Value.ref.inj (beq_iff_eq.mp z)
    subst e
    have z2 := (Y _ _ ho).symm.trans htp
    cases z2
  ca := fun Y J k => cls_of_exc G Y J k
end
theorem kit_same {K : PySem.W.Frag} {C : Addr} : PySem.W.kitOne K (.ref C) (.ref C) = some true := by
  unfold PySem.W.kitOne
  rw [if_pos (beq_self_eq_true _)]
theorem kit_own {K : PySem.W.Frag} {C D : Addr} {b : Bool} (n : ((Value.ref C) == (Value.ref D)) = false) (t : PySem.W.typeIn K (.ref D) = some (.type "type")) (d : PySem.W.hasDictIn K D = true) (s : PySem.W.subIn K (.ref C) (.ref D) = some b) : PySem.W.kitOne K (.ref C) (.ref D) = some b := by
  obtain ⟨cd, hc, _⟩ := PySem.W.any_some d
  unfold PySem.W.kitOne
  rw [if_neg (by rw [n]; exact Bool.false_ne_true)]
  show (if ((PySem.W.clsIn K D).isSome && PySem.W.typeIn K (.ref D) == some (.type "type")) = true then PySem.W.subIn K (.ref C) (.ref D) else none) = some b
  rw [hc, t, if_pos (by rfl)]
  exact s
/-- isinstance(e, c), e the caught error at a, its own dict at dd -/
def rIsD (K : PySem.W.Frag) (D a : Addr) (dd : Addr) : List V → Hp → VK → Prop := fun xs H Q => ∃ (c : V) (cv : Value) (b : Bool) (fs : List (Str × V)), xs = [.ref a, c] ∧ H dd = some (.xd fs) ∧ (∀ u, RelV c u → u = cv) ∧ PySem.W.kitOne K (.ref D) cv = some b ∧ Q (.bl b) H
theorem call_isD {X : Cx} {a D dd : Addr} {oe : Obj} {pn : List (Addr × Obj)} (G : ExcC X.K D) (hz : Zc (.ref D) (some dd) oe) (hf : ∃ vs, oe.data = .fields vs) : CallR (X.suite a ((a, oe) :: pn)) (.builtin "isinstance") (rIsD X.K D a dd) := by
  intro pins s σ H xs us Q I r h
  obtain ⟨c, cv, b, fs, rfl, hd, hcv, e, q⟩ := h
  obtain ⟨u1, u2, rfl, rx, rt⟩ := vals2 r
  cases rx
  have ec := hcv _ rt
  subst ec
  obtain ⟨hget, _⟩ := I.pin (a, oe) (List.mem_append.mpr (.inl List.mem_cons_self))
  obtain ⟨vs, hv⟩ := hf
  have hx : ObjOk X.prog X.w H s.heap dd (.xd fs) := I.hok dd _ hd
  obtain ⟨mA, hns, _⟩ := hx
  obtain ⟨od, ho, _⟩ := lookIn_ns hns
  have J : PySem.W.InstAt s.heap a oe D (some od) := ⟨hget, hz.1, by unfold PySem.W.notCls; rw [hv] <;> rfl, by rw [hz.2]; exact ho⟩
  exact PySem.W.kia_one (kitx_excD G) I.kIn J e (fun z => nomatch z) fun tk => ⟨.bl b, H, I.kept (t' := tk) fun _ _ z => z, rfl, q⟩
/-- the same, where it is told only later which class and which dict the caught error has -/
def rIsG (K : PySem.W.Frag) (D a : Addr) (cls : Value) (d : Option Addr) : List V → Hp → VK → Prop := fun xs H Q => cls = .ref D ∧ ∃ dd, d = some dd ∧ rIsD K D a dd xs H Q
theorem call_isG {X : Cx} {a D : Addr} {cls : Value} {d : Option Addr} {oe : Obj} {pn : List (Addr × Obj)} (G : ExcC X.K D) (hz : Zc cls d oe) (hf : ∃ vs, oe.data = .fields vs) : CallR (X.suite a ((a, oe) :: pn)) (.builtin "isinstance") (rIsG X.K D a cls d) := by
  intro pins s σ H xs us Q I r h
  obtain ⟨rfl, dd, rfl, h⟩ := h
  exact call_isD G hz hf pins s σ H xs us Q I r h
/-! ### C.__init__(self, ..), C an own class -/
structure ClsFn (K : PySem.W.Frag) (C fI : Addr) : Prop where
  ga : PySem.W.specialIn K (.ref C) "__getattribute__" = some (some (.builtin "type.__getattribute__"))
  rd : PySem.W.readsIn K C (.type "type") = true
  at_ : PySem.W.findCls K (.ref C) (.type "type") "__init__" = some (.val (.ref fI))
  kp : PySem.W.keepIn K (.ref fI) = true
theorem pe_cinit {X : Cx} {x : Str} {C fI : Addr} {CX : CXT} {k : Nat} {fd : FuncData} {ps : List Str} {sp : Sp} {ds : List Value} {dvs : List V} {E : XK} {e : Expr} {es : List Expr} {t : TA} {p1 p2 pos : Pos} {pl : Sem Bool} (T : ClsFn X.K C fI) (F : FnOk X.prog X.w X.K X.mg X.base CX k fI fd ps sp) (hr : Room k X.A)
    (hg : Gl X x) (hm : X.mg x = some (.ref C)) (hb : Binds X.K fd ps ds) (hd : Vals dvs ds) (hx : Passes CX X E) (ha : PA X (e :: es) t)
    (hc : eval (.Call (.Attribute (.Name x p1) "__init__" p2) (e :: es) [] pos) X.env = (do
      let ov ← eval (.Name x p1) X.env
      standAt p2.atName
      let (f, first) ← holding [ov] (getMethod ov "__init__" pl)
      callWith pos f first (backTo pos (starEach (e :: es) X.env)) (backToKw pos (keywordEach [] X.env))) := by rfl)
    (hdb : (x == ("__debug__" : Str)) = false := by decide) (he : starEach (e :: es) X.env = (false, eval e X.env) :: starEach es X.env := by rfl) (hpl : (backTo pos (starEach es X.env)).any (·.1) = false := by rfl) :
    PE X (.Call (.Attribute (.Name x p1) "__init__" p2) (e :: es) [] pos) (tCall sp dvs E t) := by
  refine ⟨fun pins s σ H Q I h => ?_⟩
  refine PySem.W.methodCall_KW (ld_glob I hg hm ?_ hdb) hc
  refine PySem.W.method_cls I.kIn T.ga (ClX.getcval_ok (v := .ref fI) (u := .ref fI) I ⟨T.rd, T.ga⟩ ⟨T.at_, rfl⟩ fun s1 I1 => ?_)
  refine (show wpAny (model X.prog X.w) X.A (callWith pos (.ref fI) [] (backTo pos (starEach (e :: es) X.env)) []) _ _ _ from ?_)
  refine PySem.W.callWith_K (h₀ := X.base) I.ok.mod.kin T.kp (thn (ha.run pos pins s1 σ H _ I1 h) fun us s2 ⟨vs, H1, I2, r, q⟩ => ⟨I2.kIn, ?_⟩) he hpl
  exact run_fn F hr hb hd hx I2 r q
section
variable {P : Program} {w : World} {K : PySem.W.Frag} {mg : Str → Option Value} {base : Heap}
abbrev sLE : Stmt := inClass cLetterError 0
abbrev FunA (K : PySem.W.Frag) (qual : Str) (st : Stmt) (dvs : List V) (f : Addr) (fd : FuncData) : Prop := FunD K "__init__" qual (defArgs st) (defBody st) (defScope st) dvs [] f fd
def spLE (K : PySem.W.Frag) : Sp := fun vs H Q _ => ∃ (a C : Addr) (v : V), vs = [.ref a, v] ∧ OexC K C ∧ H a = some (exo a C none) ∧ Q .non H
theorem scLE : FnScope ["self", "why"] ["self", "why"] (defScope sLE) := ⟨rfl, rfl, rfl, by decide +kernel, rfl, by decide +kernel, by decide +kernel⟩
theorem ok_LE {f : Addr} {fd : FuncData} (F : FunA K "LetterError.__init__" sLE [.str ""] f fd) (mV : mg "ValueError" = none) (vV : PySem.W.findCls K (.type "ValueError") (.type "type") "__init__" = some (.val (.builtin "ValueError.__init__"))) :
    FnOk P w K mg base CX0 1 f fd ["self", "why"] (spLE K) := by
  refine FunD.ok F scLE (fun vs H Q E h => ?_) (fun cdv A outer s H vs Q E hr h => ?_)
  · obtain ⟨a, C, v, rfl, _⟩ := h
    rfl
  · obtain ⟨a, C, v, rfl, T, hH, q⟩ := h
    refine ⟨_, pss_one (ps_expr (pe_veinit (by rfl) mV vV (pa_cons (pv 0) (pa_cons (pv 1) pa_nil)))), ?_⟩
    exact ⟨_, rfl, _, rfl, a, C, [v], rfl, by show 1 ≤ 1000; decide, T, hH, q⟩
theorem bind_LE {f : Addr} {fd : FuncData} (F : FunA K "LetterError.__init__" sLE [.str ""] f fd) : ∃ ds, Vals [] ds ∧ Binds K fd ["self", "why"] ds :=
  FunD.binds1 (ps := ["self", "why"]) F 2 1 (by simp) rfl fun T kV doc pm an cdv ct us its hu hi => match us, its, hu, hi with | [_, _], [_], _, _ => ⟨_, rfl, rfl⟩
/-- C(why, y): a new error of the class at C, its field set -/
def spFld (C : Addr) (fld : Str) : Sp := fun vs H Q _ => ∃ (a : Addr) (v y : V), vs = [.ref a, v, y] ∧ H a = some (exo a C none) ∧ ∀ dx, H dx = none → dx ≠ a → Q .non (upd (upd H dx (exd dx [(fld, y)])) a (exo a C (some dx)))
/-- what a raise of C(..) asks and gives -/
structure MkFld (P : Program) (w : World) (K : PySem.W.Frag) (mg : Str → Option Value) (base : Heap) (x : Str) (C : Addr) (fld : Str) : Prop where
  T : OexC K C
  g : mg x = some (.ref C)
  init : ∃ fI fd, PySem.W.findIn K (.ref C) "__init__" = some (some (.ref fI)) ∧ PySem.W.typeIn K (.ref fI) = some (.type "function") ∧ FnOk P w K mg base CX0 2 fI fd ["self", "why", fld] (spFld C fld) ∧
    (∃ ds, Vals [] ds ∧ Binds K fd ["self", "why", fld] ds) ∧ ∃ ds, Vals [.int 0] ds ∧ Binds K fd ["self", "why", fld] ds
/-- the leaf: what the raise gives -/
theorem mk_leaf {C : Addr} {fld : Str} {v y : V} {vs dvs : List V} {H1 : Hp} {Q : XK} (hv : vs ++ dvs = [v, y]) (hl : vs.length ≤ 2) (h : ∀ (d : Addr) (H' : Hp), Same H1 H' → H1 d = none → H' d = some (.xd [(fld, y)]) → Q (.ref C) (some d) H') :
    vs.length ≤ 1000 ∧ ∀ a, H1 a = none → spFld C fld (.ref a :: (vs ++ dvs)) (upd H1 a (exo a C none))
      (fun v H2 => v = .non ∧ ∃ (d : Addr) (fs : List (Str × V)), H2 a = some (exo a C (some d)) ∧ H2 d = some (exd d fs) ∧ H1 d = none ∧ Q (.ref C) (some d) (upd (del H2 a) d (.xd fs))) (fun _ _ _ => False) := by
  refine ⟨by omega, fun a na => ⟨a, v, y, by rw [hv], upd_same, fun dx n1 n2 => ?_⟩⟩
  rw [upd_ne n2] at n1
  refine ⟨rfl, dx, [(fld, y)], upd_same, by rw [upd_ne n2, upd_same], n1, h dx _ (fun b o e => ?_) n1 upd_same⟩
  have hb1 : b ≠ a := ne_of_none e na
  have hb2 : b ≠ dx := ne_of_none e n1
  rw [upd_ne hb2, del_ne hb1, upd_ne hb1, upd_ne hb2, upd_ne hb1]
  exact e
theorem pmk_fld {X : Cx} {x fld : Str} {C : Addr} {e : Expr} {es : List Expr} {ta : TA} {p pos : Pos} (M : MkFld X.prog X.w X.K X.mg X.base x C fld) (hr : Room (2 + 1) X.A) (hg : Gl X x) (ha : PA X (e :: es) ta) (dvs : List V) (hdv : dvs = [] ∨ dvs = [.int 0])
    (hdb : (x == ("__debug__" : Str)) = false := by decide) (he : starEach (e :: es) X.env = (false, eval e X.env) :: starEach es X.env := by rfl) (hpl : (backTo pos (starEach es X.env)).any (·.1) = false := by rfl) :
    PMk X (.Call (.Name x p) (e :: es) [] pos) (tMkO C (spFld C fld) dvs ta) := by
  obtain ⟨fI, fd, iC, tI, F1, ⟨ds1, v1, b1⟩, ⟨ds2, v2, b2⟩⟩ := M.init
  rcases hdv with rfl | rfl
  · exact pmk_oex M.T iC tI F1 hr b1 v1 pass0 hg M.g ha hdb he hpl
  · exact pmk_oex M.T iC tI F1 hr b2 v2 pass0 hg M.g ha hdb he hpl
end
end FL

namespace FL
open PySem PySem.Spec PyProof.Rows L2
/-! ### texts as lists of signs -/
def mk (l : List Nat) : Str := ⟨l.toArray⟩
theorem mk_codes (l : List Nat) : (mk l).cps.toList = l := by simp [mk]
theorem mk_of (z : Str) : mk z.cps.toList = z := TL.mk_tl z
theorem mk_eq {z : Str} {l : List Nat} (h : z.cps.toList = l) : z = mk l := by rw [← h, mk_of]
theorem mk_inj {l m : List Nat} (h : mk l = mk m) : l = m := by rw [← mk_codes l, h, mk_codes]
theorem mk_len (l : List Nat) : (mk l).length = l.length := by simp [mk, Str.length]
theorem mk_one (c : Nat) : mk [c] = ⟨#[c]⟩ := rfl
theorem mk_app (l m : List Nat) : mk l ++ mk m = mk (l ++ m) := by
  have h : (mk l ++ mk m).cps.toList = l ++ m := by
    have := TL.tl_append (mk l) (mk m)
    show (mk l ++ mk m).cps.toList = l ++ m
    rw [show (mk l ++ mk m).cps.toList = (mk l).cps.toList ++ (mk m).cps.toList from this, mk_codes, mk_codes]
  exact mk_eq h
/-! ### slices -/
theorem cutS_one (z : Str) (p : Nat) : (cutS z (some (p : Nat)) (some ((p + 1 : Nat) : Int))).cps.toList = (z.cps.toList.drop p).take 1 := by
  unfold cutS
  rw [HT.sIx_nat, HT.sIx_nat]
  show (List.take _ (List.drop _ _)) = _
  have hl := len_cps z
  by_cases h : p < z.length
  · rw [Nat.min_eq_left (by omega), Nat.min_eq_left (by omega), show p + 1 - p = 1 by omega]
  · rw [Nat.min_eq_right (by omega), Nat.min_eq_right (by omega), Nat.sub_self, List.take_zero, List.drop_eq_nil_of_le (by omega)]
    rfl
theorem cutS_nat (z : Str) {i j : Nat} (h1 : i ≤ z.length) (h2 : j ≤ z.length) : (cutS z (some (i : Nat)) (some (j : Nat))).cps.toList = (z.cps.toList.drop i).take (j - i) := by
  unfold cutS
  rw [HT.sIx_nat, HT.sIx_nat]
  show (List.take _ (List.drop _ _)) = _
  rw [Nat.min_eq_left h1, Nat.min_eq_left h2]
theorem cps_at {z : Str} {p c : Nat} (h : z.cps[p]? = some c) : z.cps.toList[p]? = some c := by rw [Array.getElem?_toList]; exact h
theorem drop_at {l : List Nat} {p c : Nat} (h : l[p]? = some c) : l.drop p = c :: l.drop (p + 1) := by
  have hb : p < l.length := (List.getElem?_eq_some_iff.mp h).1
  have e : l[p] = c := (List.getElem?_eq_some_iff.mp h).2
  rw [List.drop_eq_getElem_cons hb, e]
section
variable {P : Program} {w : World} {K : PySem.W.Frag} {mg : Str → Option Value} {base : Heap}
theorem sign_is {c d : Nat} {x : Str} (hx : x = ⟨#[d]⟩) : decide (V.str ⟨#[c]⟩ = V.str x) = decide (c = d) := by
  rw [hx]
  exact decide_eq_decide.mpr str_one
def ReadyX (P : Program) (w : World) (K : PySem.W.Frag) (mg : Str → Option Value) (base : Heap) (k : Nat) (x : Str) (ps : List Str) (sp : Sp) : Prop :=
  ∃ f fd, mg x = some (.ref f) ∧ PySem.W.keepIn K (.ref f) = true ∧ Binds K fd ps [] ∧ FnOk P w K mg base (L2.CX P w) k f fd ps sp
theorem readyX_of {x : Str} {st : Stmt} {k : Nat} {ps : List Str} {sp : Sp} (A : FnAt K mg x st)
    (hb : ∀ (kV doc pm : Value) (an : Option Addr) (cdv ct : Value) (us : List Value), us.length = ps.length → bindArgs (PySem.W.fnOf x x (defArgs st) (defBody st) (defScope st) .none kV doc pm an cdv ct) ⟨us, []⟩ = pure (ps.zip us))
    (ok : ∀ f fd, Fun K x x st f fd → FnOk P w K mg base (L2.CX P w) k f fd ps sp) : ReadyX P w K mg base k x ps sp := by
  obtain ⟨f, fd, F, g⟩ := A.ex
  exact ⟨f, fd, g, F.kp, F.binds hb, ok f fd F⟩
/-- v is no text without line feeds -/
def NoLine (K : PySem.W.Frag) (H : Hp) (v : V) : Prop := (∃ z : Str, v = .str z ∧ z.length ≤ 10000 ∧ isLn z.cps.toList = false) ∨ (∃ t, TyX K H v t ∧ PySem.W.kitOne K t (.type "str") = some false)
/-- an error of the class at C with its field at y is wished for -/
def Fails (C : Addr) (fld : Str) (y : Int) (H : Hp) (E : XK) : Prop := ∀ (d : Addr) H', Same H H' → H d = none → H' d = some (.xd [(fld, .int y)]) → E (.ref C) (some d) H'
theorem Fails.later {C : Addr} {fld : Str} {y : Int} {H H1 : Hp} {E : XK} (h : Fails C fld y H E) (s : Same H H1) : Fails C fld y H1 E := fun d H' s' n e => h d H' (s.trans s') (Same.free s n) e
theorem len_append (a b : Str) : (a ++ b).length = a.length + b.length := by
  have := TL.tl_append a b
  rw [← len_cps, ← len_cps, ← len_cps]
  rw [show (a ++ b).cps.toList = a.cps.toList ++ b.cps.toList from this, List.length_append]
end
end FL

namespace FL
open PySem PySem.Spec PyProof.Rows L2
theorem strOk_of {z : Str} (h : ∀ c ∈ z.cps.toList, c < 128) : PyData.strOk z = true := by
  unfold PyData.strOk
  rw [← Array.all_toList]
  refine List.all_eq_true.mpr fun c hc => decide_eq_true ?_
  have := h c hc
  omega
theorem canLayAll_of : ∀ {ds : List PyData}, (∀ d ∈ ds, d.canLay0 = true) → PyData.canLayAll0 ds = true
  | [], _ => by simp [PyData.canLayAll0]
  | d :: r, h => by
    rw [PyData.canLayAll0, h d (List.mem_cons_self ..), canLayAll_of fun x hx => h x (List.mem_cons_of_mem _ hx)]
    rfl
theorem depthAll_of {k : Nat} : ∀ {ds : List PyData}, (∀ d ∈ ds, d.depth ≤ k) → PyData.depthAll ds ≤ k
  | [], _ => by simp [PyData.depthAll]
  | d :: r, h => by
    rw [PyData.depthAll]
    exact Nat.max_le.mpr ⟨h d (List.mem_cons_self ..), depthAll_of fun x hx => h x (List.mem_cons_of_mem _ hx)⟩
theorem canLay_str {z : Str} (h : PyData.strOk z = true) : (PyData.str z).canLay0 = true := by
  unfold PyData.canLay0
  exact h
theorem shaped_of {d : PyData} (h : d.canLay0 = true) (k : d.depth ≤ 64) : SeqAt.shaped d = true := by
  unfold SeqAt.shaped
  rw [h, decide_eq_true k]
  rfl
theorem shaped_strs {zs : List Str} (h : ∀ z ∈ zs, PyData.strOk z = true) : SeqAt.shaped (.list (zs.map PyData.str)) = true := by
  refine shaped_of ?_ ?_
  · rw [PyData.canLay0]
    refine canLayAll_of fun d hd => ?_
    obtain ⟨z, hz, rfl⟩ := List.mem_map.mp hd
    exact canLay_str (h z hz)
  · rw [PyData.depth]
    have : PyData.depthAll (zs.map PyData.str) ≤ 0 := depthAll_of fun d hd => by
      obtain ⟨z, hz, rfl⟩ := List.mem_map.mp hd
      rw [PyData.depth]
      exact Nat.le_refl _
    omega
theorem dp_strs {K : PySem.W.Frag} {H : Hp} : ∀ zs : List Str, DpAll K H (zs.map V.str) (zs.map PyData.str)
  | [] => .nil
  | z :: r => .cons (.str z) (dp_strs r)
theorem eqv_nil (ds : List PyData) : PyData.eqv (.list ds) (.list []) = ds.isEmpty := by
  cases ds <;> simp [PyData.eqv, PyData.eqvAll]
theorem same_drawn {H H1 H2 : Hp} {p : Addr} (s : Same H H1) (n : H p = none) (d : Drawn p H1 H2) : Same H H2 := fun b o e => d.old b o (ne_of_none e n) (s b o e)
theorem app_codes (a b : Str) : (a ++ b).cps.toList = a.cps.toList ++ b.cps.toList := TL.tl_append a b
/-- a list of texts as data: in order, and itself -/
theorem strs_ok {zs : List Str} (h : ∀ z ∈ zs, PyData.strOk z = true) : SeqAt.shaped (.list (zs.map PyData.str)) = true ∧ PyData.eqv (.list (zs.map PyData.str)) (.list (zs.map PyData.str)) = true := by
  have hs := shaped_strs h
  exact ⟨hs, SeqAt.eqv_refl _ (Bool.and_eq_true_iff.mp hs).1⟩
end FL


namespace FL
open PySem PySem.Spec PyProof.Rows L2
/-! ### lists of whole numbers -/
def iv (l : List Nat) : List V := l.map fun n : Nat => V.int (n : Int)
theorem iv_len (l : List Nat) : (iv l).length = l.length := List.length_map ..
theorem iv_app (l m : List Nat) : iv (l ++ m) = iv l ++ iv m := List.map_append ..
theorem iv_at {l : List Nat} {i n : Nat} (h : l[i]? = some n) : (iv l)[i]? = some (.int (n : Int)) := by
  unfold iv
  rw [List.getElem?_map, h]
  rfl
theorem iv_take (l : List Nat) (n : Nat) : iv (l.take n) = (iv l).take n := List.map_take ..
theorem iv_drop (l : List Nat) (n : Nat) : iv (l.drop n) = (iv l).drop n := List.map_drop ..
theorem iv_inj {l m : List Nat} (h : iv l = iv m) : l = m := by
  induction l generalizing m with
  | nil => cases m with
    | nil => rfl
    | cons b r => cases h
  | cons a r ih => cases m with
    | nil => cases h
    | cons b s =>
      have h1 := (List.cons.inj h).1
      have h2 := (List.cons.inj h).2
      injection h1 with h1
      rw [show a = b by omega, ih h2]
def idt (l : List Nat) : List PyData := l.map fun n : Nat => PyData.int (n : Int)
theorem dp_ints {K : PySem.W.Frag} {H : Hp} : ∀ l : List Nat, DpAll K H (iv l) (idt l)
  | [] => .nil
  | z :: r => .cons (.int _) (dp_ints r)
theorem shaped_ints (l : List Nat) : SeqAt.shaped (.list (idt l)) = true := by
  refine shaped_of ?_ ?_
  · rw [PyData.canLay0]
    refine canLayAll_of fun d hd => ?_
    obtain ⟨z, hz, rfl⟩ := List.mem_map.mp hd
    rw [PyData.canLay0]
  · rw [PyData.depth]
    have : PyData.depthAll (idt l) ≤ 0 := depthAll_of fun d hd => by
      obtain ⟨z, hz, rfl⟩ := List.mem_map.mp hd
      rw [PyData.depth]
      exact Nat.le_refl _
    omega
theorem eqv_ints_all : ∀ l m : List Nat, PyData.eqvAll (idt l) (idt m) = decide (l = m)
  | [], [] => by simp [idt, PyData.eqvAll]
  | [], b :: s => by simp [idt, PyData.eqvAll]
  | a :: r, [] => by simp [idt, PyData.eqvAll]
  | a :: r, b :: s => by
    have ih := eqv_ints_all r s
    show PyData.eqvAll (PyData.int a :: idt r) (PyData.int b :: idt s) = _
    rw [PyData.eqvAll, ih]
    have e : PyData.eqv (.int (a : Int)) (.int (b : Int)) = decide (a = b) := by
      simp only [PyData.eqv]
      by_cases h : a = b
      · subst h; simp
      · rw [decide_eq_false h]
        simp [h]
        try omega
    rw [e]
    by_cases h1 : a = b <;> by_cases h2 : r = s <;> simp [h1, h2]
theorem eqv_ints (l m : List Nat) : PyData.eqv (.list (idt l)) (.list (idt m)) = decide (l = m) := by
  rw [← eqv_ints_all]
  simp only [PyData.eqv]
/-- two lists of whole numbers as data -/
theorem dpl {K : PySem.W.Frag} {H : Hp} {a : Addr} {l : List Nat} (h : H a = some (.lst (iv l))) : Dp K H (.ref a) (.list (idt l)) := .lst (SqL.of h) (dp_ints l)
theorem dplS {K : PySem.W.Frag} {H : Hp} {a : Addr} {l : List Nat} (h : SqL K H a (iv l)) : Dp K H (.ref a) (.list (idt l)) := .lst h (dp_ints l)
/-! ### whole numbers -/
inductive Whole (K : PySem.W.Frag) (H : Hp) : V → Option Int → Prop
  | int (n : Int) : Whole K H (.int n) (some n)
  | bl (b : Bool) : Whole K H (.bl b) none
  | oth {v : V} {t : Value} (h : TyX K H v t) (k : PySem.W.kitOne K t (.type "int") = some false) : Whole K H v none
theorem TyOf.same {K : PySem.W.Frag} {H H' : Hp} {v : V} {t : Value} (s : Same H H') (h : TyOf K H v t) : TyOf K H' v t := by
  cases h with
  | non => exact .non
  | bl x => exact .bl x
  | int i => exact .int i
  | str x => exact .str x
  | flt x => exact .flt x
  | lst e => exact .lst (s _ _ e)
  | frz e => exact .frz (s _ _ e)
  | tup e => exact .tup (s _ _ e)
  | dK e => exact .dK (s _ _ e)
  | dT e => exact .dT (s _ _ e)
  | ins e cl ha hn htk hm => exact .ins (s _ _ e) cl ha hn htk hm
theorem TyX.same {K : PySem.W.Frag} {H H' : Hp} {v : V} {t : Value} (s : Same H H') (h : TyX K H v t) : TyX K H' v t := by
  cases h with
  | base h => exact .base (TyOf.same s h)
  | byt b => exact .byt b
  | set e => exact .set (s _ _ e)
  | kList e c => exact .kList e c
  | kTuple e c => exact .kTuple e c
  | kDict e c => exact .kDict e c
  | fTuple e => exact .fTuple (s _ _ e)
  | fDict e => exact .fDict (s _ _ e)
theorem Whole.same {K : PySem.W.Frag} {H H' : Hp} {v : V} {o : Option Int} (s : Same H H') (h : Whole K H v o) : Whole K H' v o := by
  cases h with
  | int n => exact .int n
  | bl b => exact .bl b
  | oth h k => exact .oth (TyX.same s h) k
/-- a def by another global name -/
structure FnAs (K : PySem.W.Frag) (mg : Str → Option Value) (x y : Str) (st : Stmt) : Prop where
  ex : ∃ f fd, Fun K y y st f fd ∧ mg x = some (.ref f)
section
variable {P : Program} {w : World} {K : PySem.W.Frag} {mg : Str → Option Value} {base : Heap}
theorem FnAt.as {x : Str} {st : Stmt} (A : FnAt K mg x st) : FnAs K mg x x st := ⟨A.ex⟩
theorem ready_as {x y : Str} {st : Stmt} {k : Nat} {ps : List Str} {sp : Sp} (A : FnAs K mg x y st)
    (hb : ∀ (kV doc pm : Value) (an : Option Addr) (cdv ct : Value) (us : List Value), us.length = ps.length → bindArgs (PySem.W.fnOf y y (defArgs st) (defBody st) (defScope st) .none kV doc pm an cdv ct) ⟨us, []⟩ = pure (ps.zip us))
    (ok : ∀ f fd, Fun K y y st f fd → FnOk P w K mg base CX0 k f fd ps sp) : Ready P w K mg base k x ps sp := by
  obtain ⟨f, fd, F, g⟩ := A.ex
  exact ⟨f, fd, g, F.kp, F.binds hb, ok f fd F⟩
def spWhole (K : PySem.W.Frag) (f : Option Int → Bool) : Sp := fun vs H Q _ => ∃ v o, vs = [v] ∧ Whole K H v o ∧ Q (.bl (f o)) H
theorem scIsWhole : FnScope ["value"] ["value"] (defScope sIsWhole) := ⟨rfl, rfl, rfl, by decide +kernel, rfl, by decide +kernel, by decide +kernel⟩
theorem r_is_whole (A : FnAt K mg "is_whole" sIsWhole) (m_isinstance : mg "isinstance" = none) (m_int : mg "int" = none) (m_bool : mg "bool" = none) : Ready P w K mg base 1 "is_whole" ["value"] (spWhole K Option.isSome) := by
  refine ready_of A (fun _ _ _ _ _ _ us hl => match us, hl with | [_], _ => rfl) fun f fd F => ?_
  refine F.ok scIsWhole (fun vs H Q E h => ?_) (fun cdv A outer s H vs Q E hr h => ?_)
  · obtain ⟨v, o, rfl, _⟩ := h
    rfl
  · obtain ⟨v, o, rfl, hw, q⟩ := h
    refine ⟨_, pss_one (ps_ret (pe_and (pe_callB call_isi (by rfl) m_isinstance (by decide +kernel) (pa_cons (pv 0) (pa_cons (pe_bltn (v := .ty "int") (by rfl) m_int (by decide +kernel) rfl) pa_nil))) (pe_one (pe_not (pe_callB call_isi (by rfl) m_isinstance (by decide +kernel) (pa_cons (pv 0) (pa_cons (pe_bltn (v := .ty "bool") (by rfl) m_bool (by decide +kernel) rfl) pa_nil))))))), ?_⟩
    cases hw with
    | int n =>
      refine ⟨_, rfl, _, _, .type "int", .type "int", true, rfl, ClsV.ty "int", .base (.int n), kit_ty (by decide +kernel), true, rfl, iteT ?_⟩
      exact ⟨_, rfl, _, _, .type "int", .type "bool", false, rfl, ClsV.ty "bool", .base (.int n), kit_ty (by decide +kernel), false, rfl, q⟩
    | bl b =>
      refine ⟨_, rfl, _, _, .type "bool", .type "int", true, rfl, ClsV.ty "int", .base (.bl b), kit_ty (by decide +kernel), true, rfl, iteT ?_⟩
      exact ⟨_, rfl, _, _, .type "bool", .type "bool", true, rfl, ClsV.ty "bool", .base (.bl b), kit_ty (by decide +kernel), true, rfl, q⟩
    | oth h k =>
      exact ⟨_, rfl, _, _, _, .type "int", false, rfl, ClsV.ty "int", h, k, false, rfl, iteF q⟩
def isSgnI (n : Int) : Bool := decide (32 ≤ n ∧ n ≤ 65535)
def isOctI (n : Int) : Bool := decide (0 ≤ n ∧ n ≤ 255)
theorem rng_b {a b c : Int} : (if decide (a ≤ b) = true then decide (b ≤ c) else false) = decide (a ≤ b ∧ b ≤ c) := by
  by_cases h1 : a ≤ b <;> by_cases h2 : b ≤ c <;> simp [h1, h2]
/-- is a list all of whose things are such whole numbers; of a list told by what its things are, of no list, False -/
def spAll (K : PySem.W.Frag) (f : Option Int → Bool) : Sp := fun vs H Q _ => ∃ v, vs = [v] ∧
  ((∃ a xs os, v = .ref a ∧ H a = some (.lst xs) ∧ xs.length ≤ 10000 ∧ Paired (Whole K H) xs os ∧ ∀ H', Same H H' → Q (.bl (os.all f)) H') ∨
   (∃ t, TyX K H v t ∧ PySem.W.kitOne K t (.type "list") = some false ∧ Q (.bl false) H))
theorem paired_at {α β : Type} {R : α → β → Prop} : ∀ {xs : List α} {os : List β} {i : Nat} {x : α}, Paired R xs os → xs[i]? = some x → ∃ o, os[i]? = some o ∧ R x o
  | _, _, _, _, .nil, h => by simp at h
  | _, _, 0, _, .cons h _, e => by
    injection e with e
    subst e
    exact ⟨_, rfl, h⟩
  | _, _, i + 1, _, .cons _ t, e => paired_at (i := i) t e
theorem whole_ints {K : PySem.W.Frag} {H : Hp} : ∀ l : List Nat, Paired (Whole K H) (iv l) (l.map fun n : Nat => some (n : Int))
  | [] => .nil
  | n :: r => .cons (.int _) (whole_ints r)
theorem all_oct {l : List Nat} (h : ∀ n ∈ l, n < 256) : (l.map fun n : Nat => some (n : Int)).all (fun o => o.any isOctI) = true := by
  rw [List.all_map]
  refine List.all_eq_true.mpr fun n hn => ?_
  have := h n hn
  show isOctI (n : Int) = true
  exact decide_eq_true (by omega)
theorem all_sgn {l : List Nat} (h : ∀ n ∈ l, 32 ≤ n ∧ n ≤ 65535) : (l.map fun n : Nat => some (n : Int)).all (fun o => o.any isSgnI) = true := by
  rw [List.all_map]
  refine List.all_eq_true.mpr fun n hn => ?_
  have := h n hn
  show isSgnI (n : Int) = true
  exact decide_eq_true (by omega)
end
end FL


namespace FL
open PySem PySem.Spec PyProof.Rows L2
/-! ### C(why), C an own exception class without an own __init__, its base's one sets no field -/
section
variable {X : Cx} {e : Expr} {es : List Expr} {ta : TA} {p pos : Pos}
theorem mk_endN {pins : List (Addr × Obj)} {σ : L2.St} {H1 H2 : Hp} {hp hp2 h2 : Heap} {g1 g2 : Array GenState} {d1 d2 : PySem.Drawn} {t1 t2 : Nat} {os1 os2 : OsState} {a C : Addr} (I1 : Inv X pins σ H1 ⟨hp, g1, d1, t1, os1⟩)
    (ha : hp.objs.size ≤ a) (k : ∀ b o, hp.get? b = some o → hp2.get? b = some o) (un : Un (frs X.stack) [] (upd H1 a (exo a C none)) H2 hp2 h2) (hok : HOk X.prog X.w H2 h2) (ho : os2 = os1) (hb : AllBare g2)
    (ea : H2 a = some (exo a C none)) :
    ∃ (t0 : Addr) (G : Heap), Inv X pins σ (del H2 a) ⟨G, g2, d2, t2, os2⟩ ∧ (∀ b o, G.get? b = some o → h2.get? b = some o) ∧ G.get? a = none ∧
      h2.get? a = some ({ cls := .ref C, dict := none, data := .fields #[.ref t0, .none, .none, .none, .bool false, .none] } : Obj) ∧ (del H2 a) a = none := by
  obtain ⟨t0, hoe⟩ := exo_at hok ea
  have hn : H1 a = none := I1.hok.fresh ha
  obtain ⟨G, g1', g2'⟩ := restrict h2 fun b => decide (b ≠ a)
  have gk : ∀ b, b ≠ a → G.get? b = h2.get? b := fun b hb => g1' b (decide_eq_true hb)
  have ge : G.get? a = none := g2' a (by simp)
  have nha : ∀ {b : Addr} {o : Obj}, hp.get? b = some o → b ≠ a := fun {b o} z => Nat.ne_of_lt (Nat.lt_of_lt_of_le (Heap.lt_size z) ha)
  have up : ∀ {b : Addr}, b ≠ a → H1 b = none → upd H1 a (exo a C none) b = none := fun {b} hb n => by rw [upd_ne hb]; exact n
  have U : Un (frs X.stack) [] H1 (del H2 a) hp G := {
    keep := fun b o z n hf hx => by
      rw [gk b (nha z)]
      exact un.keep b o (k b o z) (up (nha z) n) hf hx
    slot := fun b o z n hf hx => by
      rw [gk b (nha z)]
      exact un.slot b o (k b o z) (up (nha z) n) hf hx
    free := fun b o z n hx => by
      rw [del_ne (nha z)]
      exact un.free b o (k b o z) (up (nha z) n) hx
    there := fun b o z hx => by
      rw [gk b (nha z)]
      exact un.there b o (k b o z) hx
    tups := fun b xs z => by
      rw [del_ne (ne_of_none z hn)]
      exact un.tups b xs (by rw [upd_ne (ne_of_none z hn)]; exact z)
    frzs := fun b o v z => by
      rw [del_ne (ne_of_none z hn)]
      exact un.frzs b o v (by rw [upd_ne (ne_of_none z hn)]; exact z)
    tbls := fun b ps z => by
      rw [del_ne (ne_of_none z hn)]
      exact un.tbls b ps (by rw [upd_ne (ne_of_none z hn)]; exact z) }
  have hok3 : HOk X.prog X.w (del H2 a) G := fun b o z => by
    have hba : b ≠ a := fun e => by
      rw [e, del_same] at z
      cases z
    rw [del_ne hba] at z
    have noa : ∀ {c : Addr}, H2 c = some (.own b) → c ≠ a := fun {c} hc => at_ne ea hc exo_own
    exact (hok b o z).stay (fun c v hc y => by
        have hca : c ≠ a := by
          rcases hc with hc | hc
          · rw [hc]
            exact hba
          · exact noa hc
        rw [gk c hca]
        exact y)
      (fun c hc => by rw [del_ne (noa hc)]; exact hc) (fun c xs hc => by rw [del_ne (at_ne ea hc exo_tup)]; exact hc)
  have J : Inv X pins σ (del H2 a) ⟨G, g2, d2, t2, os2⟩ := I1.call' (ch := []) ho U hok3 hb (fun b z => absurd z (by simp))
  refine ⟨t0, G, J, fun b o z => ?_, ge, hoe, del_same⟩
  by_cases hba : b = a
  · rw [hba, ge] at z
    cases z
  · exact (gk b hba).symm.trans z
/-- what a raise of such a C(..) asks -/
structure MkN (P : Program) (w : World) (K : PySem.W.Frag) (mg : Str → Option Value) (base : Heap) (x : Str) (C : Addr) : Prop where
  T : OexC K C
  g : mg x = some (.ref C)
  init : ∃ fI fd, PySem.W.findIn K (.ref C) "__init__" = some (some (.ref fI)) ∧ PySem.W.typeIn K (.ref fI) = some (.type "function") ∧ FnOk P w K mg base CX0 1 fI fd ["self", "why"] (spLE K) ∧ ∃ ds, Vals [] ds ∧ Binds K fd ["self", "why"] ds
theorem del_upd {H : Hp} {a : Addr} {o : HO} (h : H a = none) : del (upd H a o) a = H := by
  funext b
  by_cases e : b = a
  · rw [e, del_same, h]
  · rw [del_ne e, upd_ne e]
theorem pmk_non {x : Str} {C : Addr} (M : MkN X.prog X.w X.K X.mg X.base x C) (hr : Room (1 + 1) X.A) (hg : Gl X x) (ha : PA X (e :: es) ta)
    (hdb : (x == ("__debug__" : Str)) = false := by decide) (he : starEach (e :: es) X.env = (false, eval e X.env) :: starEach es X.env := by rfl) (hpl : (backTo pos (starEach es X.env)).any (·.1) = false := by rfl) :
    PMk X (.Call (.Name x p) (e :: es) [] pos) (fun σ H Q => ta σ H fun vs H1 => (∃ v, vs = [v]) ∧ Q (.ref C) none H1) := by
  intro pins s σ H Q I h
  obtain ⟨T, hm, fI, fd, iC, tI, F1, ds, hd, hb⟩ := M
  obtain ⟨nm, q, N, bs, bm, sn, sub, ab, col, dd, k0, k1, k2, k3, k5, hC, hbm⟩ := T.cls
  refine wpAny_Call_Name_kw (ld_glob I hg hm ?_ hdb)
  refine PySem.W.callWith_K (h₀ := X.base) I.ok.mod.kin T.kC (thn (ha.run pos pins s σ H _ I h) fun us s1 ⟨vs, H1, I1, r1, ⟨w0, hz⟩, q1⟩ => ⟨I1.kIn, ?_⟩) he hpl
  subst hz
  show wpAny _ _ (call (.ref C) us) _ _ _
  obtain ⟨hp, g, dr, tk, os⟩ := s1
  have hsz : hp.objs.size ≤ hp.objs.size + 1 := Nat.le_succ _
  have hn : H1 (hp.objs.size + 1) = none := I1.hok.fresh hsz
  have kk : ∀ b o, hp.get? b = some o → ((hp.push (PySem.W.kdv_tup us)).push (PySem.HandSPX.excO C hp.objs.size)).get? b = some o := fun b o e => Heap.get?_push_of_some _ (Heap.get?_push_of_some _ e)
  have hget : ((hp.push (PySem.W.kdv_tup us)).push (PySem.HandSPX.excO C hp.objs.size)).get? (hp.objs.size + 1) = some (PySem.HandSPX.excO C hp.objs.size) := by heap_get
  have I2 : Inv X pins σ (upd H1 (hp.objs.size + 1) (exo (hp.objs.size + 1) C none)) ⟨(hp.push (PySem.W.kdv_tup us)).push (PySem.HandSPX.excO C hp.objs.size), g, dr, tk, os⟩ :=
    I1.laid (t' := tk) (a := hp.objs.size + 1) (o := exo (hp.objs.size + 1) C none) (h' := (hp.push (PySem.W.kdv_tup us)).push (PySem.HandSPX.excO C hp.objs.size)) kk hsz (exo_ok hget)
  have r2 : Vals (V.ref (hp.objs.size + 1) :: ([w0] ++ [])) (Value.ref (hp.objs.size + 1) :: (us ++ ds)) := .cons rfl (r1.append hd)
  have hq : spLE X.K [.ref (hp.objs.size + 1), w0] (upd H1 (hp.objs.size + 1) (exo (hp.objs.size + 1) C none)) (fun v H2 => v = .non ∧ H2 (hp.objs.size + 1) = some (exo (hp.objs.size + 1) C none) ∧ Q (.ref C) none (del H2 (hp.objs.size + 1))) (fun _ _ _ => False) :=
    ⟨_, C, w0, rfl, T, upd_same, rfl, upd_same, by rw [del_upd hn]; exact q1⟩
  have hl : (Value.ref (hp.objs.size + 1) :: us ++ ds).length = 2 := by
    exact r2.length.symm
  have hus : us.length ≤ sizeLine := by
    rw [← Paired.length r1, sizeLine_eq]
    show 1 ≤ _
    omega
  refine wpAny_call (PySem.HandSPX.call_own F.excBase_ValueError (fun Y => PySem.HandSPX.refsVE_contains Y bm hbm) (I1.kIn _ _ hC) (PySem.W.looks_findIn I1.kIn iC) (fun self => PySem.W.bind_fn I1.kIn self tI) hus
    (codeAny_mono (F1.run _ X.stack _ _ ⟨Value.ref (hp.objs.size + 1) :: us, []⟩ (Value.ref (hp.objs.size + 1) :: (us ++ ds)) _ _ (fun _ _ _ => False) (hr.make C us []) (I2.env0.make C us []) (hb _ (Value.ref (hp.objs.size + 1) :: us) I2.kIn hl) r2 hq) fun r s' hq' => ?_))
  cases r with
  | error er => exact pass0 pins σ _ _ er s' I2 hq'
  | ok fl =>
    cases fl with
    | ret u =>
      obtain ⟨v, H2, os2, bare2, un2, hok2, rv, ev, ea, q2⟩ := hq'
      subst ev
      obtain ⟨h2, g2, d2, t2, os'⟩ := s'
      obtain ⟨t0, G, J, kG, ge, hoe, na⟩ := mk_endN (d2 := d2) (t2 := t2) I1 hsz kk un2 hok2 os2 bare2 ea
      exact ⟨rv, _, _, _, ⟨G, g2, d2, t2, os'⟩, _, .ref C, none, rfl, J, kG, ge, hoe, ⟨rfl, rfl⟩, rfl, rfl, na, rfl, bare2, raises_own T.exC T.tyC, q2⟩
    | next => exact False.elim hq'
    | brk => exact False.elim hq'
    | cont => exact False.elim hq'
end
theorem pe_callN0 {X : Cx} {CX : CXT} {k : Nat} {f : Addr} {fd : FuncData} {ps ks : List Str} {sp : Sp} {E : XK} {x : Str} {p pos : Pos} {kws : List Keyword} {tk : TA} {g : List Value → List Value → List Value} {gV : List V → List V → List V}
    (F : FnOk X.prog X.w X.K X.mg X.base CX k f fd ps sp) (hr : Room k X.A) (hg : Gl X x) (hm : X.mg x = some (.ref f)) (hk : PySem.W.keepIn X.K (.ref f) = true) (hb : KBn X.K fd ps 0 ks g gV) (hx : Passes CX X E)
    (hkw : PK X kws tk) (hall : (backToKw pos (keywordEach kws X.env)).all (·.1.isSome) = true := by rfl) (hks : (backToKw pos (keywordEach kws X.env)).filterMap (·.1) = ks := by rfl)
    (hdb : (x == ("__debug__" : Str)) = false := by decide) (hpl : ((backTo pos (starEach [] X.env)).any (·.1) || (backToKw pos (keywordEach kws X.env)).any (·.1.isNone)) = false := by rfl) :
    PE X (.Call (.Name x p) [] kws pos) (fun σ H Q => tk σ H fun zs H1 => zs.length = ks.length ∧ sp (gV [] zs) H1 Q E) := by
  refine ⟨fun pins s σ H Q I h => ?_⟩
  refine wpAny_Call_Name_kw (ld_glob I hg hm ?_ hdb)
  refine PySem.W.callWith_KW0 (h₀ := X.base) I.ok.mod.kin hk hall (thn (hkw.run pos pins s σ H _ I h) fun ws s2 ⟨zs, H2, I2, rz, l2, q2⟩ => ⟨I2.kIn, ?_⟩) hpl
  rw [hks]
  exact run_fnN (us := []) (vs := []) F hr hb hx I2 .nil rz rfl l2 q2
def swp {α : Type} : List α → List α
  | [a, b] => [b, a]
  | l => l
section
variable {P : Program} {w : World} {K : PySem.W.Frag} {mg : Str → Option Value} {base : Heap}
/-- f(x=..): all by keywords, in the def's order -/
abbrev KBs (K : PySem.W.Frag) (fd : FuncData) (ps : List Str) := KBn K fd ps 0 ps (fun _ ws => ws) (fun _ zs => zs)
theorem kb_of {x : Str} {st : Stmt} {f : Addr} {fd : FuncData} {ps : List Str} (F : Fun K x x st f fd)
    (hk : ∀ (kV doc pm : Value) (an : Option Addr) (cdv ct : Value) (ws : List Value), ws.length = ps.length → bindArgs (PySem.W.fnOf x x (defArgs st) (defBody st) (defScope st) .none kV doc pm an cdv ct) ⟨[], ps.zip ws⟩ = pure (ps.zip ws)) : KBs K fd ps := by
  obtain ⟨oc, od, kV, doc, pm, an, cdv, ct, osl, rfl, lk, hcd⟩ := F.ex
  refine ⟨fun s us ws _ hu hw => ?_, fun _ r => r⟩
  match us, hu with
  | [], _ => exact .of_eq (hk _ _ _ _ _ _ ws hw)
/-- two by keywords, the other way round -/
abbrev KBr (K : PySem.W.Frag) (fd : FuncData) (p q : Str) := KBn K fd [p, q] 0 [q, p] (fun _ ws => swp ws) (fun _ zs => swp zs)
theorem kbr_of {x : Str} {st : Stmt} {f : Addr} {fd : FuncData} {p q : Str} (F : Fun K x x st f fd)
    (hk : ∀ (kV doc pm : Value) (an : Option Addr) (cdv ct : Value) (a b : Value), bindArgs (PySem.W.fnOf x x (defArgs st) (defBody st) (defScope st) .none kV doc pm an cdv ct) ⟨[], [(q, a), (p, b)]⟩ = pure [(p, b), (q, a)]) : KBr K fd p q := by
  obtain ⟨oc, od, kV, doc, pm, an, cdv, ct, osl, rfl, lk, hcd⟩ := F.ex
  refine ⟨fun s us ws _ hu hw => ?_, fun {vs us zs ws} _ r => ?_⟩
  · match us, ws, hu, hw with
    | [], [a, b], _, _ => exact .of_eq (hk _ _ _ _ _ _ a b)
  · cases r with
    | nil => exact .nil
    | cons r1 r2 =>
      cases r2 with
      | nil => exact .cons r1 .nil
      | cons r3 r4 =>
        cases r4 with
        | nil => exact .cons r3 (.cons r1 .nil)
        | cons r5 r6 => exact .cons r1 (.cons r3 (.cons r5 r6))
def ReadyKX (P : Program) (w : World) (K : PySem.W.Frag) (mg : Str → Option Value) (base : Heap) (k : Nat) (x : Str) (ps : List Str) (sp : Sp) (kb : FuncData → Prop) : Prop :=
  ∃ f fd, mg x = some (.ref f) ∧ PySem.W.keepIn K (.ref f) = true ∧ Binds K fd ps [] ∧ kb fd ∧ FnOk P w K mg base (L2.CX P w) k f fd ps sp
theorem ReadyKX.x {k : Nat} {x : Str} {ps : List Str} {sp : Sp} {kb : FuncData → Prop} (R : ReadyKX P w K mg base k x ps sp kb) : ReadyX P w K mg base k x ps sp :=
  let ⟨f, fd, g, kp, b, _, G⟩ := R
  ⟨f, fd, g, kp, b, G⟩
theorem readyKX_of {x : Str} {st : Stmt} {k : Nat} {ps : List Str} {sp : Sp} {kb : FuncData → Prop} (A : FnAt K mg x st)
    (hb : ∀ (kV doc pm : Value) (an : Option Addr) (cdv ct : Value) (us : List Value), us.length = ps.length → bindArgs (PySem.W.fnOf x x (defArgs st) (defBody st) (defScope st) .none kV doc pm an cdv ct) ⟨us, []⟩ = pure (ps.zip us))
    (hk : ∀ f fd, Fun K x x st f fd → kb fd)
    (ok : ∀ f fd, Fun K x x st f fd → FnOk P w K mg base (L2.CX P w) k f fd ps sp) : ReadyKX P w K mg base k x ps sp kb := by
  obtain ⟨f, fd, F, g⟩ := A.ex
  exact ⟨f, fd, g, F.kp, F.binds hb, hk f fd F, ok f fd F⟩
end
end FL


namespace FL
open PySem PySem.Spec PyProof.Rows L2
theorem fold_rep (c : Nat) : ∀ (n : Nat) (acc : Array Nat), ((List.replicate n #[c]).foldl (· ++ ·) acc).toList = acc.toList ++ List.replicate n c
  | 0, acc => by simp
  | n + 1, acc => by
    rw [List.replicate_succ, List.foldl_cons, fold_rep c n, List.replicate_succ, Array.toList_append]
    simp
theorem op_mulS {X : Cx} : OpR X (binaryOp .Mult) (fun x y H Q => ∃ (c k : Nat), x = .str ⟨#[c]⟩ ∧ y = .int (k : Nat) ∧ k ≤ 10000 ∧ Q (.str (mk (List.replicate k c))) H) := by
  intro pins s σ H x y v u Q I rx ry h
  obtain ⟨c, k, rfl, rfl, hk, q⟩ := h
  obtain ⟨t, rfl⟩ := rx
  obtain ⟨t', rfl⟩ := ry
  by_cases h0 : k = 0
  · subst h0
    exact PySem.P.mul_str_none (by decide) (by decide) ⟨.str (mk []), H, I.tok _, ⟨_, rfl⟩, q⟩
  · have hl1 : (⟨#[c]⟩ : Str).length = 1 := rfl
    refine PySem.P.mul_str ?_ ?_ ?_ ?_
    · rw [decide_eq_false (by omega : ¬ ((k : Int) < -(2 ^ 63))), decide_eq_false (by omega : ¬ ((k : Int) ≥ 2 ^ 63))]
      rfl
    · intro _ _
      rw [hl1]
      have : (1 : Int) ≤ (2 ^ 63 - 1) / (k : Int) := by
        refine (Int.le_ediv_iff_mul_le (by omega)).mpr ?_
        omega
      omega
    · intro _ _
      rw [hl1, Int.toNat_natCast, Nat.one_mul]
      exact decide_eq_false (Nat.not_lt.mpr (Nat.le_of_lt (szl hk)))
    · rw [if_neg (by omega : ¬ ((k : Int) < 1))]
      by_cases h1 : k = 1
      · subst h1
        rw [if_pos (by rfl)]
        exact ⟨.str (mk [c]), H, I, ⟨t, rfl⟩, q⟩
      · rw [if_neg (by rw [hl1]; simp; omega), Int.toNat_natCast]
        have e : (⟨(List.replicate k (⟨#[c]⟩ : Str).cps).foldl (· ++ ·) #[]⟩ : Str) = mk (List.replicate k c) := mk_eq (by
          show ((List.replicate k #[c]).foldl (· ++ ·) #[]).toList = _
          rw [fold_rep]
          rfl)
        rw [e]
        refine ⟨?_, .str (mk (List.replicate k c)), H, I.tok _, ⟨_, rfl⟩, q⟩
        rw [mk_len, List.length_replicate]
        exact Nat.le_of_lt (szl hk)
theorem drawn_newM {a p : Addr} {H H1 : Hp} {o : HO} (x : Drawn a H H1) (n : H1 p = none) : Drawn a H (upd H1 p o) := x.same (same_new n)
theorem Src.neM {H : Hp} {a q : Addr} (s : Src H a) (n : H q = none) : q ≠ a := fun e => by
  obtain ⟨x, y, z, h⟩ := s
  rw [e, h] at n
  cases n
/-- a thing drawn: its number is less than m -/
def spNextM : Sp := fun vs H Q _ => ∃ (a : Addr) (m : Nat), vs = [.ref a, .int (m : Nat)] ∧ 1 ≤ m ∧ m ≤ 100000 ∧ Src H a ∧ ∀ (r : Nat) H', r < m → Drawn a H H' → Q (.int (r : Nat)) H'
theorem pickM {p : V → Prop} {xs : List V} {r : Nat} (h : r < xs.length) (hp : ∀ v ∈ xs, p v) : ∃ v, atI xs (r : Int) = some v ∧ p v :=
  ⟨xs[r]'h, atI_nat (List.getElem?_eq_getElem h), hp _ (List.getElem_mem h)⟩
theorem kn {H : Hp} {q p : Addr} {o x : HO} (h : H q = some o) (n : H p = none) : upd H p x q = some o := by
  rw [upd_ne (ne_of_none h n)]
  exact h
theorem free_drawn {a p : Addr} {H H1 : Hp} (x : Drawn a H H1) (h : H1 p = none) : H p = none := by
  cases e : H p with
  | none => rfl
  | some o =>
    rw [x.old p o (x.src.neM h) e] at h
    cases h
section
variable {P : Program} {w : World} {K : PySem.W.Frag} {mg : Str → Option Value} {base : Heap}
theorem next_m (R : Ready P w K mg base 2 "_law_next" ["_law_source_here", "_law_many"] spNext) : Ready P w K mg base 2 "_law_next" ["_law_source_here", "_law_many"] spNextM := by
  obtain ⟨f, fd, g, k, b, G⟩ := R
  refine ⟨f, fd, g, k, b, G.imp fun vs H Q E h => ?_⟩
  obtain ⟨a, m, rfl, h1, h2, ⟨x, y, z, hs⟩, q⟩ := h
  exact ⟨a, m, x, y, z, rfl, h1, h2, hs, fun r x' z' hr => q r _ hr drawn_upd⟩
end
end FL


namespace FL
open PySem PySem.Spec PyProof.Rows L2
theorem kit_ve {K : PySem.W.Frag} {C : Addr} (s : PySem.W.subIn K (.ref C) (.type "ValueError") = some true) : PySem.W.kitOne K (.ref C) (.type "ValueError") = some true := by
  unfold PySem.W.kitOne
  rw [if_neg (by intro h; cases h)]
  show (if PySem.W.kitMeta "ValueError" = true then PySem.W.subIn K (.ref C) (.type "ValueError") else none) = some true
  rw [if_pos (by decide +kernel)]
  exact s
end FL


namespace FL
open PySem PySem.Spec PyProof.Rows L2
/-! ### several except clauses, the first one with a name, and sure to take what the body raises -/
/-- how a suite under `as n` ends: the name is gone -/
def goneE (i : Nat) (D : Ends) : Ends := { nx := fun σ H => D.nx (σ.set i none) H, rt := D.rt, bk := fun σ H => D.bk (σ.set i none) H, ct := fun σ H => D.ct (σ.set i none) H }
def wSure (K : PySem.W.Frag) (c : Value) (i : Nat) (ts : Addr → Value → Option Addr → TS) (D : Ends) : WX := fun cls d σ H =>
  PySem.W.exmOne K cls c = some true ∧ ∀ a, H a = none → ts a cls d (goneE i D) (σ.set i (some (.ref a))) H
section
variable {X : Cx} {x n : Str} {c : Value} {i : Nat} {body suite : List Stmt} {b₀ : Stmt} {np pos pos' : Pos} {tb : WX → TS} {ts : Addr → Value → Option Addr → TS} {more : List ExceptHandler}
/-- the suite's end is the statement's, once the name is gone -/
theorem end_gone {pins : List (Addr × Obj)} {a : Addr} {p : Addr × Obj} {D : Ends} (ok : X.Ok) (hN : X.N.Nodup) (hi : X.N[i]? = some n) (hln : X.env.kindOf n = some .local) {f : Flow} {s : Shared} (h : SP (X.suite a (p :: (X.pn ++ pins))) [] (goneE i D) f s) :
    wpAny (model X.prog X.w) X.A (do bindName X.env n .none; unbindBehindTheSuite X.env n pos') (fun _ s7 => SP X pins D f s7) X.xe s := by
  cases f with
  | next =>
    obtain ⟨σ, H, S, q⟩ := h
    exact gone_ok (S.unsuite ok) hN hi hln fun s7 J => ⟨_, _, J, q⟩
  | brk =>
    obtain ⟨σ, H, S, q⟩ := h
    exact gone_ok (S.unsuite ok) hN hi hln fun s7 J => ⟨_, _, J, q⟩
  | cont =>
    obtain ⟨σ, H, S, q⟩ := h
    exact gone_ok (S.unsuite ok) hN hi hln fun s7 J => ⟨_, _, J, q⟩
  | ret u =>
    obtain ⟨v, σ, H, S, r, q⟩ := h
    exact gone_ok (S.unsuite ok) hN hi hln fun s7 J => ⟨_, _, _, J, r, q⟩
/-- the body's end is the statement's -/
theorem end_body {pins : List (Addr × Obj)} {pn : List (Addr × Obj)} {xe : Value → Shared → Prop} {D : Ends} (ok : X.Ok) {f : Flow} {s : Shared} (h : SP (X.tr (X.pn ++ pins) xe) [] D f s) : f ≠ .next → SP X pins D f s := by
  intro hf
  cases f with
  | next => exact absurd rfl hf
  | brk =>
    obtain ⟨σ, H, J, q⟩ := h
    exact ⟨σ, H, J.ofTry ok, q⟩
  | cont =>
    obtain ⟨σ, H, J, q⟩ := h
    exact ⟨σ, H, J.ofTry ok, q⟩
  | ret u =>
    obtain ⟨v, σ, H, J, r, q⟩ := h
    exact ⟨v, σ, H, J.ofTry ok, r, q⟩
theorem ps_try_first (hs : X.stack = X.env :: X.outer) (hf : X.env.frame = some X.env.locals) (hN : X.N.Nodup) (hi : X.N[i]? = some n) (hln : X.env.kindOf n = some .local) (hc : Names X x c)
    (hb : ∀ (W : WX) (pn : List (Addr × Obj)) (xe : Value → Shared → Prop), Takes (X.tr pn xe) W → PassesOwn (model X.prog X.w) X.A X.env xe → PSs (X.tr pn xe) body (tb W))
    (hsu : ∀ (a : Addr) (oe : Obj) (cls : Value) (d : Option Addr) (pn : List (Addr × Obj)), Zc cls d oe → (∃ vs, oe.data = .fields vs) → PSs (X.suite a ((a, oe) :: pn)) (b₀ :: suite) (ts a cls d)) :
    PS X (.Try body (.ExceptHandler (some (.Name x np)) (some n) (b₀ :: suite) pos' :: more) [] [] pos) (fun D σ H => tb (wSure X.K c i ts D) D σ H) := by
  refine ⟨fun pins s σ H D I h => ?_⟩
  have ok := I.ok
  have hfr : X.A.frames = some (X.env :: X.outer) := by rw [ok.frames, hs]
  refine wpAny_Try_except ?_
  have bodyRun := (hb (wSure X.K c i ts D) (X.pn ++ pins) (fun e s₁ => wpAny (model X.prog X.w) X.A (noteFrame e X.env) (fun _ s₂ => wpAny (model X.prog X.w) X.A (setFlight e none) (fun _ s₃ =>
    wpAny (model X.prog X.w) X.A (handleBy e X.env (.ExceptHandler (some (.Name x np)) (some n) (b₀ :: suite) pos' :: more)) (SP X pins D) X.xe s₃) X.xe s₂) X.xe s₁) (fun u s' xx => ?land) PassesOwn.looking).run [] s σ H D (I.toTry _) h
  · refine wpAny_mono bodyRun (fun f s1 q => ?_) fun e s1 z => z
    cases f with
    | next =>
      obtain ⟨σ', H', J', q⟩ := q
      exact wpAny_execs_nil ⟨σ', H', J'.ofTry ok, q⟩
    | brk => exact end_body (pn := []) ok q (by simp)
    | cont => exact end_body (pn := []) ok q (by simp)
    | ret u => exact end_body (pn := []) ok q (by simp)
  case land =>
    obtain ⟨a, B, sI, pins', σ', H', cls, d, rfl, J', nb, up, sky, na, os, ag, hm, hsuite⟩ := xx
    have J : Inv X pins σ' H' sI := J'.ofTry ok
    rw [hs] at sky
    show wpAny (model X.prog X.w) X.A (noteFrame (.ref a) X.env) _ _ _
    refine Sky.land Zc.steady hfr hf sky fun h3 fl3 up3 => ?_
    have J3 : Inv X pins σ' H' { s' with heap := h3 } := J.landed nb fl3.1 (up.trans up3) os ag
    obtain ⟨oe3, vs3, he3, hz3, hd3⟩ := fl3.there
    have out : a ∉ frs (X.env :: X.outer) := fun hmem => by
      obtain ⟨_, o', e', hnf⟩ := fl3.2.2.1.mem hmem
      rw [he3] at e'
      cases e'
      exact hnf _ hd3
    have nL : a ≠ X.env.locals := fun z => out (List.mem_filterMap.mpr ⟨X.env, List.mem_cons_self, by rw [hf, z]⟩)
    have nF : a ∉ X.fs := fun hmem => by
      obtain ⟨e, he, q⟩ := List.mem_filterMap.mp hmem
      exact out (List.mem_filterMap.mpr ⟨e, List.mem_cons_of_mem _ he, q⟩)
    have S3 := J3.suite he3 hd3 na nL nF
    have LM := PySem.W.exm_one (M := model X.prog X.w) J3.kIn (fun A Q E s k q => wpAny_typeOf_ref (k _ _ he3) (by rw [hz3.1]; exact q)) hm
    refine wpAny_handleBy_cons (codeAny_handlers_test ?_) (by intro q; cases q)
    have hit : ∀ {Q : Value → Shared → Prop} {E : Value → Shared → Prop}, Q c { s' with heap := h3 } → wpAny (model X.prog X.w) (X.A.mark (some (.ref a))) (eval (.Name x np) X.env) Q E { s' with heap := h3 } := fun q => by
      obtain ⟨hg, hdbg, hmg | ⟨hmg, hv, hnn⟩⟩ := hc
      · exact ld_glob (X := X.suite a ((a, oe3) :: (X.pn ++ pins))) S3 hg hmg q hdbg
      · exact ld_blt (X := X.suite a ((a, oe3) :: (X.pn ++ pins))) S3 hg hmg hv q hnn hdbg
    refine hit (LM.here ?_)
    refine codeAny_handlers_suite_as (HandSPX.lands_againZ fl3 fun h4 fl4 up4 => ?_)
    have J4 : Inv X pins σ' H' { s' with heap := h4 } := J.landed nb fl4.1 ((up.trans up3).trans up4) os ag
    obtain ⟨oe4, vs4, he4, hz4, hd4⟩ := fl4.there
    have S4 := J4.suite he4 hd4 na nL nF
    refine store_ok (X := X.suite a ((a, oe4) :: (X.pn ++ pins))) (v := .ref a) S4 hN hi (.inl hln) rfl (fun s5 S5 => ?_) (.inr hln)
    exact wpAny_mono ((hsu a oe4 cls d (X.pn ++ pins) hz4 ⟨_, hd4⟩).run [] s5 _ H' _ S5 (hsuite a na)) (fun f s6 q => end_gone (p := (a, oe4)) ok hN hi hln q) fun _ _ z => z.elim
end
end FL


namespace FL
open PySem PySem.Spec PyProof.Rows L2
/-! ### xs.count(x) of flat items; isinstance of a caught error whose class is told later -/
def cntV (x : V) (xs : List V) : Nat := xs.countP fun y => eqV y x
theorem count_eqU {x : V} : ∀ {xs : List V} {us : List Value}, Vals xs us → xs.all flatV = true → us.countP (eqU x) = cntV x xs
  | _, _, .nil, _ => rfl
  | y :: xs, u :: us, .cons r t, f => by
    rw [List.all_cons, Bool.and_eq_true] at f
    unfold cntV
    rw [List.countP_cons, List.countP_cons, eqU_of r f.1]
    have := count_eqU (x := x) t f.2
    unfold cntV at this
    rw [this]
def rCntF (K : PySem.W.Frag) : V → List V → Hp → VK → Prop := fun x xs H Q => ∃ (a : Addr) (ys : List V) (y : V), x = .ref a ∧ xs = [y] ∧ SqL K H a ys ∧ flatV y = true ∧ ys.all flatV = true ∧ Q (.int (cntV y ys : Nat)) H
theorem mt_lcountF {X : Cx} : MtR X "list.count" (rCntF X.K) := by
  intro pins s σ H x xs v us Q I rx rxs h
  obtain ⟨a, ys, y, rfl, rfl, hs, fy, fys, q⟩ := h
  cases rx
  cases rxs with
  | cons ry rt =>
    rename_i uy ut
    cases rt
    obtain ⟨its, rv, ⟨⟨cls, dd, data, sl⟩, n, ho, hc, hdn, hd⟩, hlen⟩ := I.list hs
    simp only at hc hd
    subst hc hd
    refine call_meets PySem.F.slot_list_count ⟨_, ho, rfl⟩ PySem.F.entry_list_count (PySem.F.args_list_count_2 _ _)
      (SeqAt.list_countAt a its.toArray n dd sl uy (eqU y)) ⟨ho, fun u' hu' => mem_eqAt ry fy rv fys u' (by simpa using hu'), ?_⟩
    have ec : its.toArray.toList.countP (eqU y) = cntV y ys := count_eqU rv fys
    refine ⟨.int (cntV y ys : Nat), H, I.tok _, ⟨s.toks, ?_⟩, q⟩
    show Value.int ((its.toArray.toList.countP (eqU y) : Nat) : Int) s.toks = Value.int ((cntV y ys : Nat) : Int) s.toks
    rw [ec]
def rIsN (K : PySem.W.Frag) (a : Addr) (cls : Value) (d : Option Addr) : List V → Hp → VK → Prop := fun xs H Q => ∃ D, cls = .ref D ∧ ExcC K D ∧ ((d = none ∧ rIsE K D a xs H Q) ∨ ∃ dd, d = some dd ∧ rIsD K D a dd xs H Q)
theorem call_isN {X : Cx} {a : Addr} {cls : Value} {d : Option Addr} {oe : Obj} {pn : List (Addr × Obj)} (hz : Zc cls d oe) (hf : ∃ vs, oe.data = .fields vs) : CallR (X.suite a ((a, oe) :: pn)) (.builtin "isinstance") (rIsN X.K a cls d) := by
  intro pins s σ H xs us Q I r h
  obtain ⟨D, rfl, G, h⟩ := h
  rcases h with ⟨rfl, h⟩ | ⟨dd, rfl, h⟩
  · exact call_isE G hz hf pins s σ H xs us Q I r h
  · exact call_isD G hz hf pins s σ H xs us Q I r h
end FL


namespace FL
open PySem PySem.Spec PyProof.Rows L2
/-! ### numbers by a format -/
section
open Builtin Builtin.Str Builtin.Int Builtin.Float
/-- the codes of a number's figures -/
def dgs (b : Nat) (f : Char → Char) (n : Nat) : List Nat := (Nat.toDigits b n).map fun c => (f c).toNat
/-- s the sign, D the figures, filled up by 0 to w -/
def fld (w : Nat) (s D : List Nat) : List Nat :=
  let ds := if D.isEmpty then [] else List.replicate (((w : Int) - ((s.length : Int) + ((0 : Nat) : Int) + ((0 : Nat) : Int))).toNat - D.length) 48 ++ D
  List.replicate 0 48 ++ s ++ [] ++ List.replicate ((w : Int) - ((s.length : Int) + ((0 : Nat) : Int) + ((0 : Nat) : Int)) - (ds.length : Int)).toNat 48 ++ ds ++ [] ++ List.replicate 0 48
theorem fld_of {w : Nat} {D : List Nat} (h : D ≠ []) : fld w [] D = List.replicate (w - D.length) 48 ++ D := by
  unfold fld
  have h1 : D.isEmpty = false := by cases D with
    | nil => exact absurd rfl h
    | cons a r => rfl
  simp only [h1, List.length_nil, Bool.false_eq_true, if_false, List.replicate_zero, List.nil_append, List.append_nil]
  have h2 : (((w : Int) - (((0 : Nat) : Int) + ((0 : Nat) : Int) + ((0 : Nat) : Int))).toNat) = w := by omega
  rw [h2]
  have h3 : ((w : Int) - (((0 : Nat) : Int) + ((0 : Nat) : Int) + ((0 : Nat) : Int)) - ((List.replicate (w - D.length) 48 ++ D).length : Int)).toNat = 0 := by
    rw [List.length_append, List.length_replicate]
    omega
  rw [h3]
  rfl
theorem neg_no (n : Nat) : (if decide ((n : Int) < 0) = true then [45] else ([] : List Nat)) = [] := if_neg (by rw [decide_eq_false (by omega : ¬ (n : Int) < 0)]; exact Bool.false_ne_true)
theorem small_log {n : Nat} (h : n < 10000) : (n : Int).natAbs.log2 < 1920 := by
  rw [Int.natAbs_natCast]
  by_cases h0 : n = 0
  · subst h0; decide
  · have h1 : n.log2 < 14 := (Nat.log2_lt h0).mpr (Nat.lt_of_lt_of_le h (by decide))
    omega
theorem dgs_lt {b n : Nat} {f : Char → Char} (h : n < b) : dgs b f n = [(f n.digitChar).toNat] := by
  unfold dgs
  rw [Nat.toDigits_of_lt_base h]
  rfl
theorem dgs_ge {b n : Nat} {f : Char → Char} (h1 : 1 < b) (h : b ≤ n) : dgs b f n = dgs b f (n / b) ++ [(f (n % b).digitChar).toNat] := by
  unfold dgs
  rw [Nat.toDigits_of_base_le h1 h, List.map_append]
  rfl
theorem dig10 : ∀ k, k < 10 → (id k.digitChar).toNat = 48 + k := by decide
def hexd (k : Nat) : Nat := if k < 10 then 48 + k else 55 + k
theorem dig16 : ∀ k, k < 16 → (k.digitChar.toUpper).toNat = hexd k := by decide +kernel
def hex2 (n : Nat) : List Nat := [hexd (n / 16), hexd (n % 16)]
def dec2 (n : Nat) : List Nat := [48 + n / 10, 48 + n % 10]
def dec4 (n : Nat) : List Nat := [48 + n / 1000, 48 + n / 100 % 10, 48 + n / 10 % 10, 48 + n % 10]
/-- without a 0 ahead -/
def decs (n : Nat) : List Nat := if n < 10 then [48 + n] else if n < 100 then [48 + n / 10, 48 + n % 10] else if n < 1000 then [48 + n / 100, 48 + n / 10 % 10, 48 + n % 10] else dec4 n
theorem dgs10 {n : Nat} (h : n < 10000) : dgs 10 id n = decs n := by
  unfold decs
  split
  · rename_i h1
    rw [dgs_lt h1, dig10 n h1]
  · split
    · rename_i h1 h2
      rw [dgs_ge (by decide) (by omega), dgs_lt (by omega), dig10 _ (by omega), dig10 _ (by omega)]
      rfl
    · split
      · rename_i h1 h2 h3
        rw [dgs_ge (by decide) (by omega), dgs_ge (by decide) (by omega), dgs_lt (by omega), dig10 _ (by omega), dig10 _ (by omega), dig10 _ (by omega), Nat.div_div_eq_div_mul]
        rfl
      · rw [dgs_ge (by decide) (by omega), dgs_ge (by decide) (by omega), dgs_ge (by decide) (by omega), dgs_lt (by omega), dig10 _ (by omega), dig10 _ (by omega), dig10 _ (by omega), dig10 _ (by omega)]
        unfold dec4
        rw [show n / 1000 = n / 10 / 10 / 10 by omega, show n / 100 % 10 = n / 10 / 10 % 10 by omega]
        rfl
theorem fld2 {n : Nat} (h : n < 100) : fld 2 (if decide ((n : Int) < 0) = true then [45] else []) (dgs 10 id n) = dec2 n := by
  rw [neg_no, dgs10 (by omega)]
  unfold decs dec2
  split
  · rename_i h1
    rw [fld_of (by simp), show n / 10 = 0 by omega, show n % 10 = n by omega]
    rfl
  · rw [fld_of (by simp)]
    rfl
theorem fld4 {n : Nat} (h : n < 10000) : fld 4 (if decide ((n : Int) < 0) = true then [45] else []) (dgs 10 id n) = dec4 n := by
  rw [neg_no, dgs10 h]
  unfold decs
  split
  · rw [fld_of (by simp)]
    unfold dec4
    rw [show n / 1000 = 0 by omega, show n / 100 % 10 = 0 by omega, show n / 10 % 10 = 0 by omega, show n % 10 = n by omega]
    rfl
  · split
    · rw [fld_of (by simp)]
      unfold dec4
      rw [show n / 1000 = 0 by omega, show n / 100 % 10 = 0 by omega, show n / 10 % 10 = n / 10 by omega]
      rfl
    · split
      · rw [fld_of (by simp)]
        unfold dec4
        rw [show n / 1000 = 0 by omega, show n / 100 % 10 = n / 100 by omega]
        rfl
      · rw [fld_of (by simp [dec4])]
        rfl
theorem fldX {n : Nat} (h : n < 256) : fld 2 (if decide ((n : Int) < 0) = true then [45] else []) (dgs 16 Char.toUpper n) = hex2 n := by
  rw [neg_no]
  unfold hex2
  by_cases h1 : n < 16
  · rw [dgs_lt h1, dig16 n h1, fld_of (by simp), show n / 16 = 0 by omega, show n % 16 = n by omega]
    rfl
  · rw [dgs_ge (by decide) (by omega), dgs_lt (by omega), dig16 _ (by omega), dig16 _ (by omega), fld_of (by simp)]
    rfl
theorem fmt_X (t u : Tok) (n : Nat) : Gives («int.__format__» ⟨[.int (n : Int) t, .str "02X" u], []⟩) (.str ⟨(fld 2 (if decide ((n : Int) < 0) = true then [45] else []) (dgs 16 Char.toUpper n)).toArray⟩) := by
  exact .of_eq rfl
theorem fmt_02d (t u : Tok) (n : Nat) (h : (n : Int).natAbs.log2 < 1920) : Gives («int.__format__» ⟨[.int (n : Int) t, .str "02d" u], []⟩) (.str ⟨(fld 2 (if decide ((n : Int) < 0) = true then [45] else []) (dgs 10 id n)).toArray⟩) := by
  refine (show Gives (Bind.bind (overDigitLimit? (n : Int)) _) _ from ?_)
  rw [PySem.overDigitLimit_small h]
  exact .of_eq rfl
theorem fmt_04d (t u : Tok) (n : Nat) (h : (n : Int).natAbs.log2 < 1920) : Gives («int.__format__» ⟨[.int (n : Int) t, .str "04d" u], []⟩) (.str ⟨(fld 4 (if decide ((n : Int) < 0) = true then [45] else []) (dgs 10 id n)).toArray⟩) := by
  refine (show Gives (Bind.bind (overDigitLimit? (n : Int)) _) _ from ?_)
  rw [PySem.overDigitLimit_small h]
  exact .of_eq rfl
end
section
variable {X : Cx} {e : Expr} {te : TE} {k : Nat} {p1 p2 pos : Pos}
/-- {e:sp}, e a whole number from 0 on below b -/
def tFmtS (f : Nat → List Nat) (b : Nat) (te : TE) : TE := fun σ H Q => te σ H fun x H1 => ∃ n : Nat, x = .int (n : Int) ∧ n < b ∧ Q (.str (mk (f n))) H1
theorem pe_fmtS {sp : Str} {f : Nat → List Nat} {b : Nat} (hne : (sp.length == 0) = false) (hsz : sp.length ≤ sizeLine) (hf : ∀ n, n < b → (f n).length ≤ 100)
    (g : ∀ (t u : Tok) (n : Nat), n < b → Gives (Builtin.«int.__format__» ⟨[.int (n : Int) t, .str sp u], []⟩) (.str (mk (f n)))) (he : PE X e te) :
    PE X (.FormattedValue e (-1) (some (.JoinedStr [.Constant (.str sp) k p1] p2)) pos) (tFmtS f b te) := by
  refine ⟨fun pins s σ H Q I h => ?_⟩
  refine wpAny_FormattedValue_spec (thn (he.run pins s σ H _ I h) fun v s1 hv => ?_)
  obtain ⟨x, H1, I1, r1, n, rfl, hn, q⟩ := hv
  obtain ⟨t, rfl⟩ := r1
  refine thn ((pe_joined1 pe_str).run pins s1 σ H1 (fun y H2 => y = .str sp ∧ H2 = H1) I1 ⟨rfl, rfl⟩) fun r s2 hr => ?_
  obtain ⟨y, H2, I2, r2, rfl, rfl⟩ := hr
  obtain ⟨u, rfl⟩ := r2
  refine ⟨sp, u, rfl, ?_⟩
  refine wpAny_formatField_spec hne (fun s' => typeIs_int s' _ t) F.slot_int_format F.entry_int_format (fun a b => F.args_int_format_2 a b) (fun u => g t u n hn) ⟨.str (mk (f n)), _, I2.tok _, ⟨_, rfl⟩, q⟩ hsz ?_
  rw [mk_len]
  exact Nat.le_of_lt (szl (by have := hf n hn; omega))
theorem pe_fmtX (he : PE X e te) : PE X (.FormattedValue e (-1) (some (.JoinedStr [.Constant (.str "02X") k p1] p2)) pos) (tFmtS hex2 256 te) :=
  pe_fmtS (by decide +kernel) (by decide +kernel) (fun _ _ => by simp [hex2]) (fun t u n hn => by have := fmt_X t u n; rw [fldX hn] at this; exact this) he
theorem pe_fmt2 (he : PE X e te) : PE X (.FormattedValue e (-1) (some (.JoinedStr [.Constant (.str "02d") k p1] p2)) pos) (tFmtS dec2 100 te) :=
  pe_fmtS (by decide +kernel) (by decide +kernel) (fun _ _ => by simp [dec2]) (fun t u n hn => by have := fmt_02d t u n (small_log (by omega)); rw [fld2 hn] at this; exact this) he
theorem pe_fmt4 (he : PE X e te) : PE X (.FormattedValue e (-1) (some (.JoinedStr [.Constant (.str "04d") k p1] p2)) pos) (tFmtS dec4 10000 te) :=
  pe_fmtS (by decide +kernel) (by decide +kernel) (fun _ _ => by simp [dec4]) (fun t u n hn => by have := fmt_04d t u n (small_log hn); rw [fld4 hn] at this; exact this) he
/-- str(n) -/
theorem toString_codes {n : Nat} (h : n < 10000) : ((toString (n : Int) : String) : Str) = mk (decs n) := by
  refine mk_eq ?_
  rw [← dgs10 h]
  exact TL.tl_num n
end
end FL


namespace FL
open PySem PySem.Spec PyProof.Rows L2
/-! ### sixes -/
def SIXS : Str := "ABCDEFGHIJKLMNOPQRSTUVWXYZabcdefghijklmnopqrstuvwxyz0123456789+/"
def six (n : Nat) : Nat := SIXS.cps.getD n 0
theorem six_at : ∀ n, n < 64 → SIXS.cps[n]? = some (six n) := by decide +kernel
theorem six_len : SIXS.length = 64 := by decide +kernel
def four : List Nat → List Nat
  | [a] => [six (a / 4), six (a % 4 * 16), 61, 61]
  | [a, b] => [six (a / 4), six (a % 4 * 16 + b / 16), six (b % 16 * 4), 61]
  | [a, b, c] => [six (a / 4), six (a % 4 * 16 + b / 16), six (b % 16 * 4 + c / 64), six (c % 64)]
  | _ => []
def sixC : List Nat → List Nat
  | [] => []
  | [a] => four [a]
  | [a, b] => four [a, b]
  | a :: b :: c :: r => four [a, b, c] ++ sixC r
theorem four_len {l : List Nat} (h1 : 1 ≤ l.length) (h2 : l.length ≤ 3) : (four l).length = 4 := by
  match l, h1, h2 with
  | [_], _, _ => rfl
  | [_, _], _, _ => rfl
  | [_, _, _], _, _ => rfl
theorem sixC_step {l : List Nat} (h : l ≠ []) : sixC l = four (l.take 3) ++ sixC (l.drop 3) := by
  match l, h with
  | [_], _ => rfl
  | [_, _], _ => rfl
  | [a, b, c], _ => rfl
  | a :: b :: c :: d :: r, _ => rfl
theorem e61 : ("=" : Str) = mk [61] := by decide +kernel
theorem szX {l : List Nat} (h : l.length ≤ 10000) : (mk l).length ≤ sizeLine := by rw [mk_len]; exact Nat.le_of_lt (szl h)
theorem catX {a b : Str} {l m : List Nat} (ha : a = mk l) (hb : b = mk m) : a ++ b = mk (l ++ m) := by rw [ha, hb, mk_app]
theorem szE {x : Str} {l : List Nat} (h : x = mk l) (hl : l.length ≤ 10000) : x.length ≤ sizeLine := by rw [h]; exact szX hl
theorem cut_toX (z : Str) {p : Nat} (h : p ≤ z.length) : (cutS z none (some (p : Nat))).cps.toList = z.cps.toList.take p := by
  unfold cutS
  rw [HT.sIx_none, HT.sIx_nat, Nat.min_eq_left h]
  show (List.take _ (List.drop 0 _)) = _
  rw [List.drop_zero, Nat.sub_zero]
section
variable {P : Program} {w : World} {K : PySem.W.Frag} {mg : Str → Option Value} {base : Heap}
def spFour : Sp := fun vs H Q _ => ∃ (a : Addr) (l : List Nat), vs = [.ref a] ∧ H a = some (.lst (iv l)) ∧ (∀ n ∈ l, n < 256) ∧ 1 ≤ l.length ∧ l.length ≤ 3 ∧ ∀ H', Same H H' → Q (.str (mk (four l))) H'
theorem size_up {L c : Nat} (h1 : 1 ≤ c) : Builtin.Range.rangeSize 0 (L : Int) (c : Nat) = (((L + c - 1) / c : Nat) : Int) := by
  unfold Builtin.Range.rangeSize
  rw [if_pos (by omega)]
  by_cases h0 : L = 0
  · subst h0
    rw [if_neg (by simp), show 0 + c - 1 = c - 1 by omega, Nat.div_eq_of_lt (by omega)]
    rfl
  · rw [if_pos (by omega)]
    have e : (L + c - 1) / c = (L - 1) / c + 1 := by
      rw [show L + c - 1 = L - 1 + c by omega, Nat.add_div_right _ (by omega)]
    rw [e]
    have : ((L : Int) - 0 - 1) = ((L - 1 : Nat) : Int) := by omega
    rw [this, ← Int.natCast_ediv]
    omega
theorem rg_up {L c : Nat} (h : L ≤ 100000) (h1 : 1 ≤ c) (h2 : c ≤ 1000) : RgC 0 (L : Int) (c : Nat) ((L + c - 1) / c) := by
  refine ⟨by omega, by omega, ?_, size_up h1⟩
  have hs : (L + c - 1) / c ≤ 101000 := Nat.le_trans (Nat.div_le_self _ _) (by omega)
  unfold Builtin.Range.small
  rw [size_up h1]
  generalize (L + c - 1) / c = n at hs
  simp only [Builtin.Range.rangeFitsLong, Bool.and_eq_true, Bool.or_eq_true, decide_eq_true_eq, beq_iff_eq]
  rw [if_pos (show ((c : Nat) : Int) > 0 by omega), Bool.and_eq_true, decide_eq_true_eq, decide_eq_true_eq]
  omega
def spSixes : Sp := fun vs H Q _ => ∃ (a : Addr) (l : List Nat), vs = [.ref a] ∧ H a = some (.lst (iv l)) ∧ (∀ n ∈ l, n < 256) ∧ l.length ≤ 9000 ∧ ∀ H', Same H H' → Q (.str (mk (sixC l))) H'
/-- the fours, one by one -/
def foursOf (l : List Nat) (k : Nat) : List (List Nat) := (List.range k).map fun i => four ((l.drop (3 * i)).take 3)
theorem fours_all : ∀ (k : Nat) (l : List Nat), k = (l.length + 2) / 3 → (foursOf l k).flatten = sixC l
  | 0, l, h => by
    have : l = [] := List.eq_nil_of_length_eq_zero (by omega)
    rw [this]
    rfl
  | k + 1, l, h => by
    have hl : l ≠ [] := fun e => by
      rw [e] at h
      simp at h
    rw [sixC_step hl, ← fours_all k (l.drop 3) (by rw [List.length_drop]; omega)]
    unfold foursOf
    rw [List.range_succ_eq_map, List.map_cons, List.flatten_cons, List.map_map]
    congr 2
    refine List.map_congr_left fun i _ => ?_
    show four ((l.drop (3 * (i + 1))).take 3) = four (((l.drop 3).drop (3 * i)).take 3)
    rw [List.drop_drop, show 3 + 3 * i = 3 * (i + 1) by omega]
end
end FL


namespace FL
open PySem PySem.Spec PyProof.Rows L2
/-- what `_is_change` tells of a value -/
inductive ChgV (K : PySem.W.Frag) (H : Hp) : V → Bool → Prop
  | oth {v : V} {t : Value} (h : TyX K H v t) (k : PySem.W.kitOne K t (.type "tuple") = some false) : ChgV K H v false
  | len {p : Addr} {xs : List V} (h : H p = some (.tup xs)) (n : xs.length ≠ 3) : ChgV K H (.ref p) false
  | fst {p : Addr} {x y z : V} (h : H p = some (.tup [x, y, z])) (w : Whole K H x none) : ChgV K H (.ref p) false
  | snd {p : Addr} {x y z : V} {o : Option Int} (h : H p = some (.tup [x, y, z])) (w : Whole K H x o) (u : Whole K H y none) : ChgV K H (.ref p) false
  | ord {p : Addr} {i j : Int} {z : V} (h : H p = some (.tup [.int i, .int j, z])) (n : ¬ (0 ≤ i ∧ i ≤ j)) : ChgV K H (.ref p) false
  | txt {p : Addr} {i j : Int} {s : Str} (h : H p = some (.tup [.int i, .int j, .str s])) (n : 0 ≤ i ∧ i ≤ j) (l : s.length ≤ 10000) : ChgV K H (.ref p) (allSig s.cps.toList)
  | put {p : Addr} {i j : Int} {z : V} {t : Value} (h : H p = some (.tup [.int i, .int j, z])) (n : 0 ≤ i ∧ i ≤ j) (k : TyX K H z t) (f : PySem.W.kitOne K t (.type "str") = some false) : ChgV K H (.ref p) false
theorem ChgV.same {K : PySem.W.Frag} {H H' : Hp} {v : V} {b : Bool} (s : Same H H') (h : ChgV K H v b) : ChgV K H' v b := by
  cases h with
  | oth h k => exact .oth (TyX.same s h) k
  | len h n => exact .len (s _ _ h) n
  | fst h w => exact .fst (s _ _ h) (w.same s)
  | snd h w u => exact .snd (s _ _ h) (w.same s) (u.same s)
  | ord h n => exact .ord (s _ _ h) n
  | txt h n l => exact .txt (s _ _ h) n l
  | put h n k f => exact .put (s _ _ h) n (TyX.same s k) f
theorem kb' {c : Prop} [Decidable c] {T : Prop} {F : Prop} (h1 : c → T) (h2 : ¬ c → F) : if c then T else F := by
  by_cases h : c
  · rw [if_pos h]; exact h1 h
  · rw [if_neg h]; exact h2 h
section
variable {P : Program} {w : World} {K : PySem.W.Frag} {mg : Str → Option Value} {base : Heap}
def spChg (K : PySem.W.Frag) : Sp := fun vs H Q _ => ∃ v b, vs = [v] ∧ ChgV K H v b ∧ ∀ H', Same H H' → Q (.bl b) H'
theorem scIsChange : FnScope ["value", "begin", "end", "put"] ["value"] (defScope sIsChange) := ⟨rfl, rfl, rfl, by decide +kernel, rfl, by decide +kernel, by decide +kernel⟩
theorem r_is_change (A : FnAt K mg "_is_change" sIsChange) (R1 : Ready P w K mg base 1 "is_whole" ["value"] (spWhole K Option.isSome)) (R2 : Ready P w K mg base 2 "is_text" ["value"] (spLine K allSig)) (m_isinstance : mg "isinstance" = none) (m_len : mg "len" = none) (m_tuple : mg "tuple" = none) :
    Ready P w K mg base 3 "_is_change" ["value"] (spChg K) := by
  obtain ⟨f1, fd1, g1, k1, b1, G1⟩ := R1
  obtain ⟨f2, fd2, g2, k2, b2, G2⟩ := R2
  refine ready_of A (fun _ _ _ _ _ _ us hl => match us, hl with | [_], _ => rfl) fun f fd F => ?_
  refine F.ok scIsChange (fun vs H Q E h => ?_) (fun cdv A outer s H vs Q E hr h => ?_)
  · obtain ⟨v, b, rfl, _⟩ := h
    rfl
  · obtain ⟨v, b, rfl, hc, q⟩ := h
    have sc := scIsChange
    refine ⟨_, pss_cons (ps_if (PW.pt (pw_or (pt_not (pt_val (pe_callB call_isi (by rfl) m_isinstance (by decide +kernel) (pa_cons (pv 0) (pa_cons (pe_bltn (v := .ty "tuple") (by rfl) m_tuple (by decide +kernel) rfl) pa_nil))))) (pw_or1 (pt_cmpR op_ne (pe_callB call_len_seq (by rfl) m_len PySem.boot_len (pa_cons (pv 0) pa_nil)) pe_int (nomark _)))))
        (pss_one (ps_ret pe_bl))
        pss_nil)
      (pss_cons (ps_asg (pv 0) (pg_tup rfl (pgs_cons (pg_name (i := 1) sc.nd rfl (.inl rfl)) (pgs_cons (pg_name (i := 2) sc.nd rfl (.inl rfl)) (pgs_cons (pg_name (i := 3) sc.nd rfl (.inl rfl)) pgs_nil)))))
      (pss_one (ps_ret (pe_and (pe_call G1 (hr.mono (by decide)) (by rfl) g1 k1 b1 .nil pass0 (pa_cons (pv 1) pa_nil)) (pe_and (pe_call G1 (hr.mono (by decide)) (by rfl) g1 k1 b1 .nil pass0 (pa_cons (pv 2) pa_nil)) (pe_and (pe_chain op_le op_le pe_int (pv 1) (pv 2) (by with_unfolding_all rfl)) (pe_one (pe_call G2 (hr.mono (by decide)) (by rfl) g2 k2 b2 .nil pass0 (pa_cons (pv 3) pa_nil))))))))), ?_⟩
    have tupC : ∀ {p : Addr} {xs : List V}, H p = some (.tup xs) → TyX K H (.ref p) (.type "tuple") := fun h => .base (.tup h)
    cases hc with
    | oth h k => exact ⟨_, rfl, _, _, _, .type "tuple", false, rfl, ClsV.ty "tuple", h, k, false, rfl, iteT (q H (Same.refl H))⟩
    | @len p xs h n =>
      refine ⟨_, rfl, _, _, .type "tuple", .type "tuple", true, rfl, ClsV.ty "tuple", tupC h, kit_ty (by decide +kernel), true, rfl, iteF ?_⟩
      refine ⟨_, rfl, _, xs, rfl, .inr (SqT.of h), rfl, _, rfl, ?_⟩
      rw [decide_eq_false (fun z => n (by injection z with z; omega))]
      exact iteT (q H (Same.refl H))
    | fst h w =>
      refine ⟨_, rfl, _, _, .type "tuple", .type "tuple", true, rfl, ClsV.ty "tuple", tupC h, kit_ty (by decide +kernel), true, rfl, iteF ?_⟩
      refine ⟨_, rfl, _, _, rfl, .inr (SqT.of h), rfl, _, rfl, iteF ?_⟩
      refine ⟨_, rfl, _, _, rfl, SqT.of h, rfl, _, _, rfl, _, _, rfl, _, _, rfl, rfl, ?_⟩
      exact ⟨_, rfl, _, _, rfl, w, false, rfl, iteF (q H (Same.refl H))⟩
    | @snd p x y z o h w u =>
      refine ⟨_, rfl, _, _, .type "tuple", .type "tuple", true, rfl, ClsV.ty "tuple", tupC h, kit_ty (by decide +kernel), true, rfl, iteF ?_⟩
      refine ⟨_, rfl, _, _, rfl, .inr (SqT.of h), rfl, _, rfl, iteF ?_⟩
      refine ⟨_, rfl, _, _, rfl, SqT.of h, rfl, _, _, rfl, _, _, rfl, _, _, rfl, rfl, ?_⟩
      cases o with
      | none => exact ⟨_, rfl, _, _, rfl, w, false, rfl, iteF (q H (Same.refl H))⟩
      | some o => exact ⟨_, rfl, _, _, rfl, w, true, rfl, iteT ⟨_, rfl, _, _, rfl, u, false, rfl, iteF (q H (Same.refl H))⟩⟩
    | @ord p i j z h n =>
      refine ⟨_, rfl, _, _, .type "tuple", .type "tuple", true, rfl, ClsV.ty "tuple", tupC h, kit_ty (by decide +kernel), true, rfl, iteF ?_⟩
      refine ⟨_, rfl, _, _, rfl, .inr (SqT.of h), rfl, _, rfl, iteF ?_⟩
      refine ⟨_, rfl, _, _, rfl, SqT.of h, rfl, _, _, rfl, _, _, rfl, _, _, rfl, rfl, ?_⟩
      refine ⟨_, rfl, _, _, rfl, .int i, true, rfl, iteT ⟨_, rfl, _, _, rfl, .int j, true, rfl, iteT ?_⟩⟩
      refine ⟨_, rfl, _, _, rfl, rfl, _, rfl, ?_⟩
      by_cases h0 : 0 ≤ i
      · rw [decide_eq_true h0, if_pos rfl]
        refine ⟨_, rfl, _, _, rfl, rfl, _, rfl, ?_⟩
        rw [decide_eq_false (fun z => n ⟨h0, z⟩)]
        exact iteF (q H (Same.refl H))
      · rw [decide_eq_false h0, if_neg Bool.false_ne_true]
        exact ⟨_, rfl, iteF (q H (Same.refl H))⟩
    | @txt p i j s h n l =>
      refine ⟨_, rfl, _, _, .type "tuple", .type "tuple", true, rfl, ClsV.ty "tuple", tupC h, kit_ty (by decide +kernel), true, rfl, iteF ?_⟩
      refine ⟨_, rfl, _, _, rfl, .inr (SqT.of h), rfl, _, rfl, iteF ?_⟩
      refine ⟨_, rfl, _, _, rfl, SqT.of h, rfl, _, _, rfl, _, _, rfl, _, _, rfl, rfl, ?_⟩
      refine ⟨_, rfl, _, _, rfl, .int i, true, rfl, iteT ⟨_, rfl, _, _, rfl, .int j, true, rfl, iteT ?_⟩⟩
      refine ⟨_, rfl, _, _, rfl, rfl, _, rfl, ?_⟩
      rw [decide_eq_true n.1, if_pos rfl]
      refine ⟨_, rfl, _, _, rfl, rfl, _, rfl, ?_⟩
      rw [decide_eq_true n.2]
      exact iteT ⟨_, rfl, _, rfl, .inl ⟨_, rfl, l, q⟩⟩
    | @put p i j z t h n k f =>
      refine ⟨_, rfl, _, _, .type "tuple", .type "tuple", true, rfl, ClsV.ty "tuple", tupC h, kit_ty (by decide +kernel), true, rfl, iteF ?_⟩
      refine ⟨_, rfl, _, _, rfl, .inr (SqT.of h), rfl, _, rfl, iteF ?_⟩
      refine ⟨_, rfl, _, _, rfl, SqT.of h, rfl, _, _, rfl, _, _, rfl, _, _, rfl, rfl, ?_⟩
      refine ⟨_, rfl, _, _, rfl, .int i, true, rfl, iteT ⟨_, rfl, _, _, rfl, .int j, true, rfl, iteT ?_⟩⟩
      refine ⟨_, rfl, _, _, rfl, rfl, _, rfl, ?_⟩
      rw [decide_eq_true n.1, if_pos rfl]
      refine ⟨_, rfl, _, _, rfl, rfl, _, rfl, ?_⟩
      rw [decide_eq_true n.2]
      exact iteT ⟨_, rfl, _, rfl, .inr ⟨_, k, f, q H (Same.refl H)⟩⟩
/-- where a place leads -/
def ledZ (i j : Int) (n : Nat) (s : Int) : Int := if s ≤ i then s else if s ≥ j then s + n - (j - i) else i
def spLedX (K : PySem.W.Frag) (C CP : Addr) : Sp := fun vs H Q E => ∃ v u, vs = [v, u] ∧
  ((ChgV K H v false ∧ ∀ H', Same H H' → E (.ref C) none H') ∨
   (∃ (p : Addr) (i j : Int) (s : Str), v = .ref p ∧ H p = some (.tup [.int i, .int j, .str s]) ∧ 0 ≤ i ∧ i ≤ j ∧ s.length ≤ 10000 ∧ allSig s.cps.toList = true ∧
     ((Whole K H u none ∧ ∀ H', Same H H' → E (.ref CP) none H') ∨ (∃ t : Int, u = .int t ∧ t < 0 ∧ ∀ H', Same H H' → E (.ref CP) none H') ∨ (∃ t : Int, u = .int t ∧ 0 ≤ t ∧ ∀ H', Same H H' → Q (.int (ledZ i j s.length t)) H'))))
theorem scLed : FnScope ["change", "place", "begin", "end", "put"] ["change", "place"] (defScope sLed) := ⟨rfl, rfl, rfl, by decide +kernel, rfl, by decide +kernel, by decide +kernel⟩
theorem x_led {C CP : Addr} (MNoChange : MkN P w K mg base "NoChange" C) (MNoPlace : MkN P w K mg base "NoPlace" CP) (A : FnAt K mg "led" sLed) (R1 : Ready P w K mg base 3 "_is_change" ["value"] (spChg K)) (R2 : Ready P w K mg base 1 "is_whole" ["value"] (spWhole K Option.isSome)) (m_len : mg "len" = none) :
    ReadyKX P w K mg base 4 "led" ["change", "place"] (spLedX K C CP) (fun fd => KBr K fd "change" "place") := by
  obtain ⟨f1, fd1, g1, k1, b1, G1⟩ := R1
  obtain ⟨f2, fd2, g2, k2, b2, G2⟩ := R2
  refine readyKX_of A (fun _ _ _ _ _ _ us hl => match us, hl with | [_, _], _ => rfl) (fun f fd F => kbr_of F (fun _ _ _ _ _ _ a b => rfl)) fun f fd F => ?_
  refine F.okX scLed (fun vs H Q E h => ?_) (fun cdv A outer s H vs Q E hr h => ?_)
  · obtain ⟨v, u, rfl, _⟩ := h
    rfl
  · obtain ⟨v, u, rfl, h⟩ := h
    have sc := scLed
    refine ⟨_, pss_cons (ps_if (pt_not (pt_val (pe_call G1 (hr.mono (by decide)) (by rfl) g1 k1 b1 .nil pass0 (pa_cons (pv 0) pa_nil))))
        (pss_one (ps_raise rfl (takes_of rfl rfl rfl rfl) (pmk_non MNoChange (hr.mono (by decide)) (by rfl) (pa_cons pe_str pa_nil))))
        pss_nil)
      (pss_cons (ps_if (PW.pt (pw_or (pt_not (pt_val (pe_call G2 (hr.mono (by decide)) (by rfl) g2 k2 b2 .nil pass0 (pa_cons (pv 1) pa_nil)))) (pw_or1 (pt_cmpR op_lt (pv 1) pe_int (nomark _)))))
        (pss_one (ps_raise rfl (takes_of rfl rfl rfl rfl) (pmk_non MNoPlace (hr.mono (by decide)) (by rfl) (pa_cons pe_str pa_nil))))
        pss_nil)
      (pss_cons (ps_asg (pv 0) (pg_tup rfl (pgs_cons (pg_name (i := 2) sc.nd rfl (.inl rfl)) (pgs_cons (pg_name (i := 3) sc.nd rfl (.inl rfl)) (pgs_cons (pg_name (i := 4) sc.nd rfl (.inl rfl)) pgs_nil)))))
      (pss_cons (ps_if (pt_cmpR op_le (pv 1) (pv 2) (nomark _))
        (pss_one (ps_ret (pv 1)))
        pss_nil)
      (pss_cons (ps_if (pt_cmpR op_ge (pv 1) (pv 3) (nomark _))
        (pss_one (ps_ret (pe_op op_sub (pe_op op_add (pv 1) (pe_callB call_len_str (by rfl) m_len PySem.boot_len (pa_cons (pv 4) pa_nil))) (pe_op op_sub (pv 3) (pv 2)))))
        pss_nil)
      (pss_one (ps_ret (pv 2))))))), ?_⟩
    rcases h with ⟨hc, qe⟩ | ⟨p, i, j, s, rfl, hp, hi, hj, hs, ha, h⟩
    · exact ⟨_, rfl, _, _, rfl, hc, fun H' s' => ⟨_, rfl, iteT ⟨⟨_, rfl⟩, qe H' s'⟩⟩⟩
    · have hg : ChgV K H (.ref p) true := by
        have := ChgV.txt (K := K) hp ⟨hi, hj⟩ hs
        rwa [ha] at this
      refine ⟨_, rfl, _, _, rfl, hg, fun H' s' => ⟨_, rfl, iteF ?_⟩⟩
      have hp' := s' _ _ hp
      rcases h with ⟨hw, qe⟩ | ⟨t, rfl, ht, qe⟩ | ⟨t, rfl, ht, q⟩
      · exact ⟨_, rfl, _, _, rfl, hw.same s', _, rfl, iteT ⟨⟨_, rfl⟩, qe H' s'⟩⟩
      · refine ⟨_, rfl, _, _, rfl, .int t, _, rfl, iteF ⟨_, rfl, _, _, rfl, rfl, _, rfl, ?_⟩⟩
        rw [decide_eq_true ht]
        exact iteT ⟨⟨_, rfl⟩, qe H' s'⟩
      · refine ⟨_, rfl, _, _, rfl, .int t, _, rfl, iteF ⟨_, rfl, _, _, rfl, rfl, _, rfl, ?_⟩⟩
        rw [decide_eq_false (by omega)]
        refine iteF ?_
        refine ⟨_, rfl, _, _, rfl, SqT.of hp', rfl, _, _, rfl, _, _, rfl, _, _, rfl, rfl, ?_⟩
        by_cases h1 : t ≤ i
        · refine ⟨_, rfl, _, rfl, _, _, rfl, rfl, _, rfl, ?_⟩
          rw [decide_eq_true h1]
          have e : ledZ i j s.length t = t := by unfold ledZ; rw [if_pos h1]
          have q' := q H' s'
          rw [e] at q'
          exact iteT ⟨_, rfl, q'⟩
        · refine ⟨_, rfl, _, rfl, _, _, rfl, rfl, _, rfl, ?_⟩
          rw [decide_eq_false h1]
          refine iteF ?_
          by_cases h2 : t ≥ j
          · refine ⟨_, rfl, _, rfl, _, _, rfl, rfl, _, rfl, ?_⟩
            rw [decide_eq_true h2]
            have e : ledZ i j s.length t = t + s.length - (j - i) := by unfold ledZ; rw [if_neg h1, if_pos h2]
            have q' := q H' s'
            rw [e] at q'
            exact iteT ⟨_, rfl, _, rfl, _, rfl, by rw [sizeLine_eq]; omega, _, _, rfl, rfl, _, rfl, _, rfl, _, _, rfl, rfl, _, _, rfl, rfl, q'⟩
          · refine ⟨_, rfl, _, rfl, _, _, rfl, rfl, _, rfl, ?_⟩
            rw [decide_eq_false h2]
            have e : ledZ i j s.length t = i := by unfold ledZ; rw [if_neg h1, if_neg h2]
            have q' := q H' s'
            rw [e] at q'
            exact iteF ⟨_, rfl, q'⟩
theorem cut_frX (z : Str) {p : Nat} (h : p ≤ z.length) : (cutS z (some (p : Nat)) none).cps.toList = z.cps.toList.drop p := by
  unfold cutS
  rw [HT.sIx_none, HT.sIx_nat, Nat.min_eq_left h]
  show (List.take _ (List.drop p z.cps.toList)) = _
  refine List.take_of_length_le ?_
  rw [List.length_drop]
  show z.cps.toList.length - p ≤ z.length - p
  exact Nat.le_refl _
def doneL (r : List Nat) (i j : Nat) (s : List Nat) : List Nat := r.take i ++ s ++ r.drop j
def spDoneX : Sp := fun vs H Q E => ∃ (r s : List Nat) (i j : Nat) (p : Addr), vs = [.str (mk r), .ref p] ∧ H p = some (.tup [.int (i : Nat), .int (j : Nat), .str (mk s)]) ∧ i ≤ j ∧ j ≤ r.length ∧ r.length ≤ 4000 ∧ s.length ≤ 4000 ∧ allSig r = true ∧ allSig s = true ∧
  ∀ H', Same H H' → Q (.str (mk (doneL r i j s))) H'
theorem scDone : FnScope ["text", "change", "begin", "end", "put"] ["text", "change"] (defScope sDone) := ⟨rfl, rfl, rfl, by decide +kernel, rfl, by decide +kernel, by decide +kernel⟩
theorem x_done {C CT : Addr} (MNoChange : MkN P w K mg base "NoChange" C) (MNoText : MkN P w K mg base "NoText" CT) (A : FnAt K mg "done" sDone) (R1 : Ready P w K mg base 2 "is_text" ["value"] (spLine K allSig)) (R2 : Ready P w K mg base 3 "_is_change" ["value"] (spChg K)) (m_len : mg "len" = none) :
    ReadyX P w K mg base 4 "done" ["text", "change"] spDoneX := by
  obtain ⟨f1, fd1, g1, k1, b1, G1⟩ := R1
  obtain ⟨f2, fd2, g2, k2, b2, G2⟩ := R2
  refine readyX_of A (fun _ _ _ _ _ _ us hl => match us, hl with | [_, _], _ => rfl) fun f fd F => ?_
  refine F.okX scDone (fun vs H Q E h => ?_) (fun cdv A outer s H vs Q E hr h => ?_)
  · obtain ⟨r, s, i, j, p, rfl, _⟩ := h
    rfl
  · obtain ⟨r, z, i, j, p, rfl, hp, hij, hj, hrl, hzl, hr1, hz1, q⟩ := h
    have sc := scDone
    refine ⟨_, pss_cons (ps_if (pt_not (pt_val (pe_call G1 (hr.mono (by decide)) (by rfl) g1 k1 b1 .nil pass0 (pa_cons (pv 0) pa_nil))))
        (pss_one (ps_raise rfl (takes_of rfl rfl rfl rfl) (pmk_non MNoText (hr.mono (by decide)) (by rfl) (pa_cons pe_str pa_nil))))
        pss_nil)
      (pss_cons (ps_if (PW.pt (pw_or (pt_not (pt_val (pe_call G2 (hr.mono (by decide)) (by rfl) g2 k2 b2 .nil pass0 (pa_cons (pv 1) pa_nil)))) (pw_or1 (pt_cmpR op_gt (pe_ix ix_tup (pv 1) pe_int (fun _ _ => rfl)) (pe_callB call_len_str (by rfl) m_len PySem.boot_len (pa_cons (pv 0) pa_nil)) (nomark _)))))
        (pss_one (ps_raise rfl (takes_of rfl rfl rfl rfl) (pmk_non MNoChange (hr.mono (by decide)) (by rfl) (pa_cons pe_str pa_nil))))
        pss_nil)
      (pss_cons (ps_asg (pv 1) (pg_tup rfl (pgs_cons (pg_name (i := 2) sc.nd rfl (.inl rfl)) (pgs_cons (pg_name (i := 3) sc.nd rfl (.inl rfl)) (pgs_cons (pg_name (i := 4) sc.nd rfl (.inl rfl)) pgs_nil)))))
      (pss_one (ps_ret (pe_op op_add_str (pe_op op_add_str (pe_slice sl_str (pv 0) po_none (po_some (pv 2))) (pv 4)) (pe_slice sl_str (pv 0) (po_some (pv 3)) po_none)))))), ?_⟩
    refine ⟨_, rfl, _, rfl, .inl ⟨_, rfl, by rw [mk_len]; omega, fun H1 s1 => ?_⟩⟩
    rw [mk_codes, hr1]
    refine ⟨_, rfl, iteF ?_⟩
    have hg : ChgV K H1 (.ref p) true := by
      have := ChgV.txt (K := K) (s1 _ _ hp) ⟨by omega, by omega⟩ (by rw [mk_len]; omega)
      rwa [mk_codes, hz1] at this
    refine ⟨_, rfl, _, _, rfl, hg, fun H2 s2 => ⟨_, rfl, iteF ?_⟩⟩
    have hp2 := s2 _ _ (s1 _ _ hp)
    refine ⟨_, rfl, p, _, _, _, rfl, rfl, SqT.of hp2, rfl, ?_⟩
    refine ⟨_, rfl, _, rfl, by rw [mk_len, sizeLine_eq]; omega, _, _, rfl, rfl, _, rfl, ?_⟩
    rw [decide_eq_false (by rw [mk_len]; omega)]
    refine iteF ?_
    refine ⟨_, rfl, _, _, rfl, SqT.of hp2, rfl, _, _, rfl, _, _, rfl, _, _, rfl, rfl, ?_⟩
    have c1 : cutS (mk r) none (some (i : Nat)) = mk (r.take i) := mk_eq (by rw [cut_toX _ (by rw [mk_len]; omega), mk_codes])
    have c2 : cutS (mk r) (some (j : Nat)) none = mk (r.drop j) := mk_eq (by rw [cut_frX _ (by rw [mk_len]; omega), mk_codes])
    have l1 : (mk (r.take i)).length ≤ 4000 := by rw [mk_len, List.length_take]; omega
    have l2 : (mk (r.drop j)).length ≤ 4000 := by rw [mk_len, List.length_drop]; omega
    have e1 : mk (r.take i) ++ mk z = mk (r.take i ++ z) := mk_app _ _
    refine ⟨_, rfl, _, rfl, _, rfl, _, rfl, szX (by omega), ?_⟩
    rw [c1]
    refine ⟨_, rfl, _, _, rfl, rfl, by rw [mk_len z, sizeLine_eq]; omega, ?_⟩
    rw [e1]
    refine ⟨_, rfl, _, rfl, _, rfl, _, rfl, szX (by omega), ?_⟩
    rw [c2]
    refine ⟨_, _, rfl, rfl, by rw [mk_len, mk_len, List.length_append, List.length_take, List.length_drop, sizeLine_eq]; omega, ?_⟩
    rw [mk_app]
    exact q H2 (s1.trans s2)
end
end FL

namespace FL
open PySem PySem.Spec PyProof.Rows L2 LamX
structure Caught77 (K : PySem.W.Frag) (mg : Str → Option Value) (C CP CL : Addr) : Prop where
  gC : mg "NoChange" = some (.ref C)
  gP : mg "NoPlace" = some (.ref CP)
  gL : mg "LetterError" = some (.ref CL)
  teC : PySem.W.exmOne K (.ref C) (.ref CL) = some true
  teP : PySem.W.exmOne K (.ref CP) (.ref CL) = some true
  GC : ExcC K C
  GP : ExcC K CP
  kCC : PySem.W.kitOne K (.ref C) (.ref C) = some true
  kCP : PySem.W.kitOne K (.ref C) (.ref CP) = some false
  kPC : PySem.W.kitOne K (.ref CP) (.ref C) = some false
  kPP : PySem.W.kitOne K (.ref CP) (.ref CP) = some true
  kCV : PySem.W.kitOne K (.ref C) (.type "ValueError") = some true
  kPV : PySem.W.kitOne K (.ref CP) (.type "ValueError") = some true
/-- what the suite's word tells of what a lambda lets out -/
def TW77 (C CP : Addr) : (XK → Hp → VK → Prop) → Hp → VK → Prop := fun tl H Q =>
  tl (fun cls d H' => d = none ∧ ((cls = .ref C ∧ ∀ H'', Same H' H'' → Q (.str ("no change" : Str)) H'') ∨ (cls = .ref CP ∧ ∀ H'', Same H' H'' → Q (.str ("no place" : Str)) H''))) H (fun _ H' => Q (.str ("told" : Str)) H')
/-- what is let out meets as many slots as there are names -/
theorem takes_len {X : Cx} {W : WX} (t : Takes X W) : Takes X (fun c d σ H => σ.length = X.N.length → W c d σ H) := fun u s' x => by
  obtain ⟨a, B, sI, pins, σ, H, cls, d, e, I, nb, up, sky, na, os, ag, w⟩ := x
  exact t u s' ⟨a, B, sI, pins, σ, H, cls, d, e, I, nb, up, sky, na, os, ag, w I.len⟩
theorem set_at1 {σ : L2.St} {v : Option V} (h : σ.length = 3) : (σ.set 1 v)[1]? = some v := by
  rw [List.getElem?_set]
  simp [h]
theorem set_at2 {σ : L2.St} {v u : Option V} (h : σ.length = 3) : ((σ.set 1 u).set 2 v)[2]? = some v := by
  rw [List.getElem?_set]
  simp [h]
theorem pe_as {X : Cx} {e : Expr} (t : TE) (h : PE X e t) : PE X e t := h
theorem scWord77 : FnScope ["_law_ask", "e", "_law_kinds"] ["_law_ask"] (defScope sLawWord) := ⟨rfl, rfl, rfl, by decide +kernel, rfl, by decide +kernel, by decide +kernel⟩
theorem word_gives {X : Cx} {C CP CL : Addr} (T : Caught77 X.K X.mg C CP CL) (mi : X.mg "isinstance" = none) (m_int : X.mg "int" = none) (m_VE : X.mg "ValueError" = none) {g : Addr} {cdg : Value} {q : Str} :
    GivesTo X ["_law_ask", "e", "_law_kinds"] "_law_word" (defScope sLawWord) g cdg (defBody sLawWord) "_law_ask" q (TW77 C CP) := by
  obtain ⟨prog, w, K, mg, base, A, N, s_0, H_0, env, outer, stack, ex, fn, calm, pn0, xe0⟩ := X
  dsimp only at T mi m_int m_VE
  intro f c' s H Q tl act hc h
  dsimp only at act
  have sc := scWord77
  refine ⟨_, pss_cons (ps_try_as (i := 1) (tb := fun W D σ H => ∃ Ech : XK, (∀ cls d σ' H', Ech cls d H' → σ'.length = 3 → W cls d σ' H') ∧ σ[0]? = some (some (.ref f)) ∧ H c' = some (CodeO c' q) ∧ tl Ech H (fun _ H' => D.nx σ H')) (Wout := fun _ _ _ _ => False) rfl rfl sc.nd rfl rfl ⟨rfl, by decide, Or.inl T.gL⟩ L2.takes0
      (fun W pn xe tk _ => ?_)
      (fun a oe cls d pn hz hf => pss_cons (ps_set (i := 2) sc.nd rfl (.inl rfl) (pe_lst (pa_cons (pe_callB (call_isN hz hf) (by rfl) mi (by decide +kernel) (pa_cons (pv 1) (pa_cons (pe_glob (v := .ref C) rfl T.gC rfl) pa_nil)))
          (pa_cons (pe_callB (call_isN hz hf) (by rfl) mi (by decide +kernel) (pa_cons (pv 1) (pa_cons (pe_glob (v := .ref CP) rfl T.gP rfl) pa_nil)))
          (pa_cons (pe_not (pe_callB (call_isN hz hf) (by rfl) mi (by decide +kernel) (pa_cons (pv 1) (pa_cons (pe_bltn (v := .ty "ValueError") (by rfl) m_VE (by decide +kernel) rfl) pa_nil)))) pa_nil)))))
        (pss_one (ps_ret (pe_ix (r := rIxL K) (by exact ix_list) (pe_lst (pa_cons pe_str (pa_cons pe_str (pa_cons pe_str pa_nil)))) (pe_op op_mul (pe_op op_add pe_int (pe_as (tBM K "list" (rIndex K) (tVar 2) (tCons (tC (.bl true)) tNil)) (by exact (pe_bm PySem.F.plainAttrs_list PySem.F.slot_list_index PySem.F.type_list_index mt_index (pv 2) (pa_cons pe_bl pa_nil)))))
          (pe_callTy call_int1 (by rfl) m_int (by decide +kernel) (pa_cons (pe_cmpR op_eq (pe_as (tBM K "list" (rCntF K) (tVar 2) (tCons (tC (.bl true)) tNil)) (by exact (pe_bm PySem.F.plainAttrs_list PySem.F.slot_list_count PySem.F.type_list_count mt_lcountF (pv 2) (pa_cons pe_bl pa_nil)))) pe_int (nomark _)) pa_nil))) (fun _ _ => rfl))))))
    (pss_one (ps_ret pe_str)), ?_⟩
  · refine ⟨fun pins s' σ H' D I h' => ?_⟩
    obtain ⟨Ech, hW, h1, h2, h3⟩ := h'
    have hp := fun p1 p2 => act _ pn xe Ech p1 p2 (takes_len tk) hW
    exact (pss_one (ps_expr (hp _ _))).run pins s' σ H' D I ⟨h1, h2, h3⟩
  · refine ⟨fun cls d H' => d = none ∧ ((cls = .ref C ∧ ∀ H'', Same H' H'' → Q (.str ("no change" : Str)) H'') ∨ (cls = .ref CP ∧ ∀ H'', Same H' H'' → Q (.str ("no place" : Str)) H'')), fun cls d σ' H' hx hl => ?_, rfl, hc, h⟩
    obtain ⟨rfl, hx⟩ := hx
    rcases hx with ⟨rfl, hx⟩ | ⟨rfl, hx⟩
    · refine ⟨true, T.teC, fun _ ea na => ?_, fun z => by cases z⟩
      refine ⟨_, set_at1 hl, _, rfl, T.GC, .inl ⟨rfl, .ref C, .ref C, _, rfl, fun u hu => hu, T.kCC, ?_⟩⟩
      refine ⟨_, set_at1 hl, _, rfl, T.GC, .inl ⟨rfl, .ref CP, .ref CP, _, rfl, fun u hu => hu, T.kCP, ?_⟩⟩
      refine ⟨_, set_at1 hl, _, rfl, T.GC, .inl ⟨rfl, .ty "ValueError", .type "ValueError", _, rfl, fun u hu => hu, T.kCV, ?_⟩⟩
      refine ⟨_, rfl, (by show 3 ≤ sizeLine; decide), fun p np => ⟨(by show 3 ≤ sizeLine; decide), fun p2 n2 => ?_⟩⟩
      have hp2 := kn (x := .lst [.str ("odd" : Str), .str ("no change" : Str), .str ("no place" : Str)]) (upd_same (H := H') (a := p) (o := .lst [.bl true, .bl false, .bl false])) n2
      have s2 := (same_new (o := .lst [.bl true, .bl false, .bl false]) np).trans (same_new (o := .lst [.str ("odd" : Str), .str ("no change" : Str), .str ("no place" : Str)]) n2)
      refine ⟨_, set_at2 hl, .inl ⟨rfl, _, SqL.of hp2⟩, p, _, .bl true, 0, .bl true, rfl, rfl, SqL.of hp2, rfl, rfl, rfl, rfl, fun m z' hm _ => absurd hm (Nat.not_lt_zero m), ?_⟩
      refine ⟨_, _, rfl, rfl, ?_⟩
      refine ⟨_, set_at2 hl, .inl ⟨rfl, _, SqL.of hp2⟩, p, _, .bl true, rfl, rfl, SqL.of hp2, rfl, rfl, ?_⟩
      refine ⟨rfl, .inr ⟨true, rfl, ?_⟩⟩
      refine ⟨_, _, rfl, rfl, .inl (by decide), ?_⟩
      exact ⟨p2, _, _, .str ("no change" : Str), rfl, rfl, SqL.of upd_same, rfl, hx _ s2⟩
    · refine ⟨true, T.teP, fun _ ea na => ?_, fun z => by cases z⟩
      refine ⟨_, set_at1 hl, _, rfl, T.GP, .inl ⟨rfl, .ref C, .ref C, _, rfl, fun u hu => hu, T.kPC, ?_⟩⟩
      refine ⟨_, set_at1 hl, _, rfl, T.GP, .inl ⟨rfl, .ref CP, .ref CP, _, rfl, fun u hu => hu, T.kPP, ?_⟩⟩
      refine ⟨_, set_at1 hl, _, rfl, T.GP, .inl ⟨rfl, .ty "ValueError", .type "ValueError", _, rfl, fun u hu => hu, T.kPV, ?_⟩⟩
      refine ⟨_, rfl, (by show 3 ≤ sizeLine; decide), fun p np => ⟨(by show 3 ≤ sizeLine; decide), fun p2 n2 => ?_⟩⟩
      have hp2 := kn (x := .lst [.str ("odd" : Str), .str ("no change" : Str), .str ("no place" : Str)]) (upd_same (H := H') (a := p) (o := .lst [.bl false, .bl true, .bl false])) n2
      have s2 := (same_new (o := .lst [.bl false, .bl true, .bl false]) np).trans (same_new (o := .lst [.str ("odd" : Str), .str ("no change" : Str), .str ("no place" : Str)]) n2)
      refine ⟨_, set_at2 hl, .inl ⟨rfl, _, SqL.of hp2⟩, p, _, .bl true, 1, .bl true, rfl, rfl, SqL.of hp2, rfl, rfl, rfl, rfl, fun m z' hm hz => by
        obtain rfl : m = 0 := by omega
        cases hz
        rfl, ?_⟩
      refine ⟨_, _, rfl, rfl, ?_⟩
      refine ⟨_, set_at2 hl, .inl ⟨rfl, _, SqL.of hp2⟩, p, _, .bl true, rfl, rfl, SqL.of hp2, rfl, rfl, ?_⟩
      refine ⟨rfl, .inr ⟨true, rfl, ?_⟩⟩
      refine ⟨_, _, rfl, rfl, .inl (by decide), ?_⟩
      exact ⟨p2, _, _, .str ("no place" : Str), rfl, rfl, SqL.of upd_same, rfl, hx _ s2⟩
end FL

namespace FL
open PySem PySem.Spec PyProof.Rows L2 LamX
/-- what is neither list nor table stays; lists stay lists -/
structure ExtL (H H' : Hp) : Prop where
  oth : ∀ b o, H b = some o → (∀ ps, o ≠ .tbl ps) → (∀ xs, o ≠ .lst xs) → H' b = some o
  lst : ∀ b xs, H b = some (.lst xs) → ∃ ys, H' b = some (.lst ys)
theorem TyOf.extL {K : PySem.W.Frag} {H H' : Hp} {v : V} {t : Value} (s : ExtL H H') (h : TyOf K H v t) : TyOf K H' v t := by
  cases h with
  | non => exact .non
  | bl x => exact .bl x
  | int i => exact .int i
  | str x => exact .str x
  | flt x => exact .flt x
  | lst e => exact .lst (s.lst _ _ e).choose_spec
  | frz e => exact .frz (s.oth _ _ e (fun _ z => by cases z) (fun _ z => by cases z))
  | tup e => exact .tup (s.oth _ _ e (fun _ z => by cases z) (fun _ z => by cases z))
  | dK e => exact .dK (s.oth _ _ e (fun _ z => by cases z) (fun _ z => by cases z))
  | dT e => exact .dT (s.oth _ _ e (fun _ z => by cases z) (fun _ z => by cases z))
  | ins e cl ha hn htk hm => exact .ins (s.oth _ _ e (fun _ z => by cases z) (fun _ z => by cases z)) cl ha hn htk hm
theorem TyX.extL {K : PySem.W.Frag} {H H' : Hp} {v : V} {t : Value} (s : ExtL H H') (h : TyX K H v t) : TyX K H' v t := by
  cases h with
  | base h => exact .base (TyOf.extL s h)
  | byt b => exact .byt b
  | set e => exact .set (s.oth _ _ e (fun _ z => by cases z) (fun _ z => by cases z))
  | kList e c => exact .kList e c
  | kTuple e c => exact .kTuple e c
  | kDict e c => exact .kDict e c
  | fTuple e => exact .fTuple (s.oth _ _ e (fun _ z => by cases z) (fun _ z => by cases z))
  | fDict e => exact .fDict (s.oth _ _ e (fun _ z => by cases z) (fun _ z => by cases z))
theorem Whole.extL {K : PySem.W.Frag} {H H' : Hp} {v : V} {o : Option Int} (s : ExtL H H') (h : Whole K H v o) : Whole K H' v o := by
  cases h with
  | int n => exact .int n
  | bl b => exact .bl b
  | oth h k => exact .oth (TyX.extL s h) k
theorem ChgV.extL {K : PySem.W.Frag} {H H' : Hp} {v : V} {b : Bool} (s : ExtL H H') (h : ChgV K H v b) : ChgV K H' v b := by
  have s' : ∀ {p : Addr} {xs : List V}, H p = some (.tup xs) → H' p = some (.tup xs) := fun e => s.oth _ _ e (fun _ z => by cases z) (fun _ z => by cases z)
  cases h with
  | oth h k => exact .oth (TyX.extL s h) k
  | len h n => exact .len (s' h) n
  | fst h w => exact .fst (s' h) (w.extL s)
  | snd h w u => exact .snd (s' h) (w.extL s) (u.extL s)
  | ord h n => exact .ord (s' h) n
  | txt h n l => exact .txt (s' h) n l
  | put h n k f => exact .put (s' h) n (TyX.extL s k) f
theorem Fun.okC {P : Program} {w : World} {K : PySem.W.Frag} {mg : Str → Option Value} {base : Heap} {x qual : Str} {st : Stmt} {f c : Addr} {fd : FuncData} {N ps : List Str} {k : Nat} {sp : Sp} (F : Fun K x qual st f fd) (hc : fd.code = .ref c) (S : FnScope N ps (defScope st))
    (len : ∀ vs H Q E, sp vs H Q E → vs.length = ps.length)
    (hbody : ∀ (A : Around) (outer : List Env) (s : Shared) (H : Hp) (vs : List V) (Q : VK) (E : XK), Room k (A.deeper (envOfC qual (defScope st) s.heap.objs.size f (.ref c))) → sp vs H Q E →
      ∃ t, PSs (cxOf CX0 P w K mg base N qual (defScope st) f (.ref c) A outer s H E).nox (defBody st) t ∧ t { nx := fun _ H' => Q .non H', rt := Q } (start N vs) H) : FnOk P w K mg base CX0 (k + 1) f fd ps sp := by
  obtain ⟨oc, od, kV, doc, pm, an, cdv, ct, osl, rfl, lk, hcd⟩ := F.ex
  obtain rfl : cdv = .ref c := hc
  refine fn_of lk hcd S len fun A outer s H vs Q E hr hsp => ?_
  obtain ⟨t, h, q⟩ := hbody A outer s H vs Q E hr hsp
  exact ⟨t, h.nox, q⟩
/-- all but the source and the tables stays; the tables tell what they should -/
structure DrawnT (T : List (Addr × Str)) (a : Addr) (H H' : Hp) : Prop where
  old : ∀ b o, b ≠ a → H b = some o → (∀ ps, o ≠ .tbl ps) → H' b = some o
  src : Src H' a
  tab : Tabs T H'
theorem src_same {H H' : Hp} {a : Addr} (h : Src H a) (s : Same H H') : Src H' a := let ⟨p, q, r, e⟩ := h; ⟨p, q, r, s _ _ e⟩
theorem tabs_same {T : List (Addr × Str)} {H H' : Hp} (t : Tabs T H) (s : Same H H') : Tabs T H' := t.ext s
theorem tabs_drawn {T : List (Addr × Str)} {a : Addr} {H H' : Hp} (t : Tabs T H) (hs : Src H a) (d : Drawn a H H') : Tabs T H' := fun p hp => by
  obtain ⟨ps, h1, h2, h3⟩ := t p hp
  obtain ⟨x, y, z, ha⟩ := hs
  refine ⟨ps, d.old _ _ (fun e => by rw [e, ha] at h1; cases h1) h1, h2, fun pos cv hc => ?_⟩
  obtain ⟨c, e1, e2⟩ := h3 pos cv hc
  refine ⟨c, e1, d.old _ _ (fun e => ?_) e2⟩
  rw [e, ha] at e2
  have e3 := Option.some.inj e2
  unfold CodeO at e3
  cases e3
theorem DrawnT.refl {T : List (Addr × Str)} {a : Addr} {H : Hp} (h : Src H a) (t : Tabs T H) : DrawnT T a H H := ⟨fun _ _ _ h _ => h, h, t⟩
theorem DrawnT.same {T : List (Addr × Str)} {a : Addr} {H H1 H2 : Hp} (x : DrawnT T a H H1) (s : Same H1 H2) : DrawnT T a H H2 :=
  ⟨fun b o n h e => s b o (x.old b o n h e), let ⟨p, q, r, e⟩ := x.src; ⟨p, q, r, s _ _ e⟩, tabs_same x.tab s⟩
theorem DrawnT.drawn {T : List (Addr × Str)} {a : Addr} {H H1 H2 : Hp} (x : DrawnT T a H H1) (d : Drawn a H1 H2) : DrawnT T a H H2 :=
  ⟨fun b o n h e => d.old b o n (x.old b o n h e), d.src, tabs_drawn x.tab x.src d⟩
theorem DrawnT.lam {T : List (Addr × Str)} {a : Addr} {H H1 H2 : Hp} (x : DrawnT T a H H1) (s : ExtN H1 H2) (t : Tabs T H2) : DrawnT T a H H2 :=
  ⟨fun b o n h e => s b o (x.old b o n h e) e, let ⟨p, q, r, e⟩ := x.src; ⟨p, q, r, s _ _ e (fun _ z => by cases z)⟩, t⟩
theorem DrawnT.ext {T : List (Addr × Str)} {a : Addr} {H H1 : Hp} (x : DrawnT T a H H1) (hs : Src H a) : ExtL H H1 := by
  obtain ⟨p, q, r, e⟩ := hs
  refine ⟨fun b o hb n1 n2 => x.old b o (fun z => ?_) hb n1, fun b xs hb => ?_⟩
  · rw [z, e] at hb
    exact n2 _ (Option.some.inj hb).symm
  · by_cases z : b = a
    · obtain ⟨p', q', r', e'⟩ := x.src
      exact ⟨_, by rw [z]; exact e'⟩
    · exact ⟨xs, x.old b _ z hb (fun _ z => by cases z)⟩
section
variable {P : Program} {w : World} {K : PySem.W.Frag} {mg : Str → Option Value} {base : Heap}
def TLam (PT : Addr) : List (Addr × Str) := [(PT, "_law_refused_right.<locals>.<lambda>")]
def spRef77 (PT : Addr) : Sp := fun vs H Q _ => ∃ (a : Addr) (i j : Nat), vs = [.ref a, .int (i : Nat), .int (j : Nat)] ∧ i ≤ j ∧ j ≤ 1000 ∧ Src H a ∧ Tabs (TLam PT) H ∧ ∀ H', DrawnT (TLam PT) a H H' → Q (.bl true) H'
theorem scLawRefusedRight : FnScope ["_law_source_here", "_law_begin", "_law_end", "_law_some", "_law_odd", "_law_spot"] ["_law_source_here", "_law_begin", "_law_end"] (defScope sLawRefusedRight) := ⟨rfl, rfl, rfl, by decide +kernel, rfl, by decide +kernel, by decide +kernel⟩
theorem r_refused_right {C CP CL PT c : Addr} (TC : Caught77 K mg C CP CL) {f : Addr} {fd : FuncData} (F : Fun K "_law_refused_right" "_law_refused_right" sLawRefusedRight f fd) (hc : fd.code = .ref c) (TB : TabB base mg c PT)
    (AW : FnAt K mg "_law_word" sLawWord) (RL : ReadyKX P w K mg base 4 "led" ["change", "place"] (spLedX K C CP) (fun fd => KBr K fd "change" "place")) (RN : Ready P w K mg base 2 "_law_next" ["_law_source_here", "_law_many"] spNextM)
    (m_isinstance : mg "isinstance" = none) (m_int : mg "int" = none) (m_VE : mg "ValueError" = none) :
    FnOk P w K mg base CX0 8 f fd ["_law_source_here", "_law_begin", "_law_end"] (spRef77 PT) := by
  obtain ⟨f1, fd1, g1, k1, b1, kb1, G1⟩ := RL
  obtain ⟨fN, fdN, gN, kN, bN, GN⟩ := RN
  obtain ⟨fW, fdW, FW, gW⟩ := AW.ex
  have kW := FW.kp
  obtain ⟨ocW, odW, kVW, docW, pmW, anW, cdvW, ctW, oslW, rfl, lkW, cdW⟩ := FW.ex
  have bW := FW.binds (ps := ["_law_ask"]) (fun _ _ _ _ _ _ us hl => match us, hl with | [_], _ => rfl)
  refine Fun.okC F hc scLawRefusedRight (fun vs H Q E h => ?_) (fun A outer s H vs Q E hr h => ?_)
  · obtain ⟨a, i, j, rfl, _⟩ := h
    rfl
  · obtain ⟨a, i, j, rfl, hij, hj, hS, hT, q⟩ := h
    have sc := scLawRefusedRight
    refine ⟨_, pss_cons (ps_set (i := 3) sc.nd rfl (.inl rfl) (pe_lst (pa_cons pe_non (pa_cons (pe_lst (pa_cons (pv 1) (pa_cons (pv 2) (pa_cons pe_str pa_nil)))) (pa_cons (pe_tup (pa_cons (pv 1) (pa_cons (pv 2) pa_nil))) (pa_cons (pe_tup (pa_cons (pe_op op_sub pe_int pe_int) (pa_cons (pv 2) (pa_cons pe_str pa_nil)))) (pa_cons (pe_tup (pa_cons (pe_op op_add (pv 2) pe_int) (pa_cons (pv 2) (pa_cons pe_str pa_nil)))) (pa_cons (pe_tup (pa_cons pe_bl (pa_cons pe_int (pa_cons pe_str pa_nil)))) (pa_cons (pe_tup (pa_cons pe_int (pa_cons pe_int (pa_cons pe_non pa_nil)))) pa_nil)))))))))
      (pss_cons (ps_set (i := 4) sc.nd rfl (.inr rfl) (pe_ix ix_list (pe_op op_cat (pv 3) (pe_lst (pa_cons (pe_tup (pa_cons pe_str (pa_cons pe_int (pa_cons pe_str pa_nil)))) (pa_cons pe_str (pa_cons (pe_tup (pa_cons (pv 1) (pa_cons (pv 2) (pa_cons pe_str (pa_cons pe_int pa_nil))))) pa_nil))))) (pe_call GN (hr.mono (by decide)) (by rfl) gN kN bN .nil pass0 (pa_cons (pv 0) (pa_cons pe_int pa_nil))) (fun _ _ => rfl)))
      (pss_cons (ps_set (i := 5) sc.nd rfl (.inr rfl) (pe_ix ix_list (pe_lst (pa_cons (pe_op op_sub pe_int pe_int) (pa_cons pe_non (pa_cons pe_bl (pa_cons pe_str (pa_cons (pe_lst (pa_cons pe_int pa_nil)) (pa_cons (pe_tup (pa_cons pe_int pa_nil)) pa_nil))))))) (pe_call GN (hr.mono (by decide)) (by rfl) gN kN bN .nil pass0 (pa_cons (pv 0) (pa_cons pe_int pa_nil))) (fun _ _ => rfl)))
      (pss_cons (ps_if (pt_cmpR op_ne (pe_lamcall (k := 4) (T := [(PT, "_law_refused_right.<locals>.<lambda>")]) (TT := TW77 C CP) (t := fun E => tCall (spLedX K C CP) [] E (tCons (tVar 4) (tCons (tVar 5) tNil))) (by rfl) gW kW lkW cdW bW scWord77 rfl (.inl rfl) (word_gives TC m_isinstance m_int m_VE) TB rfl (List.mem_singleton.mpr rfl) (fun p hp hq => by rw [List.mem_singleton.mp hp]; rfl) (hr.mono (by decide)) (by exact lamS_by (sc := defScope sLawRefusedRight) (by decide +kernel)) rfl (fun _ _ _ _ _ => rfl) (fun A2 outer2 s2 H2 E2 f2 c2 hr2 => by exact (pe_call (E := E2) G1 (hr2.mono (by decide)) (by rfl) g1 k1 b1 .nil (passes_call (takes_of rfl rfl rfl rfl) (fun _ _ _ _ h => h)) (pa_cons (pv 4) (pa_cons (pv 5) pa_nil))))) pe_str (nomark _))
        (pss_one (ps_ret pe_bl))
        pss_nil)
      (pss_cons (ps_if (pt_cmpR op_ne (pe_lamcall (k := 4) (T := [(PT, "_law_refused_right.<locals>.<lambda>")]) (TT := TW77 C CP) (t := fun E => tCall (spLedX K C CP) [] E (tCons (tVar 4) (tCons (tVar 1) tNil))) (by rfl) gW kW lkW cdW bW scWord77 rfl (.inl rfl) (word_gives TC m_isinstance m_int m_VE) TB rfl (List.mem_singleton.mpr rfl) (fun p hp hq => by rw [List.mem_singleton.mp hp]; rfl) (hr.mono (by decide)) (by exact lamS_by (sc := defScope sLawRefusedRight) (by decide +kernel)) rfl (fun _ _ _ _ _ => rfl) (fun A2 outer2 s2 H2 E2 f2 c2 hr2 => by exact (pe_call (E := E2) G1 (hr2.mono (by decide)) (by rfl) g1 k1 b1 .nil (passes_call (takes_of rfl rfl rfl rfl) (fun _ _ _ _ h => h)) (pa_cons (pv 4) (pa_cons (pv 1) pa_nil))))) pe_str (nomark _))
        (pss_one (ps_ret pe_bl))
        pss_nil)
      (pss_one (ps_ret (pe_cmpR op_eq (pe_lamcall (k := 4) (T := [(PT, "_law_refused_right.<locals>.<lambda>")]) (TT := TW77 C CP) (t := fun E => tCall (spLedX K C CP) [] E (tCons (tTup (tCons (tVar 1) (tCons (tVar 2) (tCons (tC (.str ("x" : Str))) tNil)))) (tCons (tVar 5) tNil))) (by rfl) gW kW lkW cdW bW scWord77 rfl (.inl rfl) (word_gives TC m_isinstance m_int m_VE) TB rfl (List.mem_singleton.mpr rfl) (fun p hp hq => by rw [List.mem_singleton.mp hp]; rfl) (hr.mono (by decide)) (by exact lamS_by (sc := defScope sLawRefusedRight) (by decide +kernel)) rfl (fun _ _ _ _ _ => rfl) (fun A2 outer2 s2 H2 E2 f2 c2 hr2 => by exact (pe_call (E := E2) G1 (hr2.mono (by decide)) (by rfl) g1 k1 b1 .nil (passes_call (takes_of rfl rfl rfl rfl) (fun _ _ _ _ h => h)) (pa_cons (pe_tup (pa_cons (pv 1) (pa_cons (pv 2) (pa_cons pe_str pa_nil)))) (pa_cons (pv 5) pa_nil))))) pe_str (nomark _)))))))), ?_⟩
    refine ⟨_, rfl, _, rfl, (by show 3 ≤ sizeLine; decide), fun p1 n0 => ?_⟩
    have z0 := same_new (o := .lst [.int (i : Nat), .int (j : Nat), .str ("x" : Str)]) n0
    refine ⟨_, rfl, _, rfl, (by show 2 ≤ sizeLine; decide), fun p2 n1 => ?_⟩
    have z1 := same_new (o := .tup [.int (i : Nat), .int (j : Nat)]) n1
    refine ⟨_, _, rfl, rfl, _, rfl, (by show 3 ≤ sizeLine; decide), fun p3 n2 => ?_⟩
    have z2 := same_new (o := .tup [.int (0 - 1), .int (j : Nat), .str ("" : Str)]) n2
    refine ⟨_, rfl, _, _, rfl, rfl, _, rfl, (by show 3 ≤ sizeLine; decide), fun p4 n3 => ?_⟩
    have z3 := same_new (o := .tup [.int ((j : Nat) + 1), .int (j : Nat), .str ("" : Str)]) n3
    refine ⟨(by show 3 ≤ sizeLine; decide), fun p5 n4 => ?_⟩
    have z4 := same_new (o := .tup [.bl true, .int 1, .str ("" : Str)]) n4
    refine ⟨(by show 3 ≤ sizeLine; decide), fun p6 n5 => ?_⟩
    have z5 := same_new (o := .tup [.int 0, .int 0, .non]) n5
    refine ⟨(by show 7 ≤ sizeLine; decide), fun L1 n6 => ?_⟩
    have z6 := same_new (o := .lst [.non, .ref p1, .ref p2, .ref p3, .ref p4, .ref p5, .ref p6]) n6
    refine ⟨_, rfl, (by show 3 ≤ sizeLine; decide), fun p7 n7 => ?_⟩
    have z7 := same_new (o := .tup [.str ("0" : Str), .int 0, .str ("" : Str)]) n7
    refine ⟨_, rfl, _, rfl, (by show 4 ≤ sizeLine; decide), fun p8 n8 => ?_⟩
    have z8 := same_new (o := .tup [.int (i : Nat), .int (j : Nat), .str ("" : Str), .int 0]) n8
    refine ⟨(by show 3 ≤ sizeLine; decide), fun L2 n9 => ?_⟩
    have z9 := same_new (o := .lst [.ref p7, .str ("change" : Str), .ref p8]) n9
    have hL1 := (z7.trans (z8.trans z9)) L1 _ upd_same
    refine ⟨L1, L2, _, _, rfl, rfl, hL1, upd_same, (by show 10 ≤ sizeLine; decide), fun L3 n10 => ?_⟩
    have z10 := same_new (o := .lst ([V.non, .ref p1, .ref p2, .ref p3, .ref p4, .ref p5, .ref p6] ++ [V.ref p7, .str ("change" : Str), .ref p8])) n10
    have sA := z0 |>.trans z1 |>.trans z2 |>.trans z3 |>.trans z4 |>.trans z5 |>.trans z6 |>.trans z7 |>.trans z8 |>.trans z9 |>.trans z10
    have hp1 := (z1.trans (z2.trans (z3.trans (z4.trans (z5.trans (z6.trans (z7.trans (z8.trans (z9.trans z10))))))))) p1 _ (upd_same (o := .lst [.int (i : Nat), .int (j : Nat), .str ("x" : Str)]))
    have hp2 := (z2.trans (z3.trans (z4.trans (z5.trans (z6.trans (z7.trans (z8.trans (z9.trans z10)))))))) p2 _ (upd_same (o := .tup [.int (i : Nat), .int (j : Nat)]))
    have hp3 := (z3.trans (z4.trans (z5.trans (z6.trans (z7.trans (z8.trans (z9.trans z10))))))) p3 _ (upd_same (o := .tup [.int (0 - 1), .int (j : Nat), .str ("" : Str)]))
    have hp4 := (z4.trans (z5.trans (z6.trans (z7.trans (z8.trans (z9.trans z10)))))) p4 _ (upd_same (o := .tup [.int ((j : Nat) + 1), .int (j : Nat), .str ("" : Str)]))
    have hp5 := (z5.trans (z6.trans (z7.trans (z8.trans (z9.trans z10))))) p5 _ (upd_same (o := .tup [.bl true, .int 1, .str ("" : Str)]))
    have hp6 := (z6.trans (z7.trans (z8.trans (z9.trans z10)))) p6 _ (upd_same (o := .tup [.int 0, .int 0, .non]))
    have hp7 := (z8.trans (z9.trans z10)) p7 _ (upd_same (o := .tup [.str ("0" : Str), .int 0, .str ("" : Str)]))
    have hp8 := (z9.trans z10) p8 _ (upd_same (o := .tup [.int (i : Nat), .int (j : Nat), .str ("" : Str), .int 0]))
    have hxs : ∀ v ∈ ([V.non, .ref p1, .ref p2, .ref p3, .ref p4, .ref p5, .ref p6] ++ [V.ref p7, .str ("change" : Str), .ref p8]), ChgV K _ v false := fun v hv => by
      simp only [List.cons_append, List.nil_append, List.mem_cons, List.not_mem_nil, or_false] at hv
      rcases hv with rfl | rfl | rfl | rfl | rfl | rfl | rfl | rfl | rfl | rfl
      · exact .oth (.base .non) (kit_ty (by decide +kernel))
      · exact .oth (.base (.lst hp1)) (kit_ty (by decide +kernel))
      · exact .len hp2 (by simp)
      · exact .ord hp3 (by omega)
      · exact .ord hp4 (by omega)
      · exact .fst hp5 (.bl true)
      · exact .put hp6 (by decide) (.base .non) (kit_ty (by decide +kernel))
      · exact .fst hp7 (.oth (.base (.str _)) (kit_ty (by decide +kernel)))
      · exact .oth (.base (.str _)) (kit_ty (by decide +kernel))
      · exact .len hp8 (by simp)
    have hS3 := src_same hS sA
    have dt0 := DrawnT.refl hS3 (tabs_same hT sA)
    refine ⟨_, rfl, a, 10, rfl, by decide, by decide, hS3, fun r H4 hr4 d4 => ?_⟩
    have hr4' : r < ([V.non, .ref p1, .ref p2, .ref p3, .ref p4, .ref p5, .ref p6] ++ [V.ref p7, .str ("change" : Str), .ref p8]).length := hr4
    have dt1 := dt0.drawn d4
    refine ⟨L3, _, _, _, rfl, rfl, SqL.of (dt1.old _ _ ((src_same hS (z0 |>.trans z1 |>.trans z2 |>.trans z3 |>.trans z4 |>.trans z5 |>.trans z6 |>.trans z7 |>.trans z8 |>.trans z9)).neM n10) upd_same (fun _ z => by cases z)), atI_nat (List.getElem?_eq_getElem hr4'), ?_⟩
    have hv := hxs _ (List.getElem_mem hr4')
    generalize ([V.non, .ref p1, .ref p2, .ref p3, .ref p4, .ref p5, .ref p6] ++ [V.ref p7, .str ("change" : Str), .ref p8])[r]'hr4' = v at hv
    clear hxs
    refine ⟨_, _, rfl, rfl, (by show 1 ≤ sizeLine; decide), fun q1 m1 => ⟨(by show 1 ≤ sizeLine; decide), fun q2 m2 => ⟨(by show 6 ≤ sizeLine; decide), fun q3 m3 => ?_⟩⟩⟩
    have y1 := same_new (o := .lst [.int 0]) m1
    have y2 := same_new (o := .tup [.int 0]) m2
    have y3 := same_new (o := .lst [.int (0 - 1), .non, .bl true, .str ("0" : Str), .ref q1, .ref q2]) m3
    have dt2 := ((dt1.same y1).same y2).same y3
    have hq1 := (y2.trans y3) q1 _ (upd_same (o := .lst [.int 0]))
    have hq2 := y3 q2 _ (upd_same (o := .tup [.int 0]))
    have hus : ∀ u ∈ ([.int (0 - 1), .non, .bl true, .str ("0" : Str), .ref q1, .ref q2] : List V), (∃ t : Int, u = .int t ∧ t < 0) ∨ Whole K _ u none := fun u hu => by
      simp only [List.mem_cons, List.not_mem_nil, or_false] at hu
      rcases hu with rfl | rfl | rfl | rfl | rfl | rfl
      · exact .inl ⟨_, rfl, by decide⟩
      · exact .inr (.oth (.base .non) (kit_ty (by decide +kernel)))
      · exact .inr (.bl true)
      · exact .inr (.oth (.base (.str _)) (kit_ty (by decide +kernel)))
      · exact .inr (.oth (.base (.lst hq1)) (kit_ty (by decide +kernel)))
      · exact .inr (.oth (.base (.tup hq2)) (kit_ty (by decide +kernel)))
    refine ⟨_, rfl, a, 6, rfl, by decide, by decide, dt2.src, fun r2 H5 hr5 d5 => ?_⟩
    have hr5' : r2 < ([.int (0 - 1), .non, .bl true, .str ("0" : Str), .ref q1, .ref q2] : List V).length := hr5
    have dt3 := dt2.drawn d5
    refine ⟨q3, _, _, _, rfl, rfl, SqL.of (d5.old _ _ (((dt1.same y1).same y2).src.neM m3) upd_same), atI_nat (List.getElem?_eq_getElem hr5'), ?_⟩
    have hu := hus _ (List.getElem_mem hr5')
    generalize ([.int (0 - 1), .non, .bl true, .str ("0" : Str), .ref q1, .ref q2] : List V)[r2]'hr5' = u at hu
    clear hus
    refine ⟨dt3.tab, fun H6 e6 t6 => ?_⟩
    have dt4 := dt3.lam e6 t6
    have hv4 := hv.extL (dt4.ext hS3)
    refine ⟨_, rfl, _, rfl, v, u, rfl, .inl ⟨hv4, fun H7 s7 => ⟨rfl, .inl ⟨rfl, fun H8 s8 => ?_⟩⟩⟩⟩
    refine ⟨rfl, _, rfl, iteF ?_⟩
    have dt5 := (dt4.same s7).same s8
    refine ⟨dt5.tab, fun H9 e9 t9 => ?_⟩
    have dt6 := dt5.lam e9 t9
    refine ⟨_, rfl, _, rfl, v, _, rfl, .inl ⟨hv.extL (dt6.ext hS3), fun H10 s10 => ⟨rfl, .inl ⟨rfl, fun H11 s11 => ?_⟩⟩⟩⟩
    refine ⟨rfl, _, rfl, iteF ?_⟩
    have dt7 := (dt6.same s10).same s11
    refine ⟨dt7.tab, fun H12 e12 t12 => ?_⟩
    have dt8 := dt7.lam e12 t12
    refine ⟨_, rfl, _, rfl, (by show 3 ≤ sizeLine; decide), fun q4 m4 => ?_⟩
    have y4 := same_new (o := .tup [.int (i : Nat), .int (j : Nat), .str ("x" : Str)]) m4
    have dt9 := dt8.same y4
    have dtB := (((((((((DrawnT.refl dt2.src dt2.tab).drawn d5).lam e6 t6).same s7).same s8).lam e9 t9).same s10).same s11).lam e12 t12).same y4
    refine ⟨_, rfl, _, u, rfl, .inr ⟨q4, i, j, ("x" : Str), rfl, upd_same, by omega, by omega, by decide +kernel, by decide +kernel, ?_⟩⟩
    rcases hu with ⟨t, rfl, ht⟩ | hw
    · refine .inr (.inl ⟨t, rfl, ht, fun H13 s13 => ⟨rfl, .inr ⟨rfl, fun H14 s14 => ?_⟩⟩⟩)
      exact ⟨rfl, q _ ((dt9.same s13).same s14 |> fun d => ⟨fun b o n h e => d.old b o n (sA _ _ h) e, d.src, d.tab⟩)⟩
    · refine .inl ⟨hw.extL (dtB.ext dt2.src), fun H13 s13 => ⟨rfl, .inr ⟨rfl, fun H14 s14 => ?_⟩⟩⟩
      exact ⟨rfl, q _ ((dt9.same s13).same s14 |> fun d => ⟨fun b o n h e => d.old b o n (sA _ _ h) e, d.src, d.tab⟩)⟩
end
end FL

namespace FL
open PySem PySem.Spec PyProof.Rows L2 LamX
theorem seq_extN {K : PySem.W.Frag} {H H' : Hp} {a : Addr} {xs : List V} (e : ExtN H H') (h : SqL K H a xs) : SqL K H' a xs := by
  rcases h with (h | ⟨o, h⟩) | h
  · exact .inl (.inl (e _ _ h (fun _ z => by cases z)))
  · exact .inl (.inr ⟨o, e _ _ h (fun _ z => by cases z)⟩)
  · exact .inr h
def SigA : Str := "abcdefghijklmnopqrstuvwxyz \n"
theorem sigA_len : SigA.length = 28 := by decide +kernel
theorem sigA_sig : ∀ c ∈ SigA.cps.toList, isSig c = true := by decide +kernel
section
variable {P : Program} {w : World} {K : PySem.W.Frag} {mg : Str → Option Value} {base : Heap}
def spDue77 : Sp := fun vs H Q _ => ∃ (i j t : Int) (s : Str), vs = [.int i, .int j, .str s, .int t] ∧ s.length ≤ 10000 ∧ Q (.int (ledZ i j s.length t)) H
theorem scDue77 : FnScope ["_law_begin", "_law_end", "_law_more", "_law_spot"] ["_law_begin", "_law_end", "_law_more", "_law_spot"] (defScope sDue) := ⟨rfl, rfl, rfl, by decide +kernel, rfl, by decide +kernel, by decide +kernel⟩
theorem r_due77 (A : FnAt K mg "_law_due" sDue) (m_len : mg "len" = none) : Ready P w K mg base 1 "_law_due" ["_law_begin", "_law_end", "_law_more", "_law_spot"] spDue77 := by
  refine ready_of A (fun _ _ _ _ _ _ us hl => match us, hl with | [_, _, _, _], _ => rfl) fun f fd F => ?_
  refine F.ok scDue77 (fun vs H Q E h => ?_) (fun cdv A outer s H vs Q E hr h => ?_)
  · obtain ⟨i, j, t, s, rfl, _⟩ := h
    rfl
  · obtain ⟨i, j, t, z, rfl, hz, q⟩ := h
    have sc := scDue77
    refine ⟨_, pss_cons (ps_if (pt_cmpR op_le (pv 3) (pv 0) (nomark _))
        (pss_one (ps_ret (pv 3)))
        pss_nil)
      (pss_cons (ps_if (pt_cmpR op_lt (pv 3) (pv 1) (nomark _))
        (pss_one (ps_ret (pv 0)))
        pss_nil)
      (pss_one (ps_ret (pe_op op_add (pe_op op_sub (pe_op op_add (pv 3) (pe_callB call_len_str (by rfl) m_len PySem.boot_len (pa_cons (pv 2) pa_nil))) (pv 1)) (pv 0))))), ?_⟩
    refine ⟨_, rfl, _, rfl, _, _, rfl, rfl, _, rfl, ?_⟩
    unfold ledZ at q
    by_cases h1 : t ≤ i
    · rw [decide_eq_true h1]
      rw [if_pos h1] at q
      exact iteT ⟨_, rfl, q⟩
    · rw [decide_eq_false h1]
      rw [if_neg h1] at q
      refine iteF ⟨_, rfl, _, rfl, _, _, rfl, rfl, _, rfl, ?_⟩
      by_cases h2 : t ≥ j
      · rw [decide_eq_false (by omega)]
        rw [if_pos h2] at q
        refine iteF ⟨_, rfl, _, rfl, _, rfl, by rw [sizeLine_eq]; omega, _, _, rfl, rfl, _, rfl, _, _, rfl, rfl, _, rfl, _, _, rfl, rfl, ?_⟩
        show Q (.int (t + z.length - j + i)) H
        rw [show t + (z.length : Int) - j + i = t + z.length - (j - i) by omega]
        exact q
      · rw [decide_eq_true (by omega)]
        rw [if_neg h2] at q
        exact iteT ⟨_, rfl, q⟩
theorem done_at1 {r s : List Nat} {b j u : Nat} (hu : u < b) (hb : b ≤ r.length) : (doneL r b j s)[u]? = r[u]? := by
  unfold doneL
  rw [List.append_assoc, List.getElem?_append_left (by rw [List.length_take]; omega), List.getElem?_take, if_pos hu]
theorem done_at2 {r s : List Nat} {b j u : Nat} (hb : b ≤ r.length) (hj : j ≤ u) : (doneL r b j s)[b + s.length + (u - j)]? = r[u]? := by
  unfold doneL
  have e : (r.take b ++ s).length = b + s.length := by rw [List.length_append, List.length_take]; omega
  rw [List.getElem?_append_right (by rw [e]; omega), e, List.getElem?_drop]
  congr 1
  omega
def spLaw77 (PT : Addr) (K : PySem.W.Frag) : Sp := fun vs H Q _ => ∃ (a : Addr) (ns : List Int), vs = [.ref a] ∧ SqL K H a (ns.map V.int) ∧ Tabs (TLam PT) H ∧ ∀ H', Q (.bl true) H'
theorem scLaw : FnScope ["_law_script", "_law_k", "_law_source_here", "_law_signs", "_law_row", "_law_begin", "_law_end", "_law_more", "_law_later", "_law_spot", "_law_found", "_law_stays", "_law_j"] ["_law_script"] (defScope sLaw) := ⟨rfl, rfl, rfl, by decide +kernel, rfl, by decide +kernel, by decide +kernel⟩
theorem ok_law77 {C CP CT CL PT : Addr} {f : Addr} {fd : FuncData} (F : Fun K "law" "law" sLaw f fd) (R1 : Ready P w K mg base 2 "_law_source" ["_law_script", "_law_k"] (spSource K)) (R2 : Ready P w K mg base 2 "_law_next" ["_law_source_here", "_law_many"] spNextM)
    (R3 : ReadyX P w K mg base 4 "done" ["text", "change"] spDoneX) (R4 : ReadyKX P w K mg base 4 "led" ["change", "place"] (spLedX K C CP) (fun fd => KBr K fd "change" "place")) (R5 : Ready P w K mg base 1 "_law_due" ["_law_begin", "_law_end", "_law_more", "_law_spot"] spDue77)
    (R6 : Ready P w K mg base 8 "_law_refused_right" ["_law_source_here", "_law_begin", "_law_end"] (spRef77 PT)) (m_len : mg "len" = none) (m_range : mg "range" = none) (m_max : mg "max" = none) (m_min : mg "min" = none) (m_list : mg "list" = none) (m_isinstance : mg "isinstance" = none) (m_bool : mg "bool" = none) :
    FnOk P w K mg base CX0 9 f fd ["_law_script"] (spLaw77 PT K) := by
  obtain ⟨f1, fd1, g1, k1, b1, G1⟩ := R1
  obtain ⟨f2, fd2, g2, k2, b2, G2⟩ := R2
  obtain ⟨f3, fd3, g3, k3, b3, G3⟩ := R3
  obtain ⟨f4, fd4, g4, k4, b4, kb4, G4⟩ := R4
  obtain ⟨f5, fd5, g5, k5, b5, G5⟩ := R5
  obtain ⟨f6, fd6, g6, k6, b6, G6⟩ := R6
  refine F.ok scLaw (fun vs H Q E h => ?_) (fun cdv A outer s H vs Q E hr h => ?_)
  · obtain ⟨a, ns, rfl, _⟩ := h
    rfl
  · obtain ⟨a, ns, rfl, hS, hT, q⟩ := h
    have sc := scLaw
    refine ⟨_, pss_cons (ps_for PassesOwn.never rfl (pi_range1 (by rfl) m_range (pa_cons (pe_callB (call_max2 rfl) (by rfl) m_max (by decide +kernel) (pa_cons pe_int (pa_cons (pe_callB (call_min2 rfl) (by rfl) m_min (by decide +kernel) (pa_cons pe_int (pa_cons (pe_callB call_len_seq (by rfl) m_len PySem.boot_len (pa_cons (pv 0) pa_nil)) pa_nil))) pa_nil))) pa_nil)) (pg_name (i := 1) sc.nd rfl (.inl rfl))
        (pss_cons (ps_set (i := 2) sc.nd rfl (.inr rfl) (pe_call G1 (hr.mono (by decide)) (by rfl) g1 k1 b1 .nil pass0 (pa_cons (pv 0) (pa_cons (pv 1) pa_nil))))
          (pss_cons (ps_set (i := 3) sc.nd rfl (.inr rfl) pe_str)
          (pss_cons (ps_set (i := 4) sc.nd rfl (.inl rfl) (pe_join pe_str (pe_lc (own := [("_law_j", 12)]) (g := gName 12) (tt := tYes) (by rfl) sc.nd (pi_range1 (by rfl) m_range (pa_cons (pe_call G2 (hr.mono (by decide)) (by rfl) g2 k2 b2 .nil pass0 (pa_cons (pv 2) (pa_cons pe_int pa_nil))) pa_nil)) (blkOk_by (own := [("_law_j", 12)]) (N := ["_law_script", "_law_k", "_law_source_here", "_law_signs", "_law_row", "_law_begin", "_law_end", "_law_more", "_law_later", "_law_spot", "_law_found", "_law_stays", "_law_j"]) (sc := defScope sLaw) (by decide +kernel)) (fun _ _ _ _ _ => (pg_name (i := 12) sc.nd rfl (.inl rfl))) (fun _ _ _ _ _ => pts_nil) (fun _ _ _ _ _ => (pe_item_str (pv 3) (pe_call G2 (hr.mono (by decide)) (by rfl) g2 k2 b2 .nil pass0 (pa_cons (pv 2) (pa_cons pe_int pa_nil))) (fun _ _ => rfl))))))
          (pss_cons (ps_set (i := 5) sc.nd rfl (.inl rfl) (pe_call G2 (hr.mono (by decide)) (by rfl) g2 k2 b2 .nil pass0 (pa_cons (pv 2) (pa_cons (pe_op op_add (pe_callB call_len_str (by rfl) m_len PySem.boot_len (pa_cons (pv 4) pa_nil)) pe_int) pa_nil))))
          (pss_cons (ps_set (i := 6) sc.nd rfl (.inl rfl) (pe_op op_add (pv 5) (pe_ix ix_list (pe_lst (pa_cons pe_int (pa_cons (pe_call G2 (hr.mono (by decide)) (by rfl) g2 k2 b2 .nil pass0 (pa_cons (pv 2) (pa_cons (pe_op op_sub (pe_op op_add (pe_callB call_len_str (by rfl) m_len PySem.boot_len (pa_cons (pv 4) pa_nil)) pe_int) (pv 5)) pa_nil))) (pa_cons (pe_op op_sub (pe_callB call_len_str (by rfl) m_len PySem.boot_len (pa_cons (pv 4) pa_nil)) (pv 5)) pa_nil)))) (pe_call G2 (hr.mono (by decide)) (by rfl) g2 k2 b2 .nil pass0 (pa_cons (pv 2) (pa_cons pe_int pa_nil))) (fun _ _ => rfl))))
          (pss_cons (ps_set (i := 7) sc.nd rfl (.inl rfl) (pe_op op_mulS pe_str (pe_ix ix_list (pe_lst (pa_cons pe_int (pa_cons pe_int (pa_cons (pe_op op_sub (pv 6) (pv 5)) (pa_cons (pe_call G2 (hr.mono (by decide)) (by rfl) g2 k2 b2 .nil pass0 (pa_cons (pv 2) (pa_cons pe_int pa_nil))) pa_nil))))) (pe_call G2 (hr.mono (by decide)) (by rfl) g2 k2 b2 .nil pass0 (pa_cons (pv 2) (pa_cons pe_int pa_nil))) (fun _ _ => rfl))))
          (pss_cons (ps_set (i := 8) sc.nd rfl (.inl rfl) (pe_call G3 (hr.mono (by decide)) (by rfl) g3 k3 b3 .nil passL (pa_cons (pv 4) (pa_cons (pe_tup (pa_cons (pv 5) (pa_cons (pv 6) (pa_cons (pv 7) pa_nil)))) pa_nil))))
          (pss_cons (ps_for PassesOwn.never rfl (pi_list (pe_op op_cat (pe_listRg rfl (by rfl) m_list (prg_1 (by rfl) m_range (pe_op op_add (pe_callB call_len_str (by rfl) m_len PySem.boot_len (pa_cons (pv 4) pa_nil)) pe_int))) (pe_lst (pa_cons (pe_op op_pow pe_int pe_int) pa_nil)))) (pg_name (i := 9) sc.nd rfl (.inl rfl))
            (pss_cons (ps_set (i := 10) sc.nd rfl (.inl rfl) (pe_call G4 (hr.mono (by decide)) (by rfl) g4 k4 b4 .nil passL (pa_cons (pe_tup (pa_cons (pv 5) (pa_cons (pv 6) (pa_cons (pv 7) pa_nil)))) (pa_cons (pv 9) pa_nil))))
              (pss_cons (ps_if (PW.pt (pw_or (pt_cmpR op_ne (pv 10) (pe_call G5 (hr.mono (by decide)) (by rfl) g5 k5 b5 .nil pass0 (pa_cons (pv 5) (pa_cons (pv 6) (pa_cons (pv 7) (pa_cons (pv 9) pa_nil))))) (nomark _)) (pw_or1 (pt_val (pe_callB call_isi (by rfl) m_isinstance (by decide +kernel) (pa_cons (pv 10) (pa_cons (pe_bltn (v := .ty "bool") (by rfl) m_bool (by decide +kernel) rfl) pa_nil)))))))
                (pss_one (ps_ret pe_bl))
                pss_nil)
              (pss_cons (ps_set (i := 11) sc.nd rfl (.inl rfl) (pe_or (pe_cmpR op_lt (pv 9) (pv 5) (nomark _)) (pe_one (pe_and (pe_cmpR op_ge (pv 9) (pv 6) (nomark _)) (pe_one (pe_cmpR op_gt (pv 9) (pv 5) (nomark _)))))))
              (pss_one (ps_if (PW.pt (pw_and (pt_cmpR op_lt (pv 9) (pe_callB call_len_str (by rfl) m_len PySem.boot_len (pa_cons (pv 4) pa_nil)) (nomark _)) (pw_and (pt_val (pv 11)) (pw_and1 (pt_cmpR op_ne (pe_item_str (pv 8) (pv 10) (fun _ _ => rfl)) (pe_item_str (pv 4) (pv 9) (fun _ _ => rfl)) (nomark _))))))
                (pss_one (ps_ret pe_bl))
                pss_nil))))))
          (pss_one (ps_if (PW.pt (pw_or (pt_cmpR op_ne (pe_callN0 G4 (hr.mono (by decide)) (by rfl) g4 k4 kb4 passL (pk_cons (pv 5) (pk_cons (pe_tup (pa_cons (pv 5) (pa_cons (pv 6) (pa_cons (pv 7) pa_nil)))) pk_nil))) (pv 5) (nomark _)) (pw_or1 (pt_not (pt_val (pe_call G6 (hr.mono (by decide)) (by rfl) g6 k6 b6 .nil pass0 (pa_cons (pv 2) (pa_cons (pv 5) (pa_cons (pv 6) pa_nil)))))))))
            (pss_one (ps_ret pe_bl))
            pss_nil)))))))))))
      (pss_one (ps_ret pe_bl)), ?_⟩
    have hlen : (ns.map V.int).length = ns.length := List.length_map ..
    refine ⟨_, rfl, a, _, rfl, .inl hS, ?_⟩
    rw [hlen]
    refine ⟨_, _, rfl, _, _, rfl, ?_⟩
    generalize hM : (if (if (ns.length : Int) < 10 then (ns.length : Int) else 10) > 1 then (if (ns.length : Int) < 10 then (ns.length : Int) else 10) else 1) = M
    have hM0 : 0 ≤ M ∧ M ≤ 100 := by
      rw [← hM]
      constructor <;> (split <;> split <;> omega)
    refine ⟨M, rfl, by omega, by omega, ?_⟩
    refine for_it walk_range (fun i σ H' => ∃ y1 y2 y3 y4 y5 y6 y7 y8 y9 y10 y11 y12, σ = [some (.ref a), y1, y2, y3, y4, y5, y6, y7, y8, y9, y10, y11, y12] ∧ ExtN H H' ∧ Tabs (TLam PT) H') ⟨none, none, none, none, none, none, none, none, none, none, none, none, rfl, ExtN.refl H, hT⟩ (fun _ _ _ _ _ => trivial) (fun i x σ H1 H2 hi hp hy => ?_) (fun σ H1 hp => by obtain ⟨y1, y2, y3, y4, y5, y6, y7, y8, y9, y10, y11, y12, rfl, sm, ht⟩ := hp; exact q _)
    obtain ⟨y1, y2, y3, y4, y5, y6, y7, y8, y9, y10, y11, y12, rfl, sm, ht⟩ := hp
    obtain ⟨rfl, hxv⟩ := hy
    have hx' : x = .int (i : Nat) := by
      rw [hxv]
      exact congrArg V.int (Int.zero_add _)
    subst hx'
    refine ⟨_, rfl, _, rfl, a, ns, i, rfl, seq_extN sm hS, fun H3 sr s3 nsr hsr => ?_⟩
    have dt0 := DrawnT.refl hsr (tabs_same ht s3)
    refine ⟨⟨_, rfl⟩, _, rfl, sr, 60, rfl, by decide, by decide, hsr, fun N H4 hN d4 => ?_⟩
    refine ⟨N, rfl, by omega, by omega, fun D hD => ?_⟩
    have hDa : sr ≠ D := fun e => by
      obtain ⟨x, y, u, hx⟩ := d4.src
      rw [e, hD] at hx
      cases hx
    rw [Int.toNat_natCast]
    refine lc_it walk_range (fun i H' => Drawn sr H4 H' ∧ ∃ ys : List Str, H' D = some (.lst (ys.map V.str)) ∧ ys.length = i ∧ ∀ t ∈ ys, ∃ c ∈ SigA.cps.toList, t = ⟨#[c]⟩) ⟨drawn_set (Drawn.refl d4.src) hD hDa, [], upd_same, rfl, fun _ h => by simp at h⟩ (fun _ _ _ _ => trivial) (fun i x H1 H2 hi hp hy => ?_) (fun H5 hp => ?_)
    · obtain ⟨rfl, rfl⟩ := hy
      obtain ⟨dr, ys, hd, hy1, hy2⟩ := hp
      refine ⟨rfl, ?_⟩
      unfold tYes
      refine iteT ?_
      refine ⟨_, rfl, _, rfl, sr, 28, rfl, by decide, by decide, dr.src, fun r H6 hr' d6 => ?_⟩
      have hr2 : r < SigA.cps.size := by rw [show SigA.cps.size = 28 from sigA_len]; exact hr'
      have hc : SigA.cps[r]? = some (SigA.cps[r]'hr2) := Array.getElem?_eq_getElem hr2
      have hsl := sigA_len
      refine ⟨SigA, r, _, rfl, rfl, by omega, by omega, by omega, by rw [Int.toNat_natCast]; exact hc, ?_⟩
      have hd' := d6.old _ _ hDa.symm hd
      refine ⟨_, hd', ?_, ?_, ys ++ [⟨#[SigA.cps[r]'hr2]⟩], ?_, ?_, ?_⟩
      · rw [List.length_map]
        exact szl (by omega)
      · exact drawn_set (dr.trans d6) hD hDa
      · rw [upd_same, List.map_append]
        rfl
      · rw [List.length_append, hy1]
        rfl
      · intro t ht
        rcases List.mem_append.mp ht with ht | ht
        · exact hy2 t ht
        · exact ⟨_, Array.mem_def.mp (Array.getElem_mem hr2), List.mem_singleton.mp ht⟩
    · obtain ⟨dr, ys, hd, hy1, hy2⟩ := hp
      have h3 := sum_one (ys := ys) fun t ht => by
        obtain ⟨c, _, rfl⟩ := hy2 t ht
        exact Nat.le_refl 1
      obtain ⟨h4, h5⟩ := flat_ones hy2
      rw [← join_codes] at h4 h5
      have e0 : ("" : Str).length = 0 := by decide +kernel
      refine ⟨("" : Str), D, ys, rfl, rfl, .inl (SqL.of hd), by rw [e0]; omega, ?_⟩
      generalize hrow : Txt.join ("" : Str) ys = row at h4 h5
      clear hrow
      have dt1 := (dt0.drawn d4).drawn dr
      have hrl : row.length ≤ 60 := by rw [← len_cps, h5, hy1]; omega
      have hra : allSig row.cps.toList = true := List.all_eq_true.mpr fun c hc => sigA_sig c (h4 c hc)
      obtain ⟨w0, rfl⟩ : ∃ l, row = mk l := ⟨_, (mk_of row).symm⟩
      rw [mk_codes] at hra
      have hrl' := hrl
      rw [mk_len] at hrl'
      have hsz : (mk w0).length ≤ sizeLine := by rw [sizeLine_eq]; omega
      refine ⟨_, rfl, _, rfl, _, rfl, hsz, _, _, rfl, rfl, sr, w0.length + 1, by rw [mk_len]; rfl, by omega, by omega, dt1.src, fun b H6 hb d6 => ?_⟩
      have dt2 := dt1.drawn d6
      refine ⟨_, rfl, ?_⟩
      refine ⟨_, rfl, _, rfl, _, rfl, hsz, _, _, rfl, rfl, _, rfl, _, _, rfl, rfl, sr, w0.length + 1 - b, ?_, by omega, by omega, dt2.src, fun x0 H7 hx0 d7 => ?_⟩
      · rw [mk_len]
        show [V.ref sr, .int (((w0.length : Nat) : Int) + 1 - (b : Nat))] = _
        rw [show ((w0.length : Nat) : Int) + 1 - (b : Nat) = ((w0.length + 1 - b : Nat) : Int) by omega]
      have dt3 := dt2.drawn d7
      refine ⟨_, rfl, _, rfl, hsz, _, rfl, _, _, rfl, rfl, (by show 3 ≤ sizeLine; decide), fun q1 n1 => ?_⟩
      have z1 := same_new (o := .lst [.int 0, .int (x0 : Nat), .int (((mk w0).length : Nat) - (b : Nat))]) n1
      have dt4 := dt3.same z1
      have hl1 : (upd H7 q1 (.lst [.int 0, .int (x0 : Nat), .int (((mk w0).length : Nat) - (b : Nat))])) q1 = some (.lst [.int 0, .int (x0 : Nat), .int (((mk w0).length : Nat) - (b : Nat))]) := upd_same
      have hpk : ∀ v ∈ ([.int 0, .int (x0 : Nat), .int (((mk w0).length : Nat) - (b : Nat))] : List V), ∃ e0 : Nat, v = .int (e0 : Nat) ∧ b + e0 ≤ w0.length := fun v hv => by
        simp only [List.mem_cons, List.not_mem_nil, or_false] at hv
        rcases hv with rfl | rfl | rfl
        · exact ⟨0, rfl, by omega⟩
        · exact ⟨x0, rfl, by omega⟩
        · exact ⟨w0.length - b, congrArg V.int (by rw [mk_len]; omega), by omega⟩
      refine ⟨_, rfl, sr, 3, rfl, by decide, by decide, dt4.src, fun r3 H8 hr3 d8 => ?_⟩
      have hr3' : r3 < ([.int 0, .int (x0 : Nat), .int (((mk w0).length : Nat) - (b : Nat))] : List V).length := hr3
      have dt5 := dt4.drawn d8
      refine ⟨q1, _, _, _, rfl, rfl, SqL.of (d8.old _ _ (dt3.src.neM n1) hl1), atI_nat (List.getElem?_eq_getElem hr3'), ?_⟩
      obtain ⟨e0, hv, he0⟩ := hpk _ (List.getElem_mem hr3')
      rw [hv]
      clear hv hpk hl1 z1
      refine ⟨_, _, rfl, rfl, ?_⟩
      refine ⟨_, rfl, _, rfl, _, _, rfl, rfl, ?_⟩
      refine ⟨_, rfl, sr, 40, rfl, by decide, by decide, dt5.src, fun x1 H9 hx1 d9 => ⟨(by show 4 ≤ sizeLine; decide), fun q2 n2 => ?_⟩⟩
      have dt6 := dt5.drawn d9
      have z2 := same_new (o := .lst [.int 0, .int 1, .int ((b : Nat) + (e0 : Nat) - (b : Nat)), .int (x1 : Nat)]) n2
      have dt7 := dt6.same z2
      have hl2 : (upd H9 q2 (.lst [.int 0, .int 1, .int ((b : Nat) + (e0 : Nat) - (b : Nat)), .int (x1 : Nat)])) q2 = some (.lst [.int 0, .int 1, .int ((b : Nat) + (e0 : Nat) - (b : Nat)), .int (x1 : Nat)]) := upd_same
      have hpk : ∀ v ∈ ([.int 0, .int 1, .int ((b : Nat) + (e0 : Nat) - (b : Nat)), .int (x1 : Nat)] : List V), ∃ e1 : Nat, v = .int (e1 : Nat) ∧ e1 ≤ 60 := fun v hv => by
        simp only [List.mem_cons, List.not_mem_nil, or_false] at hv
        rcases hv with rfl | rfl | rfl | rfl
        · exact ⟨0, rfl, by omega⟩
        · exact ⟨1, rfl, by omega⟩
        · exact ⟨e0, congrArg V.int (by omega), by omega⟩
        · exact ⟨x1, rfl, by omega⟩
      refine ⟨_, rfl, sr, 4, rfl, by decide, by decide, dt7.src, fun r4 H10 hr4 d10 => ?_⟩
      have hr4' : r4 < ([.int 0, .int 1, .int ((b : Nat) + (e0 : Nat) - (b : Nat)), .int (x1 : Nat)] : List V).length := hr4
      have dt8 := dt7.drawn d10
      refine ⟨q2, _, _, _, rfl, rfl, SqL.of (d10.old _ _ (dt6.src.neM n2) hl2), atI_nat (List.getElem?_eq_getElem hr4'), ?_⟩
      obtain ⟨e1, hv, he1⟩ := hpk _ (List.getElem_mem hr4')
      rw [hv]
      clear hv hpk hl2 z2
      refine ⟨90, e1, by decide +kernel, rfl, by omega, ?_⟩
      have hmo : allSig (List.replicate e1 90) = true := List.all_eq_true.mpr fun c hc => by rw [List.eq_of_mem_replicate hc]; decide
      refine ⟨_, rfl, _, rfl, _, rfl, _, rfl, (by show 3 ≤ sizeLine; decide), fun T1 m1 => ?_⟩
      have z3 := same_new (o := .tup [.int (b : Nat), .int ((b + e0 : Nat) : Int), .str (mk (List.replicate e1 90))]) m1
      refine ⟨w0, List.replicate e1 90, b, b + e0, T1, rfl, upd_same, by omega, by omega, by omega, by rw [List.length_replicate]; omega, hra, hmo, fun H11 s11 => ?_⟩
      have dt9 := (dt8.same z3).same s11
      refine ⟨_, rfl, _, rfl, hsz, _, _, rfl, rfl, ?_⟩
      refine ⟨_, rfl, RgOk.of_le (by decide) (by rw [mk_len]; omega) (by decide) (by omega), fun q3 n3 => ?_⟩
      refine ⟨_, _, rfl, rfl, by unfold CPow; decide, (by show 1 ≤ sizeLine; decide), fun q4 n4 => ?_⟩
      have z4 := same_new (o := .lst (rgV 0 (((mk w0).length : Int) + 3))) n3
      have z5 := same_new (o := .lst [.int (10 ^ (11 : Int).toNat)]) n4
      have hrgl : (rgV 0 (((mk w0).length : Int) + 3)).length = w0.length + 3 := by rw [rgV_length, mk_len]; omega
      refine ⟨q3, q4, _, _, rfl, rfl, z5 _ _ upd_same, upd_same, by rw [hrgl, sizeLine_eq]; show w0.length + 3 + 1 ≤ _; omega, fun q5 n5 => ?_⟩
      have z6 := same_new (o := .lst (rgV 0 (((mk w0).length : Int) + 3) ++ [.int (10 ^ (11 : Int).toNat)])) n5
      have dt10 := ((dt9.same z4).same z5).same z6
      have hspots : ∀ v ∈ rgV 0 (((mk w0).length : Int) + 3) ++ [V.int (10 ^ (11 : Int).toNat)], ∃ t : Nat, v = .int (t : Nat) := fun v hv => by
        rcases List.mem_append.mp hv with hv | hv
        · unfold rgV at hv
          obtain ⟨t, _, rfl⟩ := List.mem_map.mp hv
          exact ⟨t, congrArg V.int (by omega)⟩
        · exact ⟨10 ^ 11, List.mem_singleton.mp hv⟩
      refine ⟨q5, rfl, ⟨_, SqL.of upd_same⟩, ?_⟩
      have hq5 := upd_same (H := upd (upd H11 q3 (.lst (rgV 0 (((mk w0).length : Int) + 3)))) q4 (.lst [.int (10 ^ (11 : Int).toNat)])) (a := q5) (o := .lst (rgV 0 (((mk w0).length : Int) + 3) ++ [.int (10 ^ (11 : Int).toNat)]))
      refine for_it walk_list (fun t σ H' => ∃ z9 z10 z11, σ = [some (.ref a), some (.int (i : Nat)), some (.ref sr), some (.str ("abcdefghijklmnopqrstuvwxyz 
" : Str)), some (.str (mk w0)), some (.int (b : Nat)), some (.int ((b + e0 : Nat) : Int)), some (.str (mk (List.replicate e1 90))), some (.str (mk (doneL w0 b (b + e0) (List.replicate e1 90)))), z9, z10, z11, y12] ∧ Same _ H') ⟨_, _, _, rfl, Same.refl _⟩ (fun t σ H' _ hp => by obtain ⟨z9, z10, z11, rfl, s12⟩ := hp; exact s12.seq (SqL.of hq5)) (fun t x σ H12 H13 ht hp hy => ?_) (fun σ H12 hp => ?_)
      · obtain ⟨z9, z10, z11, rfl, s12⟩ := hp
        obtain ⟨rfl, hx⟩ := hy
        obtain ⟨u, rfl⟩ := hspots x (List.mem_of_getElem? hx)
        have lm : (mk (List.replicate e1 90)).length = e1 := by rw [mk_len, List.length_replicate]
        refine ⟨_, rfl, _, rfl, _, rfl, (by show 3 ≤ sizeLine; decide), fun T2 m2 => ?_⟩
        have z7 := same_new (o := .tup [.int (b : Nat), .int ((b + e0 : Nat) : Int), .str (mk (List.replicate e1 90))]) m2
        refine ⟨_, rfl, _, _, rfl, .inr ⟨T2, (b : Nat), ((b + e0 : Nat) : Int), mk (List.replicate e1 90), rfl, upd_same, by omega, by omega, by rw [lm]; omega, by rw [mk_codes]; exact hmo, .inr (.inr ⟨(u : Nat), rfl, by omega, fun H14 s14 => ?_⟩)⟩⟩
        have s13 := (s12.trans z7).trans s14
        rw [lm]
        generalize hL : ledZ (b : Nat) ((b + e0 : Nat) : Int) e1 (u : Nat) = L
        refine ⟨_, rfl, _, rfl, _, rfl, _, rfl, _, rfl, (b : Nat), ((b + e0 : Nat) : Int), (u : Nat), mk (List.replicate e1 90), rfl, by rw [lm]; omega, ?_⟩
        rw [lm, hL]
        refine ⟨rfl, _, rfl, ?_⟩
        rw [decide_eq_true rfl]
        refine iteF ⟨_, rfl, _, _, .type "int", .type "bool", false, rfl, ClsV.ty "bool", .base (.int _), kit_ty (by decide +kernel), false, rfl, iteF ?_⟩
        by_cases h1 : u < b
        · refine ⟨_, rfl, _, rfl, _, _, rfl, rfl, _, rfl, ?_⟩
          rw [decide_eq_true (by omega)]
          refine iteT ?_
          by_cases h2 : u < w0.length
          · refine ⟨_, rfl, _, rfl, _, rfl, hsz, _, _, rfl, rfl, _, rfl, ?_⟩
            rw [decide_eq_true (by rw [mk_len]; omega)]
            refine iteT ⟨_, rfl, true, rfl, iteT ?_⟩
            obtain ⟨d, rfl, hd⟩ := (show ∃ d : Nat, L = (d : Nat) ∧ (doneL w0 b (b + e0) (List.replicate e1 90))[d]? = w0[u]? from ⟨u, by rw [← hL]; unfold ledZ; rw [if_pos (by omega)], done_at1 h1 (by omega)⟩)
            have hc := List.getElem?_eq_getElem h2
            rw [hc] at hd
            have hdl := (List.getElem?_eq_some_iff.mp hd).1
            have hdn : (doneL w0 b (b + e0) (List.replicate e1 90)).length ≤ 300 := by
              unfold doneL
              rw [List.length_append, List.length_append, List.length_take, List.length_drop, List.length_replicate]
              omega
            have ce1 : (mk (doneL w0 b (b + e0) (List.replicate e1 90))).cps[d]? = some w0[u] := by rw [← Array.getElem?_toList, mk_codes]; exact hd
            have ce2 : (mk w0).cps[u]? = some w0[u] := by rw [← Array.getElem?_toList, mk_codes]; exact hc
            refine ⟨_, rfl, _, rfl, mk (doneL w0 b (b + e0) (List.replicate e1 90)), d, _, rfl, rfl, (by first | omega | (rw [mk_len]; omega)), (by first | omega | (rw [mk_len]; omega)), (by first | omega | (rw [mk_len]; omega)), by rw [Int.toNat_natCast]; exact ce1, ?_⟩
            refine ⟨_, rfl, _, rfl, mk w0, u, _, rfl, rfl, (by first | omega | (rw [mk_len]; omega)), (by first | omega | (rw [mk_len]; omega)), (by first | omega | (rw [mk_len]; omega)), by rw [Int.toNat_natCast]; exact ce2, ?_⟩
            refine ⟨rfl, _, rfl, ?_⟩
            rw [decide_eq_true rfl]
            exact iteF ⟨_, _, _, rfl, s13⟩
          · refine ⟨_, rfl, _, rfl, _, rfl, hsz, _, _, rfl, rfl, _, rfl, ?_⟩
            rw [decide_eq_false (by rw [mk_len]; omega)]
            exact iteF ⟨_, _, _, rfl, s13⟩
        · refine ⟨_, rfl, _, rfl, _, _, rfl, rfl, _, rfl, ?_⟩
          rw [decide_eq_false (by omega)]
          refine iteF ?_
          by_cases h3 : b + e0 ≤ u
          · refine ⟨_, rfl, _, rfl, _, _, rfl, rfl, _, rfl, ?_⟩
            rw [decide_eq_true (by omega)]
            refine iteT ?_
            by_cases h4 : b < u
            · refine ⟨_, rfl, _, rfl, _, _, rfl, rfl, ?_⟩
              by_cases h2 : u < w0.length
              · refine ⟨_, rfl, _, rfl, _, rfl, hsz, _, _, rfl, rfl, _, rfl, ?_⟩
                rw [decide_eq_true (by rw [mk_len]; omega)]
                refine iteT ⟨_, rfl, _, rfl, ?_⟩
                rw [decide_eq_true (by omega)]
                refine iteT ?_
                obtain ⟨d, rfl, hd⟩ := (show ∃ d : Nat, L = (d : Nat) ∧ (doneL w0 b (b + e0) (List.replicate e1 90))[d]? = w0[u]? from ⟨b + e1 + (u - (b + e0)), by rw [← hL]; unfold ledZ; rw [if_neg (by omega), if_pos (by omega)]; omega, by have := done_at2 (s := List.replicate e1 90) (show b ≤ w0.length by omega) (show b + e0 ≤ u by omega); rwa [List.length_replicate] at this⟩)
                have hc := List.getElem?_eq_getElem h2
                rw [hc] at hd
                have hdl := (List.getElem?_eq_some_iff.mp hd).1
                have hdn : (doneL w0 b (b + e0) (List.replicate e1 90)).length ≤ 300 := by
                  unfold doneL
                  rw [List.length_append, List.length_append, List.length_take, List.length_drop, List.length_replicate]
                  omega
                have ce1 : (mk (doneL w0 b (b + e0) (List.replicate e1 90))).cps[d]? = some w0[u] := by rw [← Array.getElem?_toList, mk_codes]; exact hd
                have ce2 : (mk w0).cps[u]? = some w0[u] := by rw [← Array.getElem?_toList, mk_codes]; exact hc
                refine ⟨_, rfl, _, rfl, mk (doneL w0 b (b + e0) (List.replicate e1 90)), d, _, rfl, rfl, (by first | omega | (rw [mk_len]; omega)), (by first | omega | (rw [mk_len]; omega)), (by first | omega | (rw [mk_len]; omega)), by rw [Int.toNat_natCast]; exact ce1, ?_⟩
                refine ⟨_, rfl, _, rfl, mk w0, u, _, rfl, rfl, (by first | omega | (rw [mk_len]; omega)), (by first | omega | (rw [mk_len]; omega)), (by first | omega | (rw [mk_len]; omega)), by rw [Int.toNat_natCast]; exact ce2, ?_⟩
                refine ⟨rfl, _, rfl, ?_⟩
                rw [decide_eq_true rfl]
                exact iteF ⟨_, _, _, rfl, s13⟩
              · refine ⟨_, rfl, _, rfl, _, rfl, hsz, _, _, rfl, rfl, _, rfl, ?_⟩
                rw [decide_eq_false (by rw [mk_len]; omega)]
                exact iteF ⟨_, _, _, rfl, s13⟩
            · refine ⟨_, rfl, _, rfl, _, _, rfl, rfl, ?_⟩
              by_cases h2 : u < w0.length
              · refine ⟨_, rfl, _, rfl, _, rfl, hsz, _, _, rfl, rfl, _, rfl, ?_⟩
                rw [decide_eq_true (by rw [mk_len]; omega)]
                refine iteT ⟨_, rfl, _, rfl, ?_⟩
                rw [decide_eq_false (by omega)]
                exact iteF ⟨_, _, _, rfl, s13⟩
              · refine ⟨_, rfl, _, rfl, _, rfl, hsz, _, _, rfl, rfl, _, rfl, ?_⟩
                rw [decide_eq_false (by rw [mk_len]; omega)]
                exact iteF ⟨_, _, _, rfl, s13⟩
          · refine ⟨_, rfl, _, rfl, _, _, rfl, rfl, _, rfl, ?_⟩
            rw [decide_eq_false (by omega)]
            refine iteF ?_
            by_cases h2 : u < w0.length
            · refine ⟨_, rfl, _, rfl, _, rfl, hsz, _, _, rfl, rfl, _, rfl, ?_⟩
              rw [decide_eq_true (by rw [mk_len]; omega)]
              exact iteT ⟨_, rfl, false, rfl, iteF ⟨_, _, _, rfl, s13⟩⟩
            · refine ⟨_, rfl, _, rfl, _, rfl, hsz, _, _, rfl, rfl, _, rfl, ?_⟩
              rw [decide_eq_false (by rw [mk_len]; omega)]
              exact iteF ⟨_, _, _, rfl, s13⟩
      · obtain ⟨z9, z10, z11, rfl, s12⟩ := hp
        have lm : (mk (List.replicate e1 90)).length = e1 := by rw [mk_len, List.length_replicate]
        refine ⟨_, rfl, _, rfl, _, rfl, _, rfl, (by show 3 ≤ sizeLine; decide), fun T3 m3 => ?_⟩
        have z8 := same_new (o := .tup [.int (b : Nat), .int ((b + e0 : Nat) : Int), .str (mk (List.replicate e1 90))]) m3
        refine ⟨rfl, .ref T3, .int (b : Nat), rfl, .inr ⟨T3, (b : Nat), ((b + e0 : Nat) : Int), mk (List.replicate e1 90), rfl, upd_same, by omega, by omega, by rw [lm]; omega, by rw [mk_codes]; exact hmo, .inr (.inr ⟨(b : Nat), rfl, by omega, fun H14 s14 => ?_⟩)⟩⟩
        rw [show ledZ (b : Nat) ((b + e0 : Nat) : Int) (mk (List.replicate e1 90)).length (b : Nat) = (b : Nat) from by unfold ledZ; rw [if_pos (Int.le_refl _)]]
        refine ⟨_, rfl, rfl, _, rfl, ?_⟩
        rw [decide_eq_true rfl]
        have dt11 := ((dt10.same s12).same z8).same s14
        refine iteF ⟨_, rfl, _, rfl, _, rfl, sr, b, b + e0, rfl, by omega, by omega, dt11.src, dt11.tab, fun H15 d15 => ⟨_, rfl, iteF ⟨_, _, _, _, _, _, _, _, _, _, _, _, rfl, ?_, d15.tab⟩⟩⟩
        refine fun b1 o1 hb1 hn1 => d15.old b1 o1 ?_ (dt11.old b1 o1 ?_ (s3 _ _ (sm _ _ hb1 hn1)) hn1) hn1
        · exact fun e => by rw [e] at hb1; have := sm _ _ hb1 hn1; rw [nsr] at this; cases this
        · exact fun e => by rw [e] at hb1; have := sm _ _ hb1 hn1; rw [nsr] at this; cases this
end
end FL

namespace FL
open PySem PySem.Spec PyProof.Rows L2 LamX
/-- an end at which the table of one more def, nm, is known to be empty -/
theorem walk_ofTab (nm : Str) {ol : PySem.W.OpenLaw} {most lev : Nat} {pq : Program} {lo : List Str} {XQ : (Str → Option Value) → Heap → Prop} {YQ : World → Heap → Prop} {dr : DefRec} {KF : Params → PySem.W.Frag} {CC : World → CXT} {arg : Str}
    (h1 : ol.most = some most) (h2 : most ≤ sizeLine) (h3 : dr.params.defaults = []) (h4 : Room lev callerA)
    (hrec : ((recsOf pq).any fun e => e.name == nm) = true)
    (h5 : ∀ (w : World) (h : Heap), YQ w h → (KF w.params).In h)
    (FF : ∀ (w : World) (mg : Str → Option Value) (fa : Addr) (h : Heap), YQ w h → (KF w.params).In h → h.Ns mainGlobals mg → mg dr.name = some (.ref fa) → (∀ f, mg nm = some (.ref f) → OwnTab (KF w.params) f h) → LawAtS ol w (KF w.params) (CC w) lev most arg mg fa h)
    (h6 : ∀ (w : World) (H : Hp) (s : Shared) (e : Value) (s' : Shared), CC w [] H s (fun _ _ _ => False) e s' → False) :
    PySem.W.WalkO pq lo XQ YQ ol.row.toRowW dr [] (fun f vs => PySem.call f vs) := by
  refine Att.attach_callB h1 h3 fun w s0 s1 mg mb fa o pm cd doc a vs ns G Y ho hd hcd hmg hob hin hle hbi hge => ?_
  have KX := h5 w _ Y
  have own : ∀ f, mg nm = some (.ref f) → OwnTab (KF w.params) f s1.heap := by
    intro f hf c P ob fd ev dd us sl k1 k2 k3 k4 k5
    obtain ⟨dL, hm, hq⟩ := List.any_eq_true.mp hrec
    have hq2 : dL.name = nm := beq_iff_eq.mp hq
    obtain ⟨a', o', fd', c', P', e1, e2, e3, e4, e5, e6⟩ := G.T.tab dL hm
    rw [hq2, hf] at e1
    cases e1
    have g1 := KX _ _ k1
    rw [g1] at e2
    cases e2
    rw [k2] at e3
    cases e3
    rw [k3] at e4
    cases e4
    obtain ⟨⟨oc, vc, d1, _, d3, d4⟩, hP⟩ := e6
    have g2 := KX _ _ k4
    rw [g2] at d1
    cases d1
    cases d3
    rw [k5] at d4
    cases d4
    exact hP
  obtain ⟨fd, cs, sp, t1, t2, t3, t4, t5, t6⟩ := FF w mg fa _ Y KX G.T.g hmg own
  refine law_callTs KX G.T.g G.T.b G.T.builtins G.T.nolimit hge t1 t2 t3 G.T.bmain hob hin (Nat.le_trans hle h2) h4 t6 t4 (fun H hH hS => ?_) fun H e s' => h6 w H s1 e s'
  exact t5 H a ns hle hbi hH hS
end FL

namespace FL
open PySem PySem.Spec PyProof.Rows L2
theorem all_mk {l : PySem.W.OpenLaw} {w : World} {K : PySem.W.Frag} {h : Heap} {mg : Str → Option Value} {fa f1 f2 f3 f4 f5 f6 f7 f8 f9 f10 f11 f12 f13 f14 : Addr} (X : K.In h) (G : h.Ns mainGlobals mg) (hfa : mg "law" = some (.ref fa)) (OT : ∀ f, mg "_law_refused_right" = some (.ref f) → LamX.OwnTab K f h) {cc PT : Addr} {ec : Option Addr} {vsc : Array Value} {slc : Array (Option Value)}
    {od1 an1 od2 an2 od3 an3 od4 an4 od5 an5 od6 an6 od7 an7 od8 an8 od9 an9 od10 an10 od11 an11 od12 an12 od13 an13 od14 an14 : Option Addr} {sl1 sl2 sl3 sl4 sl5 sl6 sl7 sl8 sl9 sl10 sl11 sl12 sl13 sl14 : Array (Option Value)} {oc1 kV1 dc1 pm1 cd1 ct1 oc2 kV2 dc2 pm2 cd2 ct2 oc3 kV3 dc3 pm3 cd3 ct3 oc4 kV4 dc4 pm4 cd4 ct4 oc5 kV5 dc5 pm5 cd5 ct5 oc6 kV6 dc6 pm6 cd6 ct6 oc7 kV7 dc7 pm7 cd7 ct7 oc8 kV8 dc8 pm8 cd8 ct8 oc9 kV9 dc9 pm9 cd9 ct9 oc10 kV10 dc10 pm10 cd10 ct10 oc11 kV11 dc11 pm11 cd11 ct11 oc12 kV12 dc12 pm12 cd12 ct12 oc13 kV13 dc13 pm13 ct13 oc14 kV14 dc14 pm14 cd14 ct14 : Value} {tk1 : Tok}
    {CL fL TL : Addr} {odL anL odTL : Option Addr} {slL slTL : Array (Option Value)} {ocL kVL dcL pmL cdL ctL ocTL : Value} {tkL : Tok} {nTL : Nat}
    {C NC : Addr} {nmC qC : Str} {bsC bmC : List Value} {snC : List Str} {subC : List Value} {abC : Bool} {colC : Option Bool} {ddC : Option Addr} {m0C m1C m2C m3C m5C : Option Value}
    {CP NCP : Addr} {nmCP qCP : Str} {bsCP bmCP : List Value} {snCP : List Str} {subCP : List Value} {abCP : Bool} {colCP : Option Bool} {ddCP : Option Addr} {m0CP m1CP m2CP m3CP m5CP : Option Value}
    {CT NCT : Addr} {nmCT qCT : Str} {bsCT bmCT : List Value} {snCT : List Str} {subCT : List Value} {abCT : Bool} {colCT : Option Bool} {ddCT : Option Addr} {m0CT m1CT m2CT m3CT m5CT : Option Value}
    (gL : PySem.W.nsIn K mainGlobals "LetterError" = some (some (.ref CL)))
    (iL : PySem.W.findIn K (.ref CL) "__init__" = some (some (.ref fL)))
    (lL : K.lookup fL = some ⟨ocL, odL, .func (PySem.W.fnOf "__init__" "LetterError.__init__" (defArgs sLE) (defBody sLE) (defScope sLE) (.ref TL) kVL dcL pmL anL cdL ctL), slL⟩)
    (cL : PySem.W.codeIn K cdL "LetterError.__init__" = true)
    (kL : PySem.W.keepIn K (.ref fL) = true)
    (dL : K.lookup TL = some ⟨ocTL, odTL, .seq #[.str ("" : Str) tkL] nTL, slTL⟩)
    (gaL : PySem.W.specialIn K (.ref CL) "__getattribute__" = some (some (.builtin "type.__getattribute__")))
    (rdL : PySem.W.readsIn K CL (.type "type") = true)
    (atL : PySem.W.findCls K (.ref CL) (.type "type") "__init__" = some (.val (.ref fL)))
    (vV : PySem.W.findCls K (.type "ValueError") (.type "type") "__init__" = some (.val (.builtin "ValueError.__init__")))
    (zVE : PySem.W.nsIn K mainGlobals "ValueError" = some none)
    (exL : PySem.W.subIn K (.ref CL) (.type "BaseException") = some true)
    (hdL : PySem.W.hasDictIn K CL = true)
    (tyL : PySem.W.typeIn K (.ref CL) = some (.type "type"))
    (tifL : PySem.W.typeIn K (.ref fL) = some (.type "function"))
    (gC : PySem.W.nsIn K mainGlobals "NoChange" = some (some (.ref C)))
    (xC : K.lookup C = some (excClassObj nmC qC C NC bsC bmC true snC subC abC colC ddC m0C m1C m2C m3C m5C "ValueError.__new__"))
    (rvC : PySem.HandSPX.refsVE bmC = true)
    (saC : PySem.W.findIn K (.ref C) "__setattr__" = some (some (.builtin "object.__setattr__")))
    (exC : PySem.W.subIn K (.ref C) (.type "BaseException") = some true)
    (tyC : PySem.W.typeIn K (.ref C) = some (.type "type"))
    (kcC : PySem.W.keepIn K (.ref C) = true)
    (iC : PySem.W.findIn K (.ref C) "__init__" = some (some (.ref fL)))
    (hgC : PySem.W.findIn K (.ref C) "__getattribute__" = some (some (.builtin "BaseException.__getattribute__")))
    (hkC : PySem.W.findIn K (.ref C) "__getattr__" = some none)
    (hdC : PySem.W.hasDictIn K C = true)
    (haC : PySem.W.findIn K (.ref C) "__class__" = some (some (.builtin "object.__class__")))
    (hmC : PySem.W.mroIn K C (.type "object") = some true)
    (suC : PySem.W.subIn K (.ref C) (.ref CL) = some true)
    (gCP : PySem.W.nsIn K mainGlobals "NoPlace" = some (some (.ref CP)))
    (xCP : K.lookup CP = some (excClassObj nmCP qCP CP NCP bsCP bmCP true snCP subCP abCP colCP ddCP m0CP m1CP m2CP m3CP m5CP "ValueError.__new__"))
    (rvCP : PySem.HandSPX.refsVE bmCP = true)
    (saCP : PySem.W.findIn K (.ref CP) "__setattr__" = some (some (.builtin "object.__setattr__")))
    (exCP : PySem.W.subIn K (.ref CP) (.type "BaseException") = some true)
    (tyCP : PySem.W.typeIn K (.ref CP) = some (.type "type"))
    (kcCP : PySem.W.keepIn K (.ref CP) = true)
    (iCP : PySem.W.findIn K (.ref CP) "__init__" = some (some (.ref fL)))
    (hgCP : PySem.W.findIn K (.ref CP) "__getattribute__" = some (some (.builtin "BaseException.__getattribute__")))
    (hkCP : PySem.W.findIn K (.ref CP) "__getattr__" = some none)
    (hdCP : PySem.W.hasDictIn K CP = true)
    (haCP : PySem.W.findIn K (.ref CP) "__class__" = some (some (.builtin "object.__class__")))
    (hmCP : PySem.W.mroIn K CP (.type "object") = some true)
    (suCP : PySem.W.subIn K (.ref CP) (.ref CL) = some true)
    (gCT : PySem.W.nsIn K mainGlobals "NoText" = some (some (.ref CT)))
    (xCT : K.lookup CT = some (excClassObj nmCT qCT CT NCT bsCT bmCT true snCT subCT abCT colCT ddCT m0CT m1CT m2CT m3CT m5CT "ValueError.__new__"))
    (rvCT : PySem.HandSPX.refsVE bmCT = true)
    (saCT : PySem.W.findIn K (.ref CT) "__setattr__" = some (some (.builtin "object.__setattr__")))
    (exCT : PySem.W.subIn K (.ref CT) (.type "BaseException") = some true)
    (tyCT : PySem.W.typeIn K (.ref CT) = some (.type "type"))
    (kcCT : PySem.W.keepIn K (.ref CT) = true)
    (iCT : PySem.W.findIn K (.ref CT) "__init__" = some (some (.ref fL)))
    (hgCT : PySem.W.findIn K (.ref CT) "__getattribute__" = some (some (.builtin "BaseException.__getattribute__")))
    (hkCT : PySem.W.findIn K (.ref CT) "__getattr__" = some none)
    (hdCT : PySem.W.hasDictIn K CT = true)
    (haCT : PySem.W.findIn K (.ref CT) "__class__" = some (some (.builtin "object.__class__")))
    (hmCT : PySem.W.mroIn K CT (.type "object") = some true)
    (suCT : PySem.W.subIn K (.ref CT) (.ref CL) = some true)
    (hn0 : PySem.W.specialIn K (.builtin "object.__class__") "__get__" = some (some (.builtin "getset_descriptor.__get__")))
    (ht0 : PySem.W.takesIn K (.builtin "object.__class__") = some true)
    (suVC : PySem.W.subIn K (.ref C) (.type "ValueError") = some true)
    (suVP : PySem.W.subIn K (.ref CP) (.type "ValueError") = some true)
    (kitCPt : PySem.W.typeIn K (.ref CP) = some (.type "type"))
    (kitCPd : PySem.W.hasDictIn K CP = true)
    (kitCPs : PySem.W.subIn K (.ref C) (.ref CP) = some false)
    (kitCPn : ((Value.ref C) == (Value.ref CP)) = false)
    (kitPCt : PySem.W.typeIn K (.ref C) = some (.type "type"))
    (kitPCd : PySem.W.hasDictIn K C = true)
    (kitPCs : PySem.W.subIn K (.ref CP) (.ref C) = some false)
    (kitPCn : ((Value.ref CP) == (Value.ref C)) = false)
    (a1 : PySem.W.nsIn K mainGlobals "is_text" = some (some (.ref f1))) (l1 : K.lookup f1 = some ⟨oc1, od1, .func (PySem.W.fnOf "is_text" "is_text" (defArgs sIsText) (defBody sIsText) (defScope sIsText) .none kV1 dc1 pm1 an1 cd1 ct1), sl1⟩) (c1 : PySem.W.codeIn K cd1 "is_text" = true) (k1 : PySem.W.keepIn K (.ref f1) = true)
    (a2 : PySem.W.nsIn K mainGlobals "is_whole" = some (some (.ref f2))) (l2 : K.lookup f2 = some ⟨oc2, od2, .func (PySem.W.fnOf "is_whole" "is_whole" (defArgs sIsWhole) (defBody sIsWhole) (defScope sIsWhole) .none kV2 dc2 pm2 an2 cd2 ct2), sl2⟩) (c2 : PySem.W.codeIn K cd2 "is_whole" = true) (k2 : PySem.W.keepIn K (.ref f2) = true)
    (a3 : PySem.W.nsIn K mainGlobals "_is_sign" = some (some (.ref f3))) (l3 : K.lookup f3 = some ⟨oc3, od3, .func (PySem.W.fnOf "_is_sign" "_is_sign" (defArgs sIsSign) (defBody sIsSign) (defScope sIsSign) .none kV3 dc3 pm3 an3 cd3 ct3), sl3⟩) (c3 : PySem.W.codeIn K cd3 "_is_sign" = true) (k3 : PySem.W.keepIn K (.ref f3) = true)
    (a4 : PySem.W.nsIn K mainGlobals "done" = some (some (.ref f4))) (l4 : K.lookup f4 = some ⟨oc4, od4, .func (PySem.W.fnOf "done" "done" (defArgs sDone) (defBody sDone) (defScope sDone) .none kV4 dc4 pm4 an4 cd4 ct4), sl4⟩) (c4 : PySem.W.codeIn K cd4 "done" = true) (k4 : PySem.W.keepIn K (.ref f4) = true)
    (a5 : PySem.W.nsIn K mainGlobals "led" = some (some (.ref f5))) (l5 : K.lookup f5 = some ⟨oc5, od5, .func (PySem.W.fnOf "led" "led" (defArgs sLed) (defBody sLed) (defScope sLed) .none kV5 dc5 pm5 an5 cd5 ct5), sl5⟩) (c5 : PySem.W.codeIn K cd5 "led" = true) (k5 : PySem.W.keepIn K (.ref f5) = true)
    (a6 : PySem.W.nsIn K mainGlobals "_is_change" = some (some (.ref f6))) (l6 : K.lookup f6 = some ⟨oc6, od6, .func (PySem.W.fnOf "_is_change" "_is_change" (defArgs sIsChange) (defBody sIsChange) (defScope sIsChange) .none kV6 dc6 pm6 an6 cd6 ct6), sl6⟩) (c6 : PySem.W.codeIn K cd6 "_is_change" = true) (k6 : PySem.W.keepIn K (.ref f6) = true)
    (a7 : PySem.W.nsIn K mainGlobals "_law_cell_at" = some (some (.ref f7))) (l7 : K.lookup f7 = some ⟨oc7, od7, .func (PySem.W.fnOf "_law_cell_at" "_law_cell_at" (defArgs sCellAt) (defBody sCellAt) (defScope sCellAt) .none kV7 dc7 pm7 an7 cd7 ct7), sl7⟩) (c7 : PySem.W.codeIn K cd7 "_law_cell_at" = true) (k7 : PySem.W.keepIn K (.ref f7) = true)
    (a8 : PySem.W.nsIn K mainGlobals "_law_mixed" = some (some (.ref f8))) (l8 : K.lookup f8 = some ⟨oc8, od8, .func (PySem.W.fnOf "_law_mixed" "_law_mixed" (defArgs sMixed) (defBody sMixed) (defScope sMixed) .none kV8 dc8 pm8 an8 cd8 ct8), sl8⟩) (c8 : PySem.W.codeIn K cd8 "_law_mixed" = true) (k8 : PySem.W.keepIn K (.ref f8) = true)
    (a9 : PySem.W.nsIn K mainGlobals "_law_source" = some (some (.ref f9))) (l9 : K.lookup f9 = some ⟨oc9, od9, .func (PySem.W.fnOf "_law_source" "_law_source" (defArgs sSource) (defBody sSource) (defScope sSource) .none kV9 dc9 pm9 an9 cd9 ct9), sl9⟩) (c9 : PySem.W.codeIn K cd9 "_law_source" = true) (k9 : PySem.W.keepIn K (.ref f9) = true)
    (a10 : PySem.W.nsIn K mainGlobals "_law_next" = some (some (.ref f10))) (l10 : K.lookup f10 = some ⟨oc10, od10, .func (PySem.W.fnOf "_law_next" "_law_next" (defArgs sNext) (defBody sNext) (defScope sNext) .none kV10 dc10 pm10 an10 cd10 ct10), sl10⟩) (c10 : PySem.W.codeIn K cd10 "_law_next" = true) (k10 : PySem.W.keepIn K (.ref f10) = true)
    (a11 : PySem.W.nsIn K mainGlobals "_law_word" = some (some (.ref f11))) (l11 : K.lookup f11 = some ⟨oc11, od11, .func (PySem.W.fnOf "_law_word" "_law_word" (defArgs sLawWord) (defBody sLawWord) (defScope sLawWord) .none kV11 dc11 pm11 an11 cd11 ct11), sl11⟩) (c11 : PySem.W.codeIn K cd11 "_law_word" = true) (k11 : PySem.W.keepIn K (.ref f11) = true)
    (a12 : PySem.W.nsIn K mainGlobals "_law_due" = some (some (.ref f12))) (l12 : K.lookup f12 = some ⟨oc12, od12, .func (PySem.W.fnOf "_law_due" "_law_due" (defArgs sDue) (defBody sDue) (defScope sDue) .none kV12 dc12 pm12 an12 cd12 ct12), sl12⟩) (c12 : PySem.W.codeIn K cd12 "_law_due" = true) (k12 : PySem.W.keepIn K (.ref f12) = true)
    (a13 : PySem.W.nsIn K mainGlobals "_law_refused_right" = some (some (.ref f13))) (l13 : K.lookup f13 = some ⟨oc13, od13, .func (PySem.W.fnOf "_law_refused_right" "_law_refused_right" (defArgs sLawRefusedRight) (defBody sLawRefusedRight) (defScope sLawRefusedRight) .none kV13 dc13 pm13 an13 (.ref cc) ct13), sl13⟩) (c13 : PySem.W.codeIn K (.ref cc) "_law_refused_right" = true) (k13 : PySem.W.keepIn K (.ref f13) = true)
    (a14 : PySem.W.nsIn K mainGlobals "law" = some (some (.ref f14))) (l14 : K.lookup f14 = some ⟨oc14, od14, .func (PySem.W.fnOf "law" "law" (defArgs sLaw) (defBody sLaw) (defScope sLaw) .none kV14 dc14 pm14 an14 cd14 ct14), sl14⟩) (c14 : PySem.W.codeIn K cd14 "law" = true) (k14 : PySem.W.keepIn K (.ref f14) = true)
    (lcc : K.lookup cc = some ⟨.type "code", ec, .fields vsc, slc⟩) (v11 : vsc[11]? = some (.ref PT)) (nPT : K.lookup PT = none) (hCH : PySem.W.codeHdIn K cc PT = true)
    (z1 : PySem.W.nsIn K mainGlobals "isinstance" = some none) (z2 : PySem.W.nsIn K mainGlobals "int" = some none) (z3 : PySem.W.nsIn K mainGlobals "bool" = some none) (z4 : PySem.W.nsIn K mainGlobals "str" = some none) (z5 : PySem.W.nsIn K mainGlobals "list" = some none) (z6 : PySem.W.nsIn K mainGlobals "tuple" = some none) (z7 : PySem.W.nsIn K mainGlobals "all" = some none) (z8 : PySem.W.nsIn K mainGlobals "ord" = some none) (z9 : PySem.W.nsIn K mainGlobals "len" = some none) (z10 : PySem.W.nsIn K mainGlobals "range" = some none) (z11 : PySem.W.nsIn K mainGlobals "max" = some none) (z12 : PySem.W.nsIn K mainGlobals "min" = some none) (v1 : PySem.W.nsIn K mainGlobals "PERCENT" = some (some (.int 37 tk1))) :
    LamX.LawAtS l w K CX0 9 63 "_law_script" mg fa h := by
  have e := hfa.symm.trans (PySem.W.mg_of X G a14)
  cases e
  have m_ValueError : mg "ValueError" = none := PySem.W.mg_none_of X G zVE
  have m_LetterError := PySem.W.mg_of X G gL
  have FL : FunA K "LetterError.__init__" sLE [.str ""] fL _ := ⟨⟨_, _, _, _, _, _, _, _, _, _, rfl, lL, cL, .inr ⟨by simp, TL, _, [.str ("" : Str) tkL], nTL, rfl, dL, rfl, .cons ⟨tkL, rfl⟩ .nil⟩, .inl rfl⟩, kL⟩
  have TLc : ClsFn K CL fL := ⟨gaL, rdL, atL, kL⟩
  have m_NoChange := PySem.W.mg_of X G gC
  have OC : OexC K C := ⟨⟨nmC, qC, NC, bsC, bmC, snC, subC, abC, colC, ddC, m0C, m1C, m2C, m3C, m5C, xC, rvC⟩, saC, exC, tyC, kcC⟩
  have ECC : ExcC K C := ⟨hgC, hkC, exC, hdC, haC, hn0, ht0, hmC⟩
  have teC : PySem.W.exmOne K (.ref C) (.ref CL) = some true := PySem.W.exm_ref exL hdL tyL suC
  have XFC : XfC K C := ⟨hgC, hkC, exC, hdC⟩
  have m_NoPlace := PySem.W.mg_of X G gCP
  have OCP : OexC K CP := ⟨⟨nmCP, qCP, NCP, bsCP, bmCP, snCP, subCP, abCP, colCP, ddCP, m0CP, m1CP, m2CP, m3CP, m5CP, xCP, rvCP⟩, saCP, exCP, tyCP, kcCP⟩
  have ECCP : ExcC K CP := ⟨hgCP, hkCP, exCP, hdCP, haCP, hn0, ht0, hmCP⟩
  have teCP : PySem.W.exmOne K (.ref CP) (.ref CL) = some true := PySem.W.exm_ref exL hdL tyL suCP
  have XFCP : XfC K CP := ⟨hgCP, hkCP, exCP, hdCP⟩
  have m_NoText := PySem.W.mg_of X G gCT
  have OCT : OexC K CT := ⟨⟨nmCT, qCT, NCT, bsCT, bmCT, snCT, subCT, abCT, colCT, ddCT, m0CT, m1CT, m2CT, m3CT, m5CT, xCT, rvCT⟩, saCT, exCT, tyCT, kcCT⟩
  have ECCT : ExcC K CT := ⟨hgCT, hkCT, exCT, hdCT, haCT, hn0, ht0, hmCT⟩
  have teCT : PySem.W.exmOne K (.ref CT) (.ref CL) = some true := PySem.W.exm_ref exL hdL tyL suCT
  have XFCT : XfC K CT := ⟨hgCT, hkCT, exCT, hdCT⟩
  have kitCC : PySem.W.kitOne K (.ref C) (.ref C) = some true := kit_same
  have kitCP : PySem.W.kitOne K (.ref C) (.ref CP) = some false := kit_own kitCPn kitCPt kitCPd kitCPs
  have kitPC : PySem.W.kitOne K (.ref CP) (.ref C) = some false := kit_own kitPCn kitPCt kitPCd kitPCs
  have kitPP : PySem.W.kitOne K (.ref CP) (.ref CP) = some true := kit_same
  have A1 : FnAt K mg "is_text" sIsText := ⟨f1, _, fun_mk (st := sIsText) l1 c1 k1, PySem.W.mg_of X G a1⟩
  have A2 : FnAt K mg "is_whole" sIsWhole := ⟨f2, _, fun_mk (st := sIsWhole) l2 c2 k2, PySem.W.mg_of X G a2⟩
  have A3 : FnAt K mg "_is_sign" sIsSign := ⟨f3, _, fun_mk (st := sIsSign) l3 c3 k3, PySem.W.mg_of X G a3⟩
  have A4 : FnAt K mg "done" sDone := ⟨f4, _, fun_mk (st := sDone) l4 c4 k4, PySem.W.mg_of X G a4⟩
  have A5 : FnAt K mg "led" sLed := ⟨f5, _, fun_mk (st := sLed) l5 c5 k5, PySem.W.mg_of X G a5⟩
  have A6 : FnAt K mg "_is_change" sIsChange := ⟨f6, _, fun_mk (st := sIsChange) l6 c6 k6, PySem.W.mg_of X G a6⟩
  have A7 : FnAt K mg "_law_cell_at" sCellAt := ⟨f7, _, fun_mk (st := sCellAt) l7 c7 k7, PySem.W.mg_of X G a7⟩
  have A8 : FnAt K mg "_law_mixed" sMixed := ⟨f8, _, fun_mk (st := sMixed) l8 c8 k8, PySem.W.mg_of X G a8⟩
  have A9 : FnAt K mg "_law_source" sSource := ⟨f9, _, fun_mk (st := sSource) l9 c9 k9, PySem.W.mg_of X G a9⟩
  have A10 : FnAt K mg "_law_next" sNext := ⟨f10, _, fun_mk (st := sNext) l10 c10 k10, PySem.W.mg_of X G a10⟩
  have A11 : FnAt K mg "_law_word" sLawWord := ⟨f11, _, fun_mk (st := sLawWord) l11 c11 k11, PySem.W.mg_of X G a11⟩
  have A12 : FnAt K mg "_law_due" sDue := ⟨f12, _, fun_mk (st := sDue) l12 c12 k12, PySem.W.mg_of X G a12⟩
  have A13 : FnAt K mg "_law_refused_right" sLawRefusedRight := ⟨f13, _, fun_mk (st := sLawRefusedRight) l13 c13 k13, PySem.W.mg_of X G a13⟩
  have F14 := fun_mk (st := sLaw) l14 c14 k14
  have m_isinstance : mg "isinstance" = none := PySem.W.mg_none_of X G z1
  have m_int : mg "int" = none := PySem.W.mg_none_of X G z2
  have m_bool : mg "bool" = none := PySem.W.mg_none_of X G z3
  have m_str : mg "str" = none := PySem.W.mg_none_of X G z4
  have m_list : mg "list" = none := PySem.W.mg_none_of X G z5
  have m_tuple : mg "tuple" = none := PySem.W.mg_none_of X G z6
  have m_all : mg "all" = none := PySem.W.mg_none_of X G z7
  have m_ord : mg "ord" = none := PySem.W.mg_none_of X G z8
  have m_len : mg "len" = none := PySem.W.mg_none_of X G z9
  have m_range : mg "range" = none := PySem.W.mg_none_of X G z10
  have m_max : mg "max" = none := PySem.W.mg_none_of X G z11
  have m_min : mg "min" = none := PySem.W.mg_none_of X G z12
  have m_PERCENT := PySem.W.mg_of X G v1
  have hot := OT f13 (PySem.W.mg_of X G a13) cc PT _ _ _ _ _ _ l13 rfl rfl lcc v11
  refine ⟨PySem.W.fnOf "law" "law" (defArgs sLaw) (defBody sLaw) (defScope sLaw) .none kV14 dc14 pm14 an14 cd14 ct14, [(cc, PT)], spLaw77 PT K, fun p hp => by rw [List.mem_singleton.mp hp]; exact hot, fun p hp => by rw [List.mem_singleton.mp hp]; exact nPT, fun p hp => by rw [List.mem_singleton.mp hp]; exact PySem.W.codeHd_of_K X hCH, fun s v => .of_eq rfl,
    fun H a ns hl hb ht hS => ⟨a, ns, rfl, hS, fun p hp => by rw [List.mem_singleton.mp hp]; exact LamX.TabS.nil (ht _ (List.mem_singleton.mpr rfl)), fun _ => rfl⟩, fun base _ _ hTB => ?_⟩
  have TB : LamX.TabB base mg cc PT := hTB _ (List.mem_singleton.mpr rfl)
  have MC : MkN l.prog w K mg base "NoChange" C := ⟨OC, m_NoChange, fL, _, iC, tifL, ok_LE FL m_ValueError vV, bind_LE FL⟩
  have MCP : MkN l.prog w K mg base "NoPlace" CP := ⟨OCP, m_NoPlace, fL, _, iCP, tifL, ok_LE FL m_ValueError vV, bind_LE FL⟩
  have MCT : MkN l.prog w K mg base "NoText" CT := ⟨OCT, m_NoText, fL, _, iCT, tifL, ok_LE FL m_ValueError vV, bind_LE FL⟩
  have F13 := fun_mk (st := sLawRefusedRight) l13 c13 k13
  have R1 := r_is_whole (P := l.prog) (w := w) (base := base) A2 m_isinstance m_int m_bool
  have R6 := r_is_sign (P := l.prog) (w := w) (base := base) A3 m_ord m_PERCENT
  have R7 := r_is_text A1 R6 m_isinstance m_str m_all
  have R8 := r_is_change A6 R1 R7 m_isinstance m_len m_tuple
  have Y1 := x_led MC MCP A5 R8 R1 m_len
  have Y2 := x_done MC MCT A4 R7 R8 m_len
  have W1 := r_cell_at (P := l.prog) (w := w) (base := base) A7 m_len
  have W2 := r_mixed (P := l.prog) (w := w) (base := base) A8
  have W3 := r_source A9 W1 W2 m_len
  have W4 := r_next A10 W2
  have TC : Caught77 K mg C CP CL := ⟨m_NoChange, m_NoPlace, m_LetterError, teC, teCP, ECC, ECCP, kitCC, kitCP, kitPC, kitPP, kit_ve suVC, kit_ve suVP⟩
  have W5 := r_due77 (P := l.prog) (w := w) (base := base) A12 m_len
  have W6 := r_refused_right (P := l.prog) (w := w) TC F13 rfl TB A11 Y1 (next_m W4) m_isinstance m_int m_ValueError
  have W7 : Ready l.prog w K mg base 8 "_law_refused_right" ["_law_source_here", "_law_begin", "_law_end"] (spRef77 PT) := ⟨f13, _, PySem.W.mg_of X G a13, k13, F13.binds (fun _ _ _ _ _ _ us hl => match us, hl with | [_, _, _], _ => rfl), W6⟩
  exact ok_law77 (CT := CT) (CL := CL) F14 W3 (next_m W4) Y2 Y1 W5 W7 m_len m_range m_max m_min m_list m_isinstance m_bool
end FL
open PySem PySem.W PyProof.Rows
set_option maxRecDepth 100000 in
set_option maxHeartbeats 8000000 in
theorem PySem.Challenge.cw_foldletter_k77_places_led_holds : PySem.Challenge.rw_foldletter_k77_places_led.Holds := by
  w_on; o_law; k_head; (case hw => w_witness2)
  k_fill
  refine FL.walk_ofTab "_law_refused_right" (ol := PySem.Challenge.rw_foldletter_k77_places_led) (most := 63) (lev := 9) (arg := "_law_script") (CC := fun _ => L2.CX0) rfl (by decide) rfl ⟨rfl, by decide, by decide⟩ (by first | rfl | decide +kernel) (fun w h Y => PySem.W.km_in_of Y) ?F (fun _ _ _ _ _ h => h)
  case F =>
    intro w mg fa h _ KX G hmg OT
    refine' FL.all_mk KX G hmg OT ?gL ?iL ?lL ?cL ?kL ?dL ?gaL ?rdL ?atL ?vV ?zVE ?exL ?hdL ?tyL ?tifL ?gC ?xC ?rvC ?saC ?exC ?tyC ?kcC ?iC ?hgC ?hkC ?hdC ?haC ?hmC ?suC ?gCP ?xCP ?rvCP ?saCP ?exCP ?tyCP ?kcCP ?iCP ?hgCP ?hkCP ?hdCP ?haCP ?hmCP ?suCP ?gCT ?xCT ?rvCT ?saCT ?exCT ?tyCT ?kcCT ?iCT ?hgCT ?hkCT ?hdCT ?haCT ?hmCT ?suCT ?hn0 ?ht0 ?suVC ?suVP ?kitCPt ?kitCPd ?kitCPs ?kitCPn ?kitPCt ?kitPCd ?kitPCs ?kitPCn ?a1 ?l1 ?c1 ?k1 ?a2 ?l2 ?c2 ?k2 ?a3 ?l3 ?c3 ?k3 ?a4 ?l4 ?c4 ?k4 ?a5 ?l5 ?c5 ?k5 ?a6 ?l6 ?c6 ?k6 ?a7 ?l7 ?c7 ?k7 ?a8 ?l8 ?c8 ?k8 ?a9 ?l9 ?c9 ?k9 ?a10 ?l10 ?c10 ?k10 ?a11 ?l11 ?c11 ?k11 ?a12 ?l12 ?c12 ?k12 ?a13 ?l13 ?c13 ?k13 ?a14 ?l14 ?c14 ?k14 ?lcc ?v11 ?nPT ?hCH ?z1 ?z2 ?z3 ?z4 ?z5 ?z6 ?z7 ?z8 ?z9 ?z10 ?z11 ?z12 ?v1
    (case gL => k_is); (case iL => k_is); (case lL => k_is); (case cL => k_is); (case kL => k_is); (case dL => k_is); (case gaL => k_is); (case rdL => k_is); (case atL => k_is); (case vV => k_is); (case zVE => k_is); (case exL => k_is); (case hdL => k_is); (case tyL => k_is); (case tifL => k_is); (case gC => k_is); (case xC => k_is); (case rvC => first | rfl | k_is); (case saC => k_is); (case exC => k_is); (case tyC => k_is); (case kcC => k_is); (case iC => k_is); (case hgC => k_is); (case hkC => k_is); (case hdC => k_is); (case haC => k_is); (case hmC => k_is); (case suC => k_is); (case gCP => k_is); (case xCP => k_is); (case rvCP => first | rfl | k_is); (case saCP => k_is); (case exCP => k_is); (case tyCP => k_is); (case kcCP => k_is); (case iCP => k_is); (case hgCP => k_is); (case hkCP => k_is); (case hdCP => k_is); (case haCP => k_is); (case hmCP => k_is); (case suCP => k_is); (case gCT => k_is); (case xCT => k_is); (case rvCT => first | rfl | k_is); (case saCT => k_is); (case exCT => k_is); (case tyCT => k_is); (case kcCT => k_is); (case iCT => k_is); (case hgCT => k_is); (case hkCT => k_is); (case hdCT => k_is); (case haCT => k_is); (case hmCT => k_is); (case suCT => k_is); (case hn0 => k_is); (case ht0 => k_is); (case suVC => k_is); (case suVP => k_is); (case kitCPt => k_is); (case kitCPd => k_is); (case kitCPs => k_is); (case kitCPn => first | rfl | k_is); (case kitPCt => k_is); (case kitPCd => k_is); (case kitPCs => k_is); (case kitPCn => first | rfl | k_is); (case a1 => k_is); (case l1 => k_is); (case c1 => k_is); (case k1 => k_is); (case a2 => k_is); (case l2 => k_is); (case c2 => k_is); (case k2 => k_is); (case a3 => k_is); (case l3 => k_is); (case c3 => k_is); (case k3 => k_is); (case a4 => k_is); (case l4 => k_is); (case c4 => k_is); (case k4 => k_is); (case a5 => k_is); (case l5 => k_is); (case c5 => k_is); (case k5 => k_is); (case a6 => k_is); (case l6 => k_is); (case c6 => k_is); (case k6 => k_is); (case a7 => k_is); (case l7 => k_is); (case c7 => k_is); (case k7 => k_is); (case a8 => k_is); (case l8 => k_is); (case c8 => k_is); (case k8 => k_is); (case a9 => k_is); (case l9 => k_is); (case c9 => k_is); (case k9 => k_is); (case a10 => k_is); (case l10 => k_is); (case c10 => k_is); (case k10 => k_is); (case a11 => k_is); (case l11 => k_is); (case c11 => k_is); (case k11 => k_is); (case a12 => k_is); (case l12 => k_is); (case c12 => k_is); (case k12 => k_is); (case a13 => k_is); (case l13 => k_is); (case c13 => k_is); (case k13 => k_is); (case a14 => k_is); (case l14 => k_is); (case c14 => k_is); (case k14 => k_is); (case lcc => k_is); (case v11 => first | rfl | decide +kernel); (case nPT => first | rfl | k_is | decide +kernel); (case hCH => first | k_is | rfl | decide +kernel); (case z1 => k_is); (case z2 => k_is); (case z3 => k_is); (case z4 => k_is); (case z5 => k_is); (case z6 => k_is); (case z7 => k_is); (case z8 => k_is); (case z9 => k_is); (case z10 => k_is); (case z11 => k_is); (case z12 => k_is); (case v1 => k_is)
