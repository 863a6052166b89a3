import PyProof.Rows.All
import Wide.All
import OpenK.AllK
import Wide.FinOn
import HandS.ForMost
import HandS.Wide
import HandS.WideBits
import HandS.Zip
import HandS.Walk
import HandS.IsInst
import HandS.Defaults
import KE.GoesEnum
import HandS.Codes
import HandS.Style
import HandS.SortInts
import HandS.Replace
import HandS.Conv
import PyProof.ReprRoads
import HandS.RaiseMore
import HandS.AnyAll
import KE.DataMinMax
import KE.DataFind
import KE.KDictList
import HandS.ReplaceLit
import PyProof.Rows.RegReprOcc
import PyProof.StrLawsRepr
import KE.DataEq
import HandS.NoneIn
import PyProof.Rows.SortShellAny
import HandS.More
import HandS.TupLe
import HandS.ExcInit
import HandS.ExcField
import HandS.ExcIs
import KE.KExcIs
import HandS.ExcOwn
import HandS.ExcValue
import HandS.DeepEq
import PySem.Challenge.RW_sideswaps_k05_errors_by_their_classes
set_option Elab.async false
set_option linter.all false
set_option maxRecDepth 100000
set_option maxHeartbeats 4000000
/-! Own rules over the hand layer: a great power, zip of two texts, enumerate of a text. -/
namespace Sw
open PySem PySem.Spec PyProof.Rows L2
/-- a ** n while the answer stays small enough -/
def CPowW (i j : Int) : Prop := 0 ≤ j ∧ (Builtin.Int.intBits i : Int) * j ≤ 2 ^ 27
theorem op_powW {X : Cx} : OpR X (binaryOp .Pow) (rI CPowW fun i j => .int (i ^ j.toNat)) :=
  opI fun _ _ _ _ _ _ _ hc q => pow_int hc.1 hc.2 q

/-! ### two texts side by side -/
/-- new pairs of the signs of x and y that stand at one place -/
def Itzs (x y : Str) : It :=
  ⟨fun i _ => i < min x.cps.size y.cps.size,
   fun i H v H' => ∃ T c d, v = .ref T ∧ H T = none ∧ H' = upd H T (.tup [.str ⟨#[c]⟩, .str ⟨#[d]⟩]) ∧ x.cps[i]? = some c ∧ y.cps[i]? = some d,
   fun i _ => min x.cps.size y.cps.size ≤ i⟩
theorem turn_zipS {P : Program} {w : World} {K : PySem.W.Frag} {elts : List Expr} {kk : Nat} {tpos : Pos} {z TI TO i1 i2 : Addr} (x y : Str) (t u : Tok) (S : ZipSep2 z TI TO i1 i2 [i1] [i2]) :
    Turn P w K (.Tuple elts kk tpos) (Itzs x y) [z, TI, TO, i1, i2] z
      (fun i h => i ≤ min x.cps.size y.cps.size ∧ IsZip h z TI TO .none ∧ IsTupOf2 h TI (.ref i1) (.ref i2) ∧ (∃ a b, IsTupOf2 h TO a b) ∧ h.IsStrIter i1 (strIterType x) x t i ∧ h.IsStrIter i2 (strIterType y) y u i) where
  mem := by simp
  obj := fun i h st c hc => by
    obtain ⟨_, hz, hTI, ⟨a, b, hTO⟩, ⟨o1, e1, _, d1⟩, ⟨o2, e2, _, d2⟩⟩ := st
    have cs : c = z ∨ c = TI ∨ c = TO ∨ c = i1 ∨ c = i2 := by simpa using hc
    rcases cs with rfl | rfl | rfl | rfl | rfl
    · exact ⟨_, hz, fun v q => by cases q⟩
    · exact ⟨_, hTI, fun v q => by cases q⟩
    · exact ⟨_, hTO, fun v q => by cases q⟩
    · exact ⟨o1, e1, fun v q => by rw [d1] at q; cases q⟩
    · exact ⟨o2, e2, fun v q => by rw [d2] at q; cases q⟩
  keep := fun i h h' st k => by
    obtain ⟨hle, hz, hTI, ⟨a, b, hTO⟩, h1, h2⟩ := st
    refine ⟨hle, k z (by simp) _ hz, k TI (by simp) _ hTI, ⟨a, b, k TO (by simp) _ hTO⟩, ?_, ?_⟩
    · obtain ⟨o, ho, r⟩ := h1; exact ⟨o, k i1 (by simp) o ho, r⟩
    · obtain ⟨o, ho, r⟩ := h2; exact ⟨o, k i2 (by simp) o ho, r⟩
  item := by
    intro X hP hw hK hc i pins s σ H E I hf st hg
    subst hP hw hK
    obtain ⟨hle, hz, hTI, ⟨a, b, hTO⟩, h1, h2⟩ := st
    have hg' : i < min x.cps.size y.cps.size := hg
    have hx : i < x.cps.size := by omega
    have hy : i < y.cps.size := by omega
    have hh := I.ok.hd hc
    have D1 := Draws.text (prog := X.prog) (w := X.w) (A := X.A.in1) hh i1 x t
    have D2 := Draws.text (prog := X.prog) (w := X.w) (A := X.A.in1) hh i2 y u
    have hzl : z < s.heap.objs.size := Heap.lt_size hz
    refine wpAny_pyNext_zipD2_item S D1 D2 hz hTI hTO h1 h2 hx hy fun v1 v2 h' tk p1 p2 z' TO' h1' h2' hT hsz hk => ?_
    obtain ⟨c, t1, hc1, rfl⟩ := p1
    obtain ⟨d, t2, hd1, rfl⟩ := p2
    refine ⟨_, rfl, wpAny_letOwnedTupleGo_zip (s := { s with heap := h', toks := tk }) z' fun h'' z'' sb => ?_⟩
    have hT2 := (sb.2 _ (Nat.ne_of_gt hzl)).trans hT
    have new : ObjOk X.prog X.w (upd H s.heap.objs.size (.tup [.str ⟨#[c]⟩, .str ⟨#[d]⟩])) h'' s.heap.objs.size (.tup [.str ⟨#[c]⟩, .str ⟨#[d]⟩]) :=
      ⟨by show 2 ≤ sizeLine; decide, [.str ⟨#[c]⟩ t1, .str ⟨#[d]⟩ t2], .cons ⟨_, rfl⟩ (.cons ⟨_, rfl⟩ .nil), ⟨_, hT2, rfl, _, rfl⟩⟩
    have off : ∀ {c : Addr}, c ∉ [z, TI, TO, i1, i2] → c ≠ z ∧ c ≠ TO ∧ c ≠ i1 ∧ c ≠ i2 := fun {c} hb => by
      simp only [List.mem_cons, List.not_mem_nil, or_false, not_or] at hb
      exact ⟨hb.1, hb.2.2.1, hb.2.2.2.1, hb.2.2.2.2⟩
    have I1 := I.turnedNew (h' := h'') (t' := tk) (ch := [z, TI, TO, i1, i2]) (fun c o hb q => by
      obtain ⟨n1, n2, n3, n4⟩ := off hb
      exact (sb.2 c n1).trans (hk c o n1 n2 n3 n4 q)) hf (Nat.le_refl _) new
    refine ⟨.ref s.heap.objs.size, _, I1, rfl, ⟨_, c, d, rfl, I.hok.fresh (Nat.le_refl _), rfl, hc1, hd1⟩, ⟨by omega, z'', ?_, ⟨_, _, (sb.2 _ S.TOz).trans TO'⟩, ?_, ?_⟩, fun c hcm => ?_⟩
    · exact (sb.2 _ S.TIz).trans (hk _ _ S.TIz S.TITO S.TIi1 S.TIi2 hTI)
    · obtain ⟨o, ho, r⟩ := h1'; exact ⟨o, (sb.2 _ (fun e => S.zi1 e.symm)).trans ho, r⟩
    · obtain ⟨o, ho, r⟩ := h2'; exact ⟨o, (sb.2 _ (fun e => S.zi2 e.symm)).trans ho, r⟩
    · have hlt : c < s.heap.objs.size := by
        have cs : c = z ∨ c = TI ∨ c = TO ∨ c = i1 ∨ c = i2 := by simpa using hcm
        rcases cs with rfl | rfl | rfl | rfl | rfl
        · exact hzl
        · exact Heap.lt_size hTI
        · exact Heap.lt_size hTO
        · obtain ⟨_, e1, _⟩ := h1; exact Heap.lt_size e1
        · obtain ⟨_, e2, _⟩ := h2; exact Heap.lt_size e2
      rw [upd_ne (Nat.ne_of_lt hlt)]
      exact (hf c hcm).1
  done := by
    intro X hP hw hK hc i pins s σ H E I hf st hg
    subst hP hw hK
    obtain ⟨hle, hz, hTI, ⟨a, b, hTO⟩, h1, h2⟩ := st
    have hg' : min x.cps.size y.cps.size ≤ i := hg
    have hh := I.ok.hd hc
    have D1 := Draws.text (prog := X.prog) (w := X.w) (A := X.A.in1) hh i1 x t
    have D2 := Draws.text (prog := X.prog) (w := X.w) (A := X.A.in1) hh i2 y u
    refine wpAny_pyNext_zipD2_end S D1 D2 hz hTI hTO h1 h2 (by omega) (by omega) (by omega) fun h' tk hk => ⟨rfl, I.turnedL (t' := tk) (ch := [z, TI, TO, i1, i2]) (fun c o hb q => ?_) hf⟩
    simp only [List.mem_cons, List.not_mem_nil, or_false, not_or] at hb
    exact hk c o hb.1 hb.2.2.1 hb.2.2.2.1 hb.2.2.2.2 q
  self := fun A i s Q E st h => wpAny_pyIter_zip st.2.1 h
def iZipS (ta : TA) : TI := fun σ H R => ta σ H fun vs H1 => ∃ x y, vs = [.str x, .str y] ∧ R (Itzs x y) H1
theorem pi_zipS {X : Cx} {e e2 : Expr} {ta : TA} {p pos tpos : Pos} {elts : List Expr} {kk : Nat} (hg : Gl X "zip") (hm : X.mg "zip" = none) (ha : PA X [e, e2] ta)
    (hs : starEach [e, e2] X.env = (false, eval e X.env) :: starEach [e2] X.env := by rfl) (hpl : (backTo pos (starEach [e2] X.env)).any (·.1) = false := by rfl) :
    PI X (.Tuple elts kk tpos) (.Call (.Name "zip" p) [e, e2] [] pos) (iZipS ta) := by
  refine ⟨fun pins s σ H R I h => ?_⟩
  refine Call_ (ld_blt I hg hm PyProof.Rows.boot_zip (PyProof.Rows.callWith_type1 (thn (ha.run pos pins s σ H _ I h) fun us s1 ⟨vs, H1, I1, r1, q1⟩ => ?_) hs hpl))
  obtain ⟨x, y, ex, q⟩ := q1
  subst ex
  cases r1 with
  | cons r rr =>
    cases rr with
    | cons r' rr =>
    cases rr
    obtain ⟨t, rfl⟩ := r
    obtain ⟨u, rfl⟩ := r'
    refine zip_begins2 (begins_text x t) (begins_text y u) trivial trivial fun h' hz hTI hTO h1 h2 hsz hk => wpAny_pyIter_zip hz ?_
    have I2 : Inv X pins σ H1 { s1 with heap := h' } := I1.kept (t' := s1.toks) hk
    refine ⟨s1.heap.objs.size + 4, [s1.heap.objs.size + 4, s1.heap.objs.size + 2, s1.heap.objs.size + 3, s1.heap.objs.size, s1.heap.objs.size + 1], _, _, H1, rfl, I2,
      turn_zipS x y t u (zip_sep2 (by simp) (by simp)), ⟨Nat.zero_le _, hz, hTI, ⟨_, _, hTO⟩, ⟨_, h1, rfl, rfl⟩, ⟨_, h2, rfl, rfl⟩⟩, fun c hcm => ?_, q⟩
    have hle : s1.heap.objs.size ≤ c := by
      have cs : c = s1.heap.objs.size + 4 ∨ c = s1.heap.objs.size + 2 ∨ c = s1.heap.objs.size + 3 ∨ c = s1.heap.objs.size ∨ c = s1.heap.objs.size + 1 := by simpa using hcm
      rcases cs with e | e | e | e | e <;> rw [e] <;> first | exact Nat.le_refl _ | exact Nat.le_add_right _ _
    exact I1.fpOk hle (I1.hok.fresh hle)
/-- its turns -/
theorem walk_zipS {x y : Str} : Walk (Itzs x y) (min x.cps.size y.cps.size) (fun _ => True) (YPair (fun i => (x.cps[i]?).map fun c => V.str ⟨#[c]⟩) (fun i => (y.cps[i]?).map fun c => V.str ⟨#[c]⟩)) :=
  ⟨fun _ _ hi _ => hi, fun _ _ => Nat.le_refl _, fun i H v H' _ _ yy => by
    obtain ⟨T, c, d, h1, h2, h3, h4, h5⟩ := yy
    exact ⟨T, _, _, h1, h2, h3, by simp [h4], by simp [h5]⟩⟩

/-! ### a text by its places -/
def Ites (x : Str) : It :=
  ⟨fun i _ => i < x.cps.size, fun i H v H' => ∃ T c, v = .ref T ∧ H T = none ∧ H' = upd H T (.tup [.int (i : Nat), .str ⟨#[c]⟩]) ∧ x.cps[i]? = some c, fun i _ => x.cps.size ≤ i⟩
theorem turn_enumS {P : Program} {w : World} {K : PySem.W.Frag} {elts : List Expr} {kk : Nat} {tpos : Pos} (e it : Addr) (x : Str) (t : Tok) (hei : e ≠ it) :
    Turn P w K (.Tuple elts kk tpos) (Ites x) [e, it] e (fun i h => i ≤ x.cps.size ∧ (∃ old, IsEnum h e it ((i : Nat) : Int) old) ∧ h.IsStrIter it (strIterType x) x t i) where
  mem := by simp
  obj := fun i h st b hb => by
    obtain ⟨_, ⟨old, he⟩, ⟨o, ho, hc, hd⟩⟩ := st
    have cs : b = e ∨ b = it := by simpa using hb
    rcases cs with rfl | rfl
    · exact ⟨_, he, fun v q => by cases q⟩
    · exact ⟨o, ho, fun v q => by rw [hd] at q; cases q⟩
  keep := fun i h h' st k => by
    obtain ⟨hle, ⟨old, he⟩, ⟨o, ho, r⟩⟩ := st
    exact ⟨hle, ⟨old, k e (by simp) _ he⟩, ⟨o, k it (by simp) o ho, r⟩⟩
  item := by
    intro X hP hw hK hc i pins s σ H E I hf st hg
    subst hP hw hK
    obtain ⟨hle, ⟨old, he⟩, hit⟩ := st
    have hg' : i < x.cps.size := hg
    have D := Draws.text (prog := X.prog) (w := X.w) (A := X.A.in1) (I.ok.hd hc) it x t
    have hel : e < s.heap.objs.size := Heap.lt_size he
    have hil : it < s.heap.objs.size := by obtain ⟨_, q, _⟩ := hit; exact Heap.lt_size q
    have hei2 : e ∉ [it] := by simpa using hei
    refine wpAny_pyNext_enum_itemD D he hit hg' hei hei2 fun v h' tk p ho hit' hT hsz hk => ?_
    obtain ⟨c, t1, hc1, rfl⟩ := p
    refine ⟨_, rfl, wpAny_letOwnedTupleGo_enum (s := { s with heap := h', toks := tk + 1 }) ho fun h'' he' sb => ?_⟩
    have hT2 := (sb.2 _ (Nat.ne_of_gt hel)).trans hT
    have new : ObjOk X.prog X.w (upd H s.heap.objs.size (.tup [.int (i : Nat), .str ⟨#[c]⟩])) h'' s.heap.objs.size (.tup [.int (i : Nat), .str ⟨#[c]⟩]) :=
      ⟨by show 2 ≤ sizeLine; decide, [.int i tk, .str ⟨#[c]⟩ t1], .cons ⟨_, rfl⟩ (.cons ⟨_, rfl⟩ .nil), ⟨_, hT2, rfl, _, rfl⟩⟩
    have I1 := I.turnedNew (h' := h'') (t' := tk + 1) (ch := [e, it]) (fun b ob hb q => by
      simp only [List.mem_cons, List.not_mem_nil, or_false, not_or] at hb
      exact (sb.2 b hb.1).trans (hk b ob hb.1 hb.2 q)) hf (Nat.le_refl _) new
    refine ⟨.ref s.heap.objs.size, _, I1, rfl, ⟨_, c, rfl, I.hok.fresh (Nat.le_refl _), rfl, hc1⟩, ⟨by omega, ⟨.str ⟨#[c]⟩ t1, ?_⟩, ?_⟩, fun b hb => ?_⟩
    · have e1 : ((i + 1 : Nat) : Int) = (i : Int) + 1 := by omega
      rw [e1]; exact he'
    · obtain ⟨o, ho', r⟩ := hit'; exact ⟨o, (sb.2 it (Ne.symm hei)).trans ho', r⟩
    · have hb' : b < s.heap.objs.size := by
        have cs : b = e ∨ b = it := by simpa using hb
        rcases cs with rfl | rfl
        · exact hel
        · exact hil
      rw [upd_ne (Nat.ne_of_lt hb')]
      exact (hf b hb).1
  done := by
    intro X hP hw hK hc i pins s σ H E I hf st hg
    subst hP hw hK
    obtain ⟨hle, ⟨old, he⟩, hit⟩ := st
    have hg' : x.cps.size ≤ i := hg
    have ei : i = x.cps.size := Nat.le_antisymm hle hg'
    subst ei
    have D := Draws.text (prog := X.prog) (w := X.w) (A := X.A.in1) (I.ok.hd hc) it x t
    obtain ⟨f0, f1, f2, f3, f4, f5⟩ := hf it (by simp)
    exact wpAny_pyNext_enum_endD D he hit fun h' eb => ⟨rfl, I.turned (t' := s.toks) (fun b o hb q => eb b o hb q) f0 f1 f3 f4 f5⟩
  self := fun A i s Q E st h => by
    obtain ⟨_, ⟨old, he⟩, _⟩ := st
    exact wpAny_pyIter_enum he h
def iEnumS (ta : TA) : TI := fun σ H R => ta σ H fun vs H1 => ∃ x, vs = [.str x] ∧ R (Ites x) H1
theorem pi_enumS {X : Cx} {e : Expr} {ta : TA} {p pos tpos : Pos} {elts : List Expr} {kk : Nat} (hg : Gl X "enumerate") (hm : X.mg "enumerate" = none) (ha : PA X [e] ta) (hs : starEach [e] X.env = [(false, eval e X.env)] := by rfl) :
    PI X (.Tuple elts kk tpos) (.Call (.Name "enumerate" p) [e] [] pos) (iEnumS ta) := by
  refine ⟨fun pins s σ H R I h => ?_⟩
  refine Call_ (ld_blt I hg hm boot_enumerate (PyProof.Rows.callWith_type1 (thn (ha.run pos pins s σ H _ I h) fun us s1 ⟨vs, H1, I1, r1, q1⟩ => ?_) hs rfl))
  obtain ⟨x, ex, q⟩ := q1
  subst ex
  cases r1 with
  | cons r rr =>
    cases rr
    obtain ⟨t, rfl⟩ := r
    refine call_enumerate_str fun h' he hit hsz hk => wpAny_pyIter_enum he ?_
    have I2 : Inv X pins σ H1 { s1 with heap := h' } := I1.kept (t' := s1.toks) hk
    refine ⟨s1.heap.objs.size + 1, [s1.heap.objs.size + 1, s1.heap.objs.size], _, _, H1, rfl, I2, turn_enumS (s1.heap.objs.size + 1) s1.heap.objs.size x t (Nat.succ_ne_self _), ⟨Nat.zero_le _, ⟨.none, he⟩, hit⟩, fun b hb => ?_, q⟩
    have hle : s1.heap.objs.size ≤ b := by
      have cs : b = s1.heap.objs.size + 1 ∨ b = s1.heap.objs.size := by simpa using hb
      rcases cs with e | e <;> rw [e] <;> first | exact Nat.le_refl _ | exact Nat.le_add_right _ _
    exact I1.fpOk hle (I1.hok.fresh hle)
theorem walk_enumS {x : Str} : Walk (Ites x) x.cps.size (fun _ => True) (YPair (fun i => some (.int (i : Nat))) (fun i => (x.cps[i]?).map fun c => V.str ⟨#[c]⟩)) :=
  ⟨fun _ _ hi _ => hi, fun _ _ => Nat.le_refl _, fun i H v H' _ _ yy => by
    obtain ⟨T, c, h1, h2, h3, h4⟩ := yy
    exact ⟨T, _, _, h1, h2, h3, rfl, by simp [h4]⟩⟩
end Sw
namespace Sw
open PySem PySem.Spec PyProof.Rows L2
/-! ### the rules that speak of the written part, the part named (within a comprehension) -/
section
variable {X : Cx} (K : PySem.W.Frag)
theorem call_lenK (h : X.K = K := by rfl) : CallR X (.builtin "len") (fun xs H Q => ∃ x n, xs = [x] ∧ LenV K x H n ∧ Q (.int n) H) := h ▸ call_len
theorem call_len_seqK (h : X.K = K := by rfl) : CallR X (.builtin "len") (fun xs H Q => ∃ p ys, xs = [.ref p] ∧ (SqL K H p ys ∨ SqT K H p ys) ∧ Q (.int ys.length) H) := h ▸ call_len_seq
theorem ix_listK (h : X.K = K := by rfl) : IxR X (rIxL K) := h ▸ ix_list
theorem ix_tupK (h : X.K = K := by rfl) : IxR X (rIxT K) := h ▸ ix_tup
theorem op_in_seqK (h : X.K = K := by rfl) : OpR X (compareOp .In) (rIn K false) := h ▸ op_in_seq
theorem sl_listK (h : X.K = K := by rfl) : SlR X (rSlL K) := h ▸ sl_list
theorem cr_sumK (hc : X.calm = true) (h : X.K = K := by rfl) : CallR X (.builtin "sum") (rSum K) := h ▸ cr_sum hc
theorem cr_allK (hc : X.calm = true) (h : X.K = K := by rfl) : CallR X (.builtin "all") (rAll K) := h ▸ cr_all hc
theorem call_isiK (h : X.K = K := by rfl) : CallR X (.builtin "isinstance") (rIsi K) := h ▸ call_isi
theorem pg_tupK {es : List Expr} {k n : Nat} {t : TGs} {pos : Pos} (hc : X.calm = true) (h : PGs X es t) (hK : X.K = K := by rfl)
    (hn : (assignEach es X.env).length = n := by rfl) (hst : (assignEach es X.env).findIdx? (·.1) = none := by rfl) : PG X (.Tuple es k pos) (gTup K n t) := hK ▸ pg_tup hc h hn hst
end
/-- f(k = v, ..), nothing by place -/
theorem pe_callN0 {X : Cx} {CX : CXT} {k : Nat} {f : Addr} {fd : FuncData} {ps ks : List Str} {sp : Sp} {E : XK} {x : Str} {p pos : Pos} {kws : List Keyword} {tk : TA} {g : List Value → List Value → List Value} {gV : List V → List V → List V}
    (F : FnOk X.prog X.w X.K X.mg X.base CX k f fd ps sp) (hr : Room k X.A) (hg : Gl X x) (hm : X.mg x = some (.ref f)) (hk : PySem.W.keepIn X.K (.ref f) = true) (hb : KBn X.K fd ps 0 ks g gV) (hx : Passes CX X E) (hkw : PK X kws tk)
    (hall : (backToKw pos (keywordEach kws X.env)).all (·.1.isSome) = true := by rfl) (hks : (backToKw pos (keywordEach kws X.env)).filterMap (·.1) = ks := by rfl) (hdb : (x == ("__debug__" : Str)) = false := by decide)
    (hpl : ((backTo pos (starEach [] X.env)).any (·.1) || (backToKw pos (keywordEach kws X.env)).any (·.1.isNone)) = false := by rfl) :
    PE X (.Call (.Name x p) [] kws pos) (tCallN 0 ks.length sp gV E tNil tk) := by
  refine ⟨fun pins s σ H Q I h => wpAny_Call_Name_kw (ld_glob I hg hm ?_ hdb)⟩
  refine PySem.W.callWith_KW0 (h₀ := X.base) I.ok.mod.kin hk hall (thn (hkw.run pos pins s σ H _ I h) fun ws s2 ⟨zs, H2, I2, rz, l1, l2, q2⟩ => ⟨I2.kIn, ?_⟩) hpl
  rw [hks]
  exact run_fnN (us := []) F hr hb hx I2 .nil rz l1 l2 q2
end Sw
/-! Words as lists of signs; what a def keeps of the heap; draws. -/
namespace Sw
open PySem PySem.Spec PyProof.Rows L2
/-- the text of these signs -/
abbrev S (l : List Nat) : Str := SX.S l
/-- all that was tracked is as it was, but for what stands at g -/
def But (g : Addr) (H H' : Hp) : Prop := ∀ b o, b ≠ g → H b = some o → H' b = some o
theorem But.refl (g : Addr) (H : Hp) : But g H H := fun _ _ _ h => h
theorem But.trans {g : Addr} {H H1 H2 : Hp} (a : But g H H1) (b : But g H1 H2) : But g H H2 := fun c o n h => b c o n (a c o n h)
theorem But.same {g : Addr} {H H' : Hp} (a : Same H H') : But g H H' := fun c o _ h => a c o h
theorem But.upd {g : Addr} {H : Hp} {o : HO} : But g H (upd H g o) := fun c u n h => by rw [upd_ne n]; exact h
theorem Same.upd {H : Hp} {p : Addr} {o : HO} (hp : H p = none) : Same H (upd H p o) := fun c u h => by rw [upd_ne (ne_of_none h hp)]; exact h
theorem But.new {g p : Addr} {H H1 : Hp} {o : HO} (a : But g H H1) (hp : H1 p = none) : But g H (L2.upd H1 p o) := a.trans (.same (Same.upd hp))
theorem But.seq {K : PySem.W.Frag} {g a : Addr} {H H' : Hp} {xs : List V} (e : But g H H') (n : a ≠ g) (h : SqL K H a xs) : SqL K H' a xs := by
  rcases h with (h | ⟨o, h⟩) | h
  · exact .inl (.inl (e _ _ n h))
  · exact .inl (.inr ⟨o, e _ _ n h⟩)
  · exact .inr h
/-- the drawing state: what is left of the seed, its hash's part, how many were drawn -/
def GenAt (H : Hp) (g : Addr) (n : Nat) : Prop := ∃ x y z : Int, H g = some (.lst [.int x, .int y, .int z]) ∧ (0 ≤ x ∧ x.natAbs < 2 ^ 2000) ∧ (0 ≤ y ∧ y < 2147483647) ∧ (0 ≤ z ∧ z ≤ (n : Int))
theorem GenAt.same {H H' : Hp} {g : Addr} {n : Nat} (e : Same H H') (h : GenAt H g n) : GenAt H' g n := by
  obtain ⟨x, y, z, h0, r⟩ := h
  exact ⟨x, y, z, e _ _ h0, r⟩
theorem GenAt.mono {H : Hp} {g : Addr} {n m : Nat} (h : GenAt H g n) (l : n ≤ m) : GenAt H g m := by
  obtain ⟨x, y, z, h0, hx, hy, hz⟩ := h
  exact ⟨x, y, z, h0, hx, hy, hz.1, by omega⟩
theorem GenAt.new {H : Hp} {g p : Addr} {n : Nat} {o : HO} (h : GenAt H g n) (hp : H p = none) : GenAt (upd H p o) g n := h.same (Same.upd hp)
theorem GenAt.ne {H : Hp} {g p : Addr} {n : Nat} (h : GenAt H g n) (hp : H p = none) : p ≠ g := by
  obtain ⟨x, y, z, h0, _⟩ := h
  exact (ne_of_none h0 hp).symm
/-! ### signs -/
def signB (c : Nat) : Bool := decide (97 ≤ c) && decide (c ≤ 122)
def wordB (l : List Nat) : Bool := l.all signB
def ascB (l : List Nat) : Bool := (l.zip l.tail).all fun p => decide (p.1 < p.2)
def jointsB (l : List Nat) : Bool := wordB l && ascB l
theorem one_lt {c d : Nat} : (([c] : List Nat) < [d]) ↔ c < d := by
  constructor
  · intro h
    cases h with
    | rel h => exact h
    | cons h => cases h
  · exact fun h => List.Lex.rel h
theorem sign_chain (c : Nat) : (if (!decide ((⟨#[c]⟩ : Str).cps.toList < (Str.ofString "a").cps.toList)) = true then !decide ((Str.ofString "z").cps.toList < (⟨#[c]⟩ : Str).cps.toList) else false) = signB c := by
  have e1 : (Str.ofString "a").cps.toList = [97] := by decide +kernel
  have e2 : (Str.ofString "z").cps.toList = [122] := by decide +kernel
  rw [e1, e2]
  show (if (!decide (([c] : List Nat) < [97])) = true then !decide (([122] : List Nat) < [c]) else false) = signB c
  unfold signB
  simp only [one_lt]
  by_cases h1 : c < 97
  · simp [h1, Nat.not_le.mpr h1]
  · by_cases h2 : 122 < c
    · simp [h1, h2]
    · simp [h1, h2, Nat.not_lt.mp h1, Nat.not_lt.mp h2]
theorem size_S {l : List Nat} : (S l).cps.size = l.length := by simp [SX.S]
theorem at_S {l : List Nat} {i : Nat} : (S l).cps[i]? = l[i]? := by simp [SX.S]
theorem len_S (l : List Nat) : (S l).length = l.length := SX.S_len l
theorem take_snoc {α : Type} {l : List α} {i : Nat} {x : α} (h : l[i]? = some x) : l.take (i + 1) = l.take i ++ [x] := by
  rw [List.take_add_one, h]
  rfl
end Sw
namespace Sw
open PySem PySem.Spec PyProof.Rows L2
theorem small_line {n : Nat} (h : n ≤ 100000) : n < sizeLine := Nat.lt_of_le_of_lt h (by decide)
theorem small_le {n : Nat} (h : n ≤ 100000) : n ≤ sizeLine := Nat.le_of_lt (small_line h)
end Sw
namespace Sw
open PySem PySem.Spec PyProof.Rows L2
/-! ### slices of texts -/
theorem cutS_from {l : List Nat} {i : Int} (h : 0 ≤ i) : cutS (S l) (some i) none = S (l.drop i.toNat) := by
  rw [C8.cutS_slice]; exact SX.slice_from h
theorem cutS_to {l : List Nat} {i : Int} (h : 0 ≤ i) : cutS (S l) none (some i) = S (l.take i.toNat) := by
  rw [C8.cutS_slice]; exact SX.slice_to h
end Sw
namespace Sw
open PySem PySem.Spec PyProof.Rows L2
theorem zip_tail {l : List Nat} {i c d : Nat} (h1 : l[i]? = some c) (h2 : (l.drop (1 : Int).toNat)[i]? = some d) : (l.zip l.tail)[i]? = some (c, d) := by
  rw [List.getElem?_zip_eq_some]
  refine ⟨h1, ?_⟩
  have e : l.drop (1 : Int).toNat = l.tail := List.drop_one
  rw [e] at h2
  exact h2
theorem zip_size {l : List Nat} : min (S l).cps.size (S (l.drop (1 : Int).toNat)).cps.size = (l.zip l.tail).length := by
  rw [size_S, size_S, List.length_zip]
  have e : l.drop (1 : Int).toNat = l.tail := List.drop_one
  rw [e]
theorem one_lt_S {c d : Nat} : decide ((⟨#[c]⟩ : Str).cps.toList < (⟨#[d]⟩ : Str).cps.toList) = decide (c < d) := by
  show decide (([c] : List Nat) < [d]) = decide (c < d)
  simp only [one_lt]
end Sw
namespace Sw
open PySem PySem.Spec PyProof.Rows L2
theorem cutS_mid {l : List Nat} {i j : Nat} (h : i ≤ j) (hj : j ≤ l.length) : cutS (S l) (some (i : Int)) (some (j : Int)) = S ((l.drop i).take (j - i)) := by
  unfold cutS
  rw [HT.sIx_nat, HT.sIx_nat, len_S, Nat.min_eq_left hj, Nat.min_eq_left (Nat.le_trans h hj)]
/-! ### the first place of a sign -/
open PySem.StrLaws in
theorem occ_full (s sub : Str) (hi : Nat) (p : Nat) : ∀ (l : List Nat) (f : Nat), (forIn l ((#[p] : Array Nat), f) (occBody s sub hi 1)).run.fst = #[p]
  | [], f => rfl
  | a :: l, f => by
    rw [List.forIn_cons]
    unfold occBody
    rw [if_neg (by simp)]
    exact occ_full s sub hi p l f
open PySem.StrLaws in
theorem occ_to (s sub : Str) (hi p : Nat) (hp : p + sub.length ≤ hi) (hs : Builtin.Str.subAt s sub p = true) : ∀ (n a f : Nat), f ≤ a → a ≤ p → p < a + n → (∀ i, a ≤ i → i < p → ¬ Builtin.Str.subAt s sub i = true) →
    (forIn (List.range' a n) ((#[] : Array Nat), f) (occBody s sub hi 1)).run.fst = #[p]
  | 0, a, f, _, h1, h2, _ => by omega
  | n + 1, a, f, h0, h1, h2, hn => by
    rw [List.range'_succ, List.forIn_cons]
    by_cases e : a = p
    · subst e
      unfold occBody
      rw [if_pos ⟨⟨⟨by simp, h0⟩, hp⟩, hs⟩]
      exact occ_full s sub hi a _ _
    · unfold occBody
      rw [if_neg (fun z => hn a (Nat.le_refl _) (by omega) z.2)]
      exact occ_to s sub hi p hp hs n (a + 1) f (by omega) (by omega) (by omega) fun i h3 h4 => hn i (by omega) h4
theorem first_sign {l : List Nat} {c p : Nat} (h : l[p]? = some c) (hn : ∀ i, i < p → l[i]? ≠ some c) : Builtin.Str.occurrences (S l) (S [c]) 0 (S l).length 1 = [p] := by
  have hp : p < l.length := (List.getElem?_eq_some_iff.mp h).1
  have e1 : (S [c]).length = 1 := rfl
  have at1 := PySem.StrLaws.subAt_one (S l) c
  rw [PySem.StrLaws.occ_eq, occ_to (S l) (S [c]) (S l).length p (by rw [e1, len_S]; omega) ((at1 p).mpr h).2 _ 0 0 (Nat.le_refl _) (Nat.zero_le _) (by rw [len_S]; omega) fun i _ h4 z => hn i h4 ((at1 i).mp ⟨?_, z⟩)]
  show i + 1 ≤ (S l).length
  rw [len_S]
  omega
end Sw
namespace Sw
open PySem PySem.Spec PyProof.Rows L2
/-! ### the deed -/
def swapL (l : List Nat) (p : Nat) : List Nat := l.drop (p + 1) ++ (l.drop p).take 1 ++ l.take p
theorem drop_one {l : List Nat} {p c : Nat} (h : l[p]? = some c) : (l.drop p).take 1 = [c] := by
  obtain ⟨hp, e⟩ := List.getElem?_eq_some_iff.mp h
  rw [List.drop_eq_getElem_cons hp, e]
  rfl
theorem swapL_one {l : List Nat} {p c : Nat} (h : l[p]? = some c) : swapL l p = l.drop (p + 1) ++ [c] ++ l.take p := by
  unfold swapL
  rw [drop_one h]
theorem swapL_len {l : List Nat} {p : Nat} (h : p < l.length) : (swapL l p).length = l.length := by
  unfold swapL
  simp
  omega
theorem swapL_mem {l : List Nat} {p c : Nat} (h : c ∈ swapL l p) : c ∈ l := by
  unfold swapL at h
  rcases List.mem_append.mp h with h | h
  · rcases List.mem_append.mp h with h | h
    · exact List.mem_of_mem_drop h
    · exact List.mem_of_mem_drop (List.mem_of_mem_take h)
  · exact List.mem_of_mem_take h
/-- at the place counted from the end the same sign, and its deed leads back -/
theorem swapL_at {l : List Nat} {p : Nat} (h : p < l.length) : (swapL l p)[l.length - 1 - p]? = l[p]? := by
  have hc : l[p]? = some l[p] := List.getElem?_eq_getElem h
  rw [swapL_one hc, hc, List.append_assoc, List.getElem?_append_right (by rw [List.length_drop]; omega), List.length_drop, show l.length - 1 - p - (l.length - (p + 1)) = 0 by omega]
  rfl
theorem swapL_back {l : List Nat} {p : Nat} (h : p < l.length) : swapL (swapL l p) (l.length - 1 - p) = l := by
  have hc : l[p]? = some l[p] := List.getElem?_eq_getElem h
  rw [swapL_one ((swapL_at h).trans hc), swapL_one hc]
  have e1 : (l.drop (p + 1)).length = l.length - 1 - p := by rw [List.length_drop]; omega
  have e2 : (l.drop (p + 1) ++ [l[p]]).length = l.length - 1 - p + 1 := by rw [List.length_append, e1]; rfl
  rw [List.drop_left' e2, List.append_assoc (l.drop (p + 1)), List.take_left' e1, List.append_assoc]
  rw [List.singleton_append, ← List.drop_eq_getElem_cons h, List.take_append_drop]
/-- the places at which a joint stands -/
def openL (l js : List Nat) : List Nat := (List.range l.length).filter fun i => (l[i]?).any fun c => decide (c ∈ js)
theorem openL_len (l js : List Nat) : (openL l js).length ≤ l.length := by
  unfold openL
  have h := List.length_filter_le (fun i => (l[i]?).any fun c => decide (c ∈ js)) (List.range l.length)
  rw [List.length_range] at h
  exact h
theorem openL_snoc {l : List Nat} (js : List Nat) {i c : Nat} (h : l[i]? = some c) : openL (l.take (i + 1)) js = openL (l.take i) js ++ (if c ∈ js then [i] else []) := by
  obtain ⟨hi, e⟩ := List.getElem?_eq_some_iff.mp h
  have l1 : (l.take (i + 1)).length = i + 1 := by rw [List.length_take]; omega
  have l2 : (l.take i).length = i := by rw [List.length_take]; omega
  unfold openL
  rw [l1, l2, List.range_succ, List.filter_append]
  congr 1
  · refine List.filter_congr fun k hk => ?_
    have hk' : k < i := List.mem_range.mp hk
    rw [List.getElem?_take_of_lt (by omega), List.getElem?_take_of_lt hk']
  · rw [List.filter_cons, List.getElem?_take_of_lt (by omega), h]
    by_cases hm : c ∈ js <;> simp [hm]
theorem mem_openL {l js : List Nat} {i : Nat} (h : i ∈ openL l js) : ∃ c, l[i]? = some c ∧ c ∈ js := by
  unfold openL at h
  obtain ⟨_, h2⟩ := List.mem_filter.mp h
  cases e : l[i]? with
  | none => rw [e] at h2; cases h2
  | some c =>
    rw [e] at h2
    exact ⟨c, rfl, of_decide_eq_true h2⟩
end Sw
namespace Sw
open PySem PySem.Spec PyProof.Rows L2
theorem wordB_mem {l : List Nat} (h : wordB l = true) {c : Nat} (hc : c ∈ l) : 97 ≤ c ∧ c ≤ 122 := by
  have q := List.all_eq_true.mp h c hc
  unfold signB at q
  rw [Bool.and_eq_true] at q
  exact ⟨of_decide_eq_true q.1, of_decide_eq_true q.2⟩
theorem wordB_of {l : List Nat} (h : ∀ c ∈ l, 97 ≤ c ∧ c ≤ 122) : wordB l = true := by
  refine List.all_eq_true.mpr fun c hc => ?_
  unfold signB
  rw [decide_eq_true (h c hc).1, decide_eq_true (h c hc).2]
  rfl
theorem underscore : Str.ofString "_" = S [95] := by decide +kernel
/-- the ring with its hole at p, read from behind the hole on -/
theorem ring_hole {l : List Nat} {p c : Nat} (hw : wordB l = true) (hc : l[p]? = some c) :
    Builtin.Str.occurrences (S (l.take p ++ [95] ++ l.drop (p + 1) ++ [c])) (S [95]) 0 (S (l.take p ++ [95] ++ l.drop (p + 1) ++ [c])).length 1 = [p] := by
  obtain ⟨hp, e⟩ := List.getElem?_eq_some_iff.mp hc
  have lt : (l.take p).length = p := by rw [List.length_take]; omega
  refine first_sign ?_ fun i hi z => ?_
  · rw [List.append_assoc, List.append_assoc, List.getElem?_append_right (by omega), lt, Nat.sub_self]
    rfl
  · rw [List.append_assoc, List.append_assoc, List.getElem?_append_left (by omega)] at z
    have := wordB_mem hw (List.mem_of_mem_take (List.mem_of_getElem? z))
    omega
theorem ring_from {l : List Nat} {p c : Nat} (hp : p < l.length) : (l.take p ++ [95] ++ l.drop (p + 1) ++ [c]).drop (p + 1) = l.drop (p + 1) ++ [c] := by
  have lt : (l.take p ++ [95]).length = p + 1 := by rw [List.length_append, List.length_take]; simp; omega
  rw [List.append_assoc, List.drop_left' lt]
theorem ring_to {l : List Nat} {p c : Nat} (hp : p < l.length) : (l.take p ++ [95] ++ l.drop (p + 1) ++ [c]).take p = l.take p := by
  have lt : (l.take p).length = p := by rw [List.length_take]; omega
  rw [List.append_assoc, List.append_assoc, List.take_left' lt]
end Sw
namespace Sw
open PySem PySem.Spec PyProof.Rows L2
theorem cutV_to1 {ns : List Int} : some (HO.lst (cutV (ns.map V.int) none (some 1))) = some (HO.lst ((ns.take 1).map V.int)) := by
  have e : cutV (ns.map V.int) none (some 1) = (ns.map V.int).take 1 := by
    unfold cutV
    rw [HT.sIx_none, show (some (1 : Int)) = some ((1 : Nat) : Int) from rfl, HT.sIx_nat, List.drop_zero, Nat.sub_zero]
    rcases Nat.lt_or_ge (ns.map V.int).length 1 with h | h
    · rw [Nat.min_eq_right (by omega), List.take_length, List.take_of_length_le (by omega)]
    · rw [Nat.min_eq_left h]
  rw [e, List.map_take]
theorem seed_ok (x : Int) : 0 ≤ x % (10 ^ (60 : Int).toNat) ^ (10 : Int).toNat ∧ (x % (10 ^ (60 : Int).toNat) ^ (10 : Int).toNat).natAbs < 2 ^ 2000 := by
  have h0 : (0 : Int) < (10 ^ (60 : Int).toNat) ^ (10 : Int).toNat := by decide +kernel
  have h1 : ((10 ^ (60 : Int).toNat) ^ (10 : Int).toNat : Int).natAbs < 2 ^ 2000 := by decide +kernel
  have a := Int.emod_nonneg x (show ((10 ^ (60 : Int).toNat) ^ (10 : Int).toNat : Int) ≠ 0 by omega)
  have b := Int.emod_lt_of_pos x h0
  exact ⟨a, Nat.lt_of_lt_of_le (by omega) (Nat.le_of_lt h1)⟩
theorem joinL_signs : ∀ ws : List Nat, TL.joinL [] (ws.map fun c => [c]) = ws
  | [] => rfl
  | [c] => rfl
  | c :: d :: r => by
    have ih := joinL_signs (d :: r)
    show [c] ++ ([] ++ TL.joinL [] ((d :: r).map fun c => [c])) = c :: d :: r
    rw [ih]
    rfl
theorem join_signs (ws : List Nat) : Txt.join (Str.ofString "") (ws.map fun c => S [c]) = S ws := by
  have e0 : Str.ofString "" = S [] := by decide +kernel
  have e1 : (ws.map fun c => S [c]) = (ws.map fun c => [c]).map SX.S := by rw [List.map_map]; rfl
  rw [e0, e1, SX.join_S, joinL_signs]
theorem join_bound {ws : List Nat} (h : ws.length ≤ 100000) : ((ws.map fun c => S [c]).map (·.length)).sum + (ws.map fun c => S [c]).length * (Str.ofString "").length ≤ 16777216 := by
  have e0 : (Str.ofString "").length = 0 := by decide +kernel
  have e1 : ((ws.map fun c => S [c]).map (·.length)).sum = ws.length := by
    rw [List.map_map]
    have : ((fun x : Str => x.length) ∘ fun c => S [c]) = fun _ : Nat => 1 := funext fun c => rfl
    rw [this, List.map_const', List.sum_replicate_nat, Nat.mul_one]
  rw [e0, e1]
  omega
theorem alpha_len : (Str.ofString "abcdefghijklmnopqrstuvwxyz").length = 26 := by decide +kernel
theorem alpha_at (i : Nat) (h : i < 26) : (Str.ofString "abcdefghijklmnopqrstuvwxyz").cps[i]? = some (97 + i) := by
  have all : ∀ k : Fin 26, (Str.ofString "abcdefghijklmnopqrstuvwxyz").cps[k.val]? = some (97 + k.val) := by decide +kernel
  exact all ⟨i, h⟩
end Sw
namespace Sw
open PySem PySem.Spec PyProof.Rows L2
/-! ### lists of places compared -/
abbrev placesV (ns : List Nat) : List V := ns.map fun i => V.int (i : Nat)
def placesD (ns : List Nat) : List PyData := ns.map fun i => PyData.int (i : Nat)
theorem places_dp {K : PySem.W.Frag} {H : Hp} : ∀ ns : List Nat, DpAll K H (placesV ns) (placesD ns)
  | [] => .nil
  | n :: r => .cons (.int _) (places_dp r)
theorem places_lay : ∀ ns : List Nat, PyData.canLayAll0 (placesD ns) = true
  | [] => rfl
  | n :: r => by
    show (PyData.canLay0 (.int (n : Nat)) && PyData.canLayAll0 (placesD r)) = true
    rw [places_lay r]
    rfl
theorem places_depth : ∀ ns : List Nat, PyData.depthAll (placesD ns) = 0
  | [] => rfl
  | n :: r => by
    show max (PyData.depth (.int (n : Nat))) (PyData.depthAll (placesD r)) = 0
    rw [places_depth r]
    rfl
theorem places_shaped (ns : List Nat) : SeqAt.shaped (.list (placesD ns)) = true := by
  unfold SeqAt.shaped
  have e : (PyData.list (placesD ns)).depth = 1 := by
    show PyData.depthAll (placesD ns) + 1 = 1
    rw [places_depth]
  have e2 : (PyData.list (placesD ns)).canLay0 = true := places_lay ns
  rw [e, e2]
  rfl
theorem places_eqv (ns : List Nat) : PyData.eqv (.list (placesD ns)) (.list (placesD ns)) = true := PySem.SeqAt.eqv_refl _ (places_lay ns)
/-- a test that two lists of places are unlike, which they are not -/
theorem ne_places {K : PySem.W.Frag} {H : Hp} {a b : Addr} {ns : List Nat} {Q : VK} (ha : SqL K H a (placesV ns)) (hb : SqL K H b (placesV ns)) (q : Q (.bl false) H) : rNeD K (.ref a) (.ref b) H Q := by
  refine ⟨_, _, .lst ha (places_dp ns), .lst hb (places_dp ns), places_shaped ns, places_shaped ns, ?_⟩
  rw [places_eqv]
  exact q
/-- one of three -/
theorem pick3 {a b c r : Int} (h0 : 0 ≤ r) (h1 : r < 3) {m : Int} (ha : 0 ≤ a ∧ a ≤ m) (hb : 0 ≤ b ∧ b ≤ m) (hc : 0 ≤ c ∧ c ≤ m) : ∃ n : Nat, atI [V.int a, V.int b, V.int c] r = some (V.int (n : Nat)) ∧ (n : Int) ≤ m := by
  have e : r = 0 ∨ r = 1 ∨ r = 2 := by omega
  rcases e with rfl | rfl | rfl
  · exact ⟨a.toNat, by show some (V.int a) = _; rw [Int.toNat_of_nonneg ha.1], by omega⟩
  · exact ⟨b.toNat, by show some (V.int b) = _; rw [Int.toNat_of_nonneg hb.1], by omega⟩
  · exact ⟨c.toNat, by show some (V.int c) = _; rw [Int.toNat_of_nonneg hc.1], by omega⟩
theorem ascB_of {l : List Nat} (h : l.Pairwise (· < ·)) : ascB l = true := by
  unfold ascB
  refine List.all_eq_true.mpr fun p hp => ?_
  refine decide_eq_true ?_
  induction h with
  | nil => cases hp
  | @cons a r hr _ ih =>
    cases r with
    | nil => cases hp
    | cons b t =>
      have hp' : p ∈ (a, b) :: ((b :: t).zip t) := hp
      rcases List.mem_cons.mp hp' with e | hp'
      · rw [e]; exact hr b List.mem_cons_self
      · exact ih hp'
theorem jointsB_of {l : List Nat} (h : l.Pairwise (· < ·)) (hw : ∀ c ∈ l, 97 ≤ c ∧ c ≤ 122) : jointsB l = true := by
  unfold jointsB
  rw [wordB_of hw, ascB_of h]
  rfl
theorem jointsB_one {c : Nat} (h : 97 ≤ c ∧ c ≤ 122) : jointsB [c] = true := jointsB_of (List.pairwise_singleton _ _) fun d hd => by rw [List.mem_singleton.mp hd]; exact h
/-- some of the places: the first twelve and the last two -/
theorem cutV_to12 (xs : List V) : cutV xs none (some 12) = xs.take 12 := by
  unfold cutV
  rw [HT.sIx_none, show (some (12 : Int)) = some ((12 : Nat) : Int) from rfl, HT.sIx_nat, List.drop_zero, Nat.sub_zero]
  rcases Nat.lt_or_ge xs.length 12 with h | h
  · rw [Nat.min_eq_right (by omega), List.take_length, List.take_of_length_le (by omega)]
  · rw [Nat.min_eq_left h]
theorem openL_nil (l : List Nat) : openL l [] = [] := by
  unfold openL
  refine List.filter_eq_nil_iff.mpr fun i _ => ?_
  cases l[i]? <;> simp
theorem cutV_from {xs : List V} {k : Nat} (h : k ≤ xs.length) : cutV xs (some (k : Int)) none = xs.drop k := by
  unfold cutV
  rw [HT.sIx_none, HT.sIx_nat, Nat.min_eq_left h, List.take_of_length_le (by rw [List.length_drop]; omega)]
end Sw
namespace Sw
open PySem PySem.Spec PyProof.Rows L2
/-- what was not there before may change -/
theorem But.after {g : Addr} {H H1 H2 : Hp} (b : But g H1 H2) (s : Same H H1) (hg : H g = none) : Same H H2 := fun c o h => b c o (ne_of_none h hg) (s c o h)
end Sw
/-! Roads, what they move, what they cost. -/
namespace Sw
open PySem PySem.Spec PyProof.Rows L2
/-- the word to which a road leads; the words it passes -/
def ends (l r : List Nat) : List Nat := r.foldl swapL l
def pass (l : List Nat) : List Nat → List (List Nat)
  | [] => [l]
  | p :: r => l :: pass (swapL l p) r
def IsRoad (js l : List Nat) : List Nat → Prop
  | [] => True
  | p :: r => (∃ c, l[p]? = some c ∧ c ∈ js) ∧ IsRoad js (swapL l p) r
def backL (n : Nat) (r : List Nat) : List Nat := r.reverse.map fun p => n - 1 - p
theorem ends_cons (l : List Nat) (p : Nat) (r : List Nat) : ends l (p :: r) = ends (swapL l p) r := rfl
theorem ends_append (l r q : List Nat) : ends l (r ++ q) = ends (ends l r) q := by unfold ends; rw [List.foldl_append]
theorem ends_snoc (l r : List Nat) (p : Nat) : ends l (r ++ [p]) = swapL (ends l r) p := by rw [ends_append]; rfl
theorem pass_len (l r : List Nat) : (pass l r).length = r.length + 1 := by
  induction r generalizing l with
  | nil => rfl
  | cons p r ih => unfold pass; rw [List.length_cons, ih]; rfl
theorem pass_snoc (l r : List Nat) (p : Nat) : pass l (r ++ [p]) = pass l r ++ [ends l (r ++ [p])] := by
  induction r generalizing l with
  | nil => rfl
  | cons q r ih =>
    show l :: pass (swapL l q) (r ++ [p]) = l :: pass (swapL l q) r ++ [ends (swapL l q) (r ++ [p])]
    rw [ih]
    rfl
theorem pass_last (l r : List Nat) : (pass l r)[r.length]? = some (ends l r) := by
  induction r generalizing l with
  | nil => rfl
  | cons p r ih => show (l :: pass (swapL l p) r)[r.length + 1]? = _; rw [List.getElem?_cons_succ, ih]; rfl
theorem road_lt {js l r : List Nat} (h : IsRoad js l r) : ∀ p ∈ r, p < l.length := by
  induction r generalizing l with
  | nil => intro p hp; cases hp
  | cons q r ih =>
    obtain ⟨⟨c, hc, _⟩, h2⟩ := h
    have hq : q < l.length := (List.getElem?_eq_some_iff.mp hc).1
    intro p hp
    rcases List.mem_cons.mp hp with e | hp
    · rw [e]; exact hq
    · have := ih h2 p hp
      rw [swapL_len hq] at this
      exact this
theorem ends_len {l r : List Nat} (h : ∀ p ∈ r, p < l.length) : (ends l r).length = l.length := by
  induction r generalizing l with
  | nil => rfl
  | cons q r ih =>
    have hq := h q List.mem_cons_self
    rw [ends_cons, ih fun p hp => by rw [swapL_len hq]; exact h p (List.mem_cons_of_mem _ hp), swapL_len hq]
theorem ends_mem {l r : List Nat} {c : Nat} (h : c ∈ ends l r) : c ∈ l := by
  induction r generalizing l with
  | nil => exact h
  | cons q r ih => exact swapL_mem (ih h)
theorem road_append {js l r q : List Nat} : IsRoad js l (r ++ q) ↔ IsRoad js l r ∧ IsRoad js (ends l r) q := by
  induction r generalizing l with
  | nil => exact ⟨fun h => ⟨trivial, h⟩, fun h => h.2⟩
  | cons p r ih =>
    constructor
    · rintro ⟨h1, h2⟩
      exact ⟨⟨h1, (ih.mp h2).1⟩, (ih.mp h2).2⟩
    · rintro ⟨⟨h1, h2⟩, h3⟩
      exact ⟨h1, ih.mpr ⟨h2, h3⟩⟩
theorem road_at {js l r : List Nat} {i p : Nat} (h : IsRoad js l r) (hi : r[i]? = some p) : ∃ c, (ends l (r.take i))[p]? = some c ∧ c ∈ js := by
  have e : r = r.take i ++ p :: r.drop (i + 1) := by
    obtain ⟨hl, e⟩ := List.getElem?_eq_some_iff.mp hi
    rw [← e, ← List.drop_eq_getElem_cons hl, List.take_append_drop]
  rw [e] at h
  exact (road_append.mp h).2.1
theorem ends_take {l r : List Nat} {i p : Nat} (hi : r[i]? = some p) : ends l (r.take (i + 1)) = swapL (ends l (r.take i)) p := by
  rw [take_snoc hi, ends_snoc]
theorem pass_take {l r : List Nat} {i p : Nat} (hi : r[i]? = some p) : pass l (r.take (i + 1)) = pass l (r.take i) ++ [ends l (r.take (i + 1))] := by
  rw [take_snoc hi, pass_snoc]
theorem road_take {js l r : List Nat} {i : Nat} (h : IsRoad js l r) : IsRoad js l (r.take i) := by
  have e : r = r.take i ++ r.drop i := (List.take_append_drop i r).symm
  rw [e] at h
  exact (road_append.mp h).1
theorem backL_cons (n p : Nat) (r : List Nat) : backL n (p :: r) = backL n r ++ [n - 1 - p] := by
  unfold backL
  rw [List.reverse_cons, List.map_append]
  rfl
theorem back_ends {l r : List Nat} (h : ∀ p ∈ r, p < l.length) : ends (ends l r) (backL l.length r) = l := by
  induction r generalizing l with
  | nil => rfl
  | cons p r ih =>
    have hp := h p List.mem_cons_self
    have hr : ∀ q ∈ r, q < (swapL l p).length := fun q hq => by rw [swapL_len hp]; exact h q (List.mem_cons_of_mem _ hq)
    have := ih hr
    rw [swapL_len hp] at this
    rw [backL_cons, ends_snoc, ends_cons, this, swapL_back hp]
theorem back_road {js l r : List Nat} (h : IsRoad js l r) : IsRoad js (ends l r) (backL l.length r) := by
  induction r generalizing l with
  | nil => trivial
  | cons p r ih =>
    obtain ⟨⟨c, hc, hm⟩, h2⟩ := h
    have hp : p < l.length := (List.getElem?_eq_some_iff.mp hc).1
    have i2 := ih h2
    have e2 := back_ends (road_lt h2)
    rw [swapL_len hp] at i2 e2
    rw [backL_cons, road_append, ends_cons]
    refine ⟨i2, ⟨c, ?_, hm⟩, trivial⟩
    rw [e2]
    exact (swapL_at hp).trans hc
/-! ### what goes along: the same for the places as for the signs -/
theorem swapL_map (f : Nat → Nat) (l : List Nat) (p : Nat) : swapL (l.map f) p = (swapL l p).map f := by
  unfold swapL
  rw [List.map_append, List.map_append, List.map_drop, List.map_take, List.map_drop, List.map_take]
theorem ends_map (f : Nat → Nat) (l r : List Nat) : ends (l.map f) r = (ends l r).map f := by
  induction r generalizing l with
  | nil => rfl
  | cons p r ih => rw [ends_cons, ends_cons, swapL_map, ih]
theorem range_get (l : List Nat) : (List.range l.length).map (fun i => l.getD i 0) = l := by
  refine List.ext_getElem (by simp) fun i h1 h2 => ?_
  simp at h1
  simp [h1]
theorem moved_get (l r : List Nat) : (ends (List.range l.length) r).map (fun i => l.getD i 0) = ends l r := by
  rw [← ends_map, range_get]
/-! ### prices -/
def PricesOk (ps : List (Nat × Int)) : Prop := (∀ q ∈ ps, (97 ≤ q.1 ∧ q.1 ≤ 122) ∧ 1 ≤ q.2) ∧ (ps.map (·.1)).Pairwise (· < ·)
def priceAt (ps : List (Nat × Int)) (c : Nat) : Int := ((ps.find? fun q => decide (q.1 = c)).map (·.2)).getD 0
def costL (ps : List (Nat × Int)) (l : List Nat) : List Nat → Int
  | [] => 0
  | p :: r => priceAt ps (l.getD p 0) + costL ps (swapL l p) r
theorem cost_append (ps : List (Nat × Int)) (l r q : List Nat) : costL ps l (r ++ q) = costL ps l r + costL ps (ends l r) q := by
  induction r generalizing l with
  | nil => show costL ps l q = 0 + costL ps l q; omega
  | cons p r ih => show priceAt ps (l.getD p 0) + costL ps (swapL l p) (r ++ q) = _; rw [ih, ends_cons]; show _ = (priceAt ps (l.getD p 0) + costL ps (swapL l p) r) + _; omega
theorem cost_take {ps : List (Nat × Int)} {l r : List Nat} {i p : Nat} (hi : r[i]? = some p) : costL ps l (r.take (i + 1)) = costL ps l (r.take i) + priceAt ps ((ends l (r.take i)).getD p 0) := by
  rw [take_snoc hi, cost_append]
  show _ + (priceAt ps _ + 0) = _
  omega
theorem cost_back (ps : List (Nat × Int)) {l r : List Nat} (h : ∀ p ∈ r, p < l.length) : costL ps (ends l r) (backL l.length r) = costL ps l r := by
  induction r generalizing l with
  | nil => rfl
  | cons p r ih =>
    have hp := h p List.mem_cons_self
    have hr : ∀ q ∈ r, q < (swapL l p).length := fun q hq => by rw [swapL_len hp]; exact h q (List.mem_cons_of_mem _ hq)
    have i2 := ih hr
    have e2 := back_ends hr
    rw [swapL_len hp] at i2 e2
    rw [backL_cons, cost_append, ends_cons, i2, e2]
    show costL ps (swapL l p) r + (priceAt ps ((swapL l p).getD (l.length - 1 - p) 0) + 0) = priceAt ps (l.getD p 0) + costL ps (swapL l p) r
    have e3 : (swapL l p).getD (l.length - 1 - p) 0 = l.getD p 0 := by rw [List.getD_eq_getElem?_getD, List.getD_eq_getElem?_getD, swapL_at hp]
    rw [e3]
    omega
/-- the price of a letter is the sum of all prices of this letter -/
theorem price_sum {ps : List (Nat × Int)} (h : (ps.map (·.1)).Pairwise (· < ·)) (c : Nat) : ((ps.filter fun q => decide (q.1 = c)).map (·.2)).sum = priceAt ps c := by
  induction ps with
  | nil => rfl
  | cons q r ih =>
    have h' : (q.1 :: r.map (·.1)).Pairwise (· < ·) := h
    obtain ⟨h1, h2⟩ := List.pairwise_cons.mp h'
    unfold priceAt
    rw [List.filter_cons, List.find?_cons]
    by_cases e : q.1 = c
    · have hno : r.filter (fun q => decide (q.1 = c)) = [] := List.filter_eq_nil_iff.mpr fun y hy z => by
        have := h1 y.1 (List.mem_map_of_mem hy)
        have := of_decide_eq_true z
        omega
      simp [e, hno]
    · have := ih h2
      unfold priceAt at this
      simp only [e, decide_false]
      exact this
theorem price_find {ps : List (Nat × Int)} {c : Nat} (h : c ∈ ps.map (·.1)) : ∃ v, (ps.find? fun q => decide (q.1 = c)) = some v ∧ v.2 = priceAt ps c := by
  unfold priceAt
  cases e : ps.find? fun q => decide (q.1 = c) with
  | some v => exact ⟨v, rfl, rfl⟩
  | none =>
    obtain ⟨q, hq, rfl⟩ := List.mem_map.mp h
    exact absurd (decide_eq_true rfl) (List.find?_eq_none.mp e q hq)
/-- prices as they stand in the heap -/
def PriceT (H : Hp) (t : V) (q : Nat × Int) : Prop := ∃ a, t = .ref a ∧ H a = some (.tup [.str (S [q.1]), .int q.2])
def PricesAt (H : Hp) (a : Addr) (ps : List (Nat × Int)) : Prop := ∃ ts : List V, H a = some (.lst ts) ∧ Paired (PriceT H) ts ps
theorem PriceT.same {H H' : Hp} {t : V} {q : Nat × Int} (s : Same H H') (h : PriceT H t q) : PriceT H' t q := by
  obtain ⟨a, e, h⟩ := h
  exact ⟨a, e, s _ _ h⟩
theorem PricesAt.same {H H' : Hp} {a : Addr} {ps : List (Nat × Int)} (s : Same H H') (h : PricesAt H a ps) : PricesAt H' a ps := by
  obtain ⟨ts, h1, h2⟩ := h
  exact ⟨ts, s _ _ h1, Paired.mapP h2 fun t q z => PriceT.same s z⟩
theorem Paired.len {α β : Type} {F : α → β → Prop} : ∀ {xs : List α} {ys : List β}, Paired F xs ys → xs.length = ys.length
  | _, _, .nil => rfl
  | _, _, .cons _ t => congrArg Nat.succ (Paired.len t)
theorem Paired.at {α β : Type} {F : α → β → Prop} : ∀ {xs : List α} {ys : List β} {i : Nat} {x : α}, Paired F xs ys → xs[i]? = some x → ∃ y, ys[i]? = some y ∧ F x y
  | _, _, _, _, .nil, e => by simp at e
  | _, _, 0, x, .cons r _, e => by simp at e; subst e; exact ⟨_, rfl, r⟩
  | _, _, i + 1, x, .cons _ t, e => Paired.at (i := i) t (by simpa using e)
theorem Paired.snoc {α β : Type} {F : α → β → Prop} : ∀ {xs : List α} {ys : List β} {x : α} {y : β}, Paired F xs ys → F x y → Paired F (xs ++ [x]) (ys ++ [y])
  | _, _, _, _, .nil, h => .cons h .nil
  | _, _, _, _, .cons r t, h => .cons r (Paired.snoc t h)
/-- the dict of prices -/
def pricesK (ps : List (Nat × Int)) : List (Key × V) := ps.map fun q => (Sum.inr (S [q.1]), V.int q.2)
theorem mergeK_new : ∀ (more kvs : List (Key × V)), (∀ q ∈ more, valV kvs q.1 = none) → (more.map (·.1)).Nodup → mergeK kvs more = kvs ++ more
  | [], kvs, _, _ => (List.append_nil kvs).symm
  | q :: r, kvs, h, nd => by
    obtain ⟨n1, n2⟩ := List.nodup_cons.mp (show (q.1 :: r.map (·.1)).Nodup from nd)
    have e := putK_new q.2 (h q List.mem_cons_self)
    show mergeK (putK kvs q.1 q.2) r = kvs ++ q :: r
    rw [e, mergeK_new r _ (fun y hy => ?_) n2, List.append_assoc]
    · rfl
    · rw [valV_snoc _ _ _ _ (h q List.mem_cons_self), if_neg (fun z : y.1 = q.1 => n1 (by rw [← z]; exact List.mem_map_of_mem hy))]
      exact h y (List.mem_cons_of_mem _ hy)
theorem S_one_inj {c d : Nat} (h : S [c] = S [d]) : c = d := by
  have := SX.S_inj h
  injection this
theorem prices_merge {ps : List (Nat × Int)} (h : (ps.map (·.1)).Pairwise (· < ·)) : mergeK [] (pricesK ps) = pricesK ps := by
  rw [mergeK_new (pricesK ps) [] (fun _ _ => rfl) ?_, List.nil_append]
  unfold pricesK
  rw [List.map_map]
  have e : ((fun x : Key × V => x.1) ∘ fun q : Nat × Int => ((Sum.inr (S [q.1]) : Key), V.int q.2)) = (fun c : Nat => (Sum.inr (S [c]) : Key)) ∘ fun q : Nat × Int => q.1 := rfl
  rw [e, ← List.map_map, List.Nodup, List.pairwise_map]
  refine h.imp fun {a b} lt z => ?_
  have := S_one_inj (Sum.inr.inj z)
  omega
theorem prices_val {ps : List (Nat × Int)} {c : Nat} (h : c ∈ ps.map (·.1)) : valV (pricesK ps) (Sum.inr (S [c])) = some (V.int (priceAt ps c)) := by
  obtain ⟨v, hv, e⟩ := price_find h
  rw [← e]
  unfold valV pricesK
  rw [List.find?_map]
  have e2 : ((fun kv : Key × V => decide (kv.1 = Sum.inr (S [c]))) ∘ fun q : Nat × Int => ((Sum.inr (S [q.1]) : Key), V.int q.2)) = fun q : Nat × Int => decide (q.1 = c) := by
    funext q
    show decide ((Sum.inr (S [q.1]) : Key) = Sum.inr (S [c])) = decide (q.1 = c)
    by_cases z : q.1 = c
    · rw [z]; simp
    · rw [decide_eq_false z, decide_eq_false fun y => z (S_one_inj (Sum.inr.inj y))]
  rw [e2, hv]
  rfl
end Sw
namespace Sw
open PySem PySem.Spec PyProof.Rows L2
theorem cutV_tail (xs : List V) : cutV xs (some 1) none = xs.tail := by
  unfold cutV
  rw [HT.sIx_none, show (some (1 : Int)) = some ((1 : Nat) : Int) from rfl, HT.sIx_nat]
  cases xs with
  | nil => rfl
  | cons x r =>
    have e : min 1 (x :: r).length = 1 := by simp
    rw [e, List.take_of_length_le (by simp)]
    rfl
theorem one_lt_S' {c d : Nat} : decide ((S [c]).cps.toList < (S [d]).cps.toList) = decide (c < d) := one_lt_S
abbrev wordsV (ws : List (List Nat)) : List V := ws.map fun l => V.str (S l)
theorem place_of {r : List Nat} {i : Nat} {y : V} (h : (placesV r)[i]? = some y) : ∃ p, r[i]? = some p ∧ y = V.int (p : Nat) := by
  rw [List.getElem?_map] at h
  obtain ⟨p, hp, e⟩ := Option.map_eq_some_iff.mp h
  exact ⟨p, hp, e.symm⟩
theorem at_last {xs : List V} {v : V} (h : xs[xs.length - 1]? = some v) : atI xs (-1) = some v := by
  have hl : 0 < xs.length := by
    have := (List.getElem?_eq_some_iff.mp h).1
    omega
  unfold atI ixN
  rw [if_neg (by omega), if_pos (by omega)]
  show xs[((xs.length : Int) + -1).toNat]? = some v
  rw [show ((xs.length : Int) + -1).toNat = xs.length - 1 by omega]
  exact h
theorem last_word {l r : List Nat} (_ : r.length = r.length) : atI (wordsV (pass l r)) (-1) = some (V.str (S (ends l r))) := by
  refine at_last ?_
  rw [List.length_map, pass_len, Nat.add_sub_cancel, List.getElem?_map, pass_last]
  rfl
end Sw
namespace Sw
open PySem PySem.Spec PyProof.Rows L2
theorem cutV_mid {xs : List V} {i j : Nat} (h : i ≤ j) (hj : j ≤ xs.length) : cutV xs (some (i : Int)) (some (j : Int)) = (xs.drop i).take (j - i) := by
  unfold cutV
  rw [HT.sIx_nat, HT.sIx_nat, Nat.min_eq_left hj, Nat.min_eq_left (Nat.le_trans h hj)]
theorem cutV_toN {xs : List V} {j : Nat} (hj : j ≤ xs.length) : cutV xs none (some (j : Int)) = xs.take j := by
  unfold cutV
  rw [HT.sIx_none, HT.sIx_nat, Nat.min_eq_left hj, List.drop_zero, Nat.sub_zero]
theorem rg_places {n : Nat} : rgV 0 (n : Int) = placesV (List.range n) := by
  unfold rgV
  rw [show ((n : Int) - 0).toNat = n by omega]
  refine List.map_congr_left fun i _ => ?_
  rw [Int.zero_add]
theorem pass_at {l r : List Nat} {i : Nat} (h : i ≤ r.length) : (pass l r)[i]? = some (ends l (r.take i)) := by
  induction r generalizing l i with
  | nil =>
    have e : i = 0 := by simp at h; exact h
    subst e
    rfl
  | cons p r ih =>
    cases i with
    | zero => rfl
    | succ i =>
      show (l :: pass (swapL l p) r)[i + 1]? = _
      rw [List.getElem?_cons_succ, ih (by simp at h; omega)]
      rfl
theorem prices_addrs {H : Hp} : ∀ {ts : List V} {ps : List (Nat × Int)}, Paired (PriceT H) ts ps → ∃ as : List Addr, ts = as.map V.ref ∧ Paired (fun a q => H a = some (.tup [.str (S q.1.1), .int q.2]) ∧ True) as (ps.map fun q => (([q.1], ()), q.2))
  | _, _, .nil => ⟨[], rfl, .nil⟩
  | _, _, .cons r t => by
    obtain ⟨a, rfl, h⟩ := r
    obtain ⟨as, rfl, hp⟩ := prices_addrs t
    exact ⟨a :: as, rfl, .cons ⟨h, trivial⟩ hp⟩
theorem prices_paired {K : PySem.W.Frag} {H : Hp} : ∀ {as : List Addr} {ps : List (Nat × Int)}, Paired (fun a (q : (List Nat × Unit) × Int) => H a = some (.tup [.str (S q.1.1), .int q.2]) ∧ True) as (ps.map fun q => (([q.1], ()), q.2)) →
    Paired (fun p (kv : Key × V) => SqT K H p [kV kv.1, kv.2]) as (pricesK ps)
  | [], [], _ => .nil
  | a :: as, q :: ps, h => by
    cases h with
    | cons h t => exact .cons (SqT.of h.1) (prices_paired t)
  | [], _ :: _, h => by cases h
  | _ :: _, [], h => by cases h
theorem places_ne_nil {K : PySem.W.Frag} {H : Hp} {a b : Addr} {ns : List Nat} {Q : VK} (ha : SqL K H a (placesV ns)) (hb : SqL K H b []) (q : Q (.bl (!ns.isEmpty)) H) : rNeD K (.ref a) (.ref b) H Q := by
  refine ⟨_, _, .lst ha (places_dp ns), .lst hb .nil, places_shaped ns, places_shaped [], ?_⟩
  have e : PyData.eqv (.list (placesD ns)) (.list []) = ns.isEmpty := by
    cases ns with
    | nil => exact places_eqv []
    | cons n r => rfl
  rw [e]
  exact q
end Sw
namespace Sw
open PySem PySem.Spec PyProof.Rows L2
/-- one of two -/
theorem pick2 {a b r : Int} (h0 : 0 ≤ r) (h1 : r < 2) : ∃ n : Int, atI [V.int a, V.int b] r = some (V.int n) ∧ (n = a ∨ n = b) ∧ True := by
  have e : r = 0 ∨ r = 1 := by omega
  rcases e with rfl | rfl
  · exact ⟨a, rfl, .inl rfl, trivial⟩
  · exact ⟨b, rfl, .inr rfl, trivial⟩
end Sw
namespace Sw
open PySem PySem.Spec PyProof.Rows L2
theorem Same.updF {H H1 : Hp} {p : Addr} {o : HO} (s : Same H H1) (hp : H p = none) : Same H (L2.upd H1 p o) := fun c u h => by
  rw [upd_ne (ne_of_none h hp)]
  exact s c u h
/-! ### prices compared -/
def priceD (q : Nat × Int) : PyData := .tuple [.str (S [q.1]), .int q.2]
theorem prices_dp {K : PySem.W.Frag} {H : Hp} : ∀ {ts : List V} {ps : List (Nat × Int)}, Paired (PriceT H) ts ps → DpAll K H ts (ps.map priceD)
  | _, _, .nil => .nil
  | _, _, .cons r t => by
    obtain ⟨a, rfl, h⟩ := r
    exact .cons (.tup (SqT.of h) (.cons (.str _) (.cons (.int _) .nil))) (prices_dp t)
theorem prices_lay : ∀ {ps : List (Nat × Int)}, (∀ q ∈ ps, q.1 ≤ 122) → PyData.canLayAll0 (ps.map priceD) = true
  | [], _ => rfl
  | q :: r, h => by
    have h1 := h q List.mem_cons_self
    have h2 := prices_lay (ps := r) fun y hy => h y (List.mem_cons_of_mem _ hy)
    have e : PyData.strOk (S [q.1]) = true := by
      show ((#[q.1] : Array Nat).all fun c => decide (c < 0x110000)) = true
      simp
      omega
    show ((PyData.strOk (S [q.1]) && (true && true)) && PyData.canLayAll0 (r.map priceD)) = true
    rw [e, h2]
    rfl
theorem prices_depth : ∀ ps : List (Nat × Int), PyData.depthAll (ps.map priceD) ≤ 1
  | [] => Nat.zero_le _
  | q :: r => Nat.max_le.mpr ⟨Nat.le_refl _, prices_depth r⟩
theorem prices_shaped {ps : List (Nat × Int)} (h : ∀ q ∈ ps, q.1 ≤ 122) : SeqAt.shaped (.list (ps.map priceD)) = true := by
  unfold SeqAt.shaped
  have e : (PyData.list (ps.map priceD)).depth ≤ 64 := by
    show PyData.depthAll (ps.map priceD) + 1 ≤ 64
    have := prices_depth ps
    omega
  have e2 : (PyData.list (ps.map priceD)).canLay0 = true := prices_lay h
  rw [e2, decide_eq_true e]
  rfl
theorem prices_same {K : PySem.W.Frag} {H : Hp} {a b : Addr} {ps : List (Nat × Int)} {Q : VK} (ok : PricesOk ps) (ha : PricesAt H a ps) (hb : PricesAt H b ps) (q : Q (.bl false) H) : rNeD K (.ref a) (.ref b) H Q := by
  obtain ⟨ts, h1, h2⟩ := ha
  obtain ⟨us, h3, h4⟩ := hb
  have hle : ∀ q ∈ ps, q.1 ≤ 122 := fun q hq => (ok.1 q hq).1.2
  refine ⟨_, _, .lst (SqL.of h1) (prices_dp h2), .lst (SqL.of h3) (prices_dp h4), prices_shaped hle, prices_shaped hle, ?_⟩
  rw [PySem.SeqAt.eqv_refl _ (show (PyData.list (ps.map priceD)).canLay0 = true from prices_lay hle)]
  exact q
theorem PriceT.upd {H : Hp} {D : Addr} {xs ys : List V} (hD : H D = some (.lst xs)) {t : V} {q : Nat × Int} (h : PriceT H t q) : PriceT (L2.upd H D (.lst ys)) t q := by
  obtain ⟨a, e, h⟩ := h
  exact ⟨a, e, by rw [upd_ne (ne_of h hD (by intro z; cases z))]; exact h⟩
theorem PricesAt.but {g a : Addr} {H H' : Hp} {n : Nat} {ps : List (Nat × Int)} (G : GenAt H g n) (ne : a ≠ g) (b : But g H H') (h : PricesAt H a ps) : PricesAt H' a ps := by
  obtain ⟨ts, h1, h2⟩ := h
  obtain ⟨x, y, z, g0, _⟩ := G
  refine ⟨ts, b _ _ ne h1, Paired.mapP h2 fun t q z => ?_⟩
  obtain ⟨c, e, h⟩ := z
  exact ⟨c, e, b _ _ (ne_of h g0 (by intro z; cases z)) h⟩
/-- what the last part of the law about moved letters leans on -/
structure Facts4 (H0 : Hp) (g D m fe v : Addr) (ps : List (Nat × Int)) (r due : List Nat) (c : Nat) (H : Hp) : Prop where
  pr : PricesAt H D ps
  fe : PricesAt H fe ps
  du : H m = some (.lst (placesV due))
  ro : H v = some (.lst (placesV r))
  G : GenAt H g c
  B : But g H0 H
theorem Facts4.same {H0 H H' : Hp} {g D m fe v : Addr} {ps : List (Nat × Int)} {r due : List Nat} {c : Nat} (F : Facts4 H0 g D m fe v ps r due c H) (s : Same H H') : Facts4 H0 g D m fe v ps r due c H' :=
  ⟨F.pr.same s, F.fe.same s, s _ _ F.du, s _ _ F.ro, F.G.same s, F.B.trans (.same s)⟩
theorem due_get {n : Nat} {r : List Nat} (h : ∀ p ∈ r, p < n) : (ends (List.range n) (backL n r)).map (fun i => (ends (List.range n) r).getD i 0) = List.range n := by
  have hl : ∀ p ∈ r, p < (List.range n).length := fun p hp => by rw [List.length_range]; exact h p hp
  have e0 : (ends (List.range n) r).length = n := by rw [ends_len hl, List.length_range]
  have e1 : (List.range n).map (fun i => (ends (List.range n) r).getD i 0) = ends (List.range n) r := by
    have := range_get (ends (List.range n) r)
    rw [e0] at this
    exact this
  rw [← ends_map, e1]
  have := back_ends hl
  rw [List.length_range] at this
  exact this
end Sw
namespace Sw
open PySem PySem.Spec PyProof.Rows L2
/-- a test that two lists of places are alike, which they are -/
theorem eq_places {K : PySem.W.Frag} {H : Hp} {a b : Addr} {ns : List Nat} {Q : VK} (ha : SqL K H a (placesV ns)) (hb : SqL K H b (placesV ns)) (q : Q (.bl true) H) : rEqD K (.ref a) (.ref b) H Q := by
  refine ⟨_, _, .lst ha (places_dp ns), .lst hb (places_dp ns), places_shaped ns, places_shaped ns, ?_⟩
  rw [places_eqv]
  exact q
end Sw
/-! Defs that are entered while no repr runs: what repr of data needs of its surroundings, carried from call to call. -/
namespace Sw
open PySem PySem.Spec PyProof.Rows L2
/-- no repr of a container is under way -/
def Calm (A : Around) : Prop := A.guards = some []
section
variable {CX : CXT} {P : Program} {w : World} {K : PySem.W.Frag} {mg : Str → Option Value} {base : Heap}
/-- one entry of a def, by its body at just this entry -/
theorem enter_at {k : Nat} {f : Addr} {name qual : Str} {params : Arguments} {body : List Stmt} {scope : Scope} {dV kV doc pm cdv ct oc : Value} {an od : Option Addr} {osl : Array (Option Value)} {N ps : List Str}
    {A : Around} {outer : List Env} {s : Shared} {H : Hp} {args : Args} {us : List Value} {vs : List V} {Q : VK} {E : XK} {t : TS}
    (lk : K.lookup f = some ⟨oc, od, .func (PySem.W.fnOf name qual params body scope dV kV doc pm an cdv ct), osl⟩) (hcd : PySem.W.codeIn K cdv qual = true) (S : FnScope N ps scope) (hl : vs.length = ps.length)
    (hr : Room (k + 1) A) (e0 : Env0 P w K mg base A outer s H) (hb : BindsTo s (PySem.W.fnOf name qual params body scope dV kV doc pm an cdv ct) args (ps.zip us)) (r : Vals vs us)
    (ht : PSs (cxOf CX P w K mg base N qual scope f cdv A outer s H E) body t) (hq : t { nx := fun _ H' => Q .non H', rt := Q } (start N vs) H) :
    codeAny (model P w) A (.call (.ref f) args) (CR CX outer P w H s Q E) s := by
  have kept : ∀ b o, base.get? b = some o → s.heap.get? b = some o := fun b o e => (e0.bs b o e).1
  have KX := e0.mod.kin.keeps kept
  refine codeAny_call_function hr.depth (KX _ _ lk) rfl S.co S.gen rfl (PySem.W.codeRec_of KX hcd) (hb _ _ _ _ (wpAny_newFunctionEnv_cells S.kind (fun y hy => ?_) fun env he s1 x => ?_))
  · have hm : y.1 ∈ ps := (List.of_mem_zip (show (y.1, y.2) ∈ ps.zip us from hy)).1
    cases S.par y.1 hm with
    | inl q => exact .inl q
    | inr q => exact .inr ⟨q, PySem.W.cellsFrom_some _ _ _ (.inl q)⟩
  · subst he
    refine ⟨(e0.mod.nolimit.keeps kept).keeps x.toInCall.keep, codeAny_func ?_⟩
    refine wpAny_mono (ht.run [] s1 (start N vs) H _ (inv_start S hr.hd e0 hl r x) hq) (fun fl s' hs => ?_) fun _ _ hs => hs
    match fl, hs with
    | .ret u, hs =>
      obtain ⟨v, σ', H', J, rv, q⟩ := hs
      exact ⟨v, H', J.os, J.bare, J.base, J.hok, rv, q⟩
    | .next, hs =>
      obtain ⟨σ', H', J, q⟩ := hs
      exact ⟨V.non, H', J.os, J.bare, J.base, J.hok, rfl, q⟩
    | .brk, hs => exact hs.elim fun _ hs => hs.elim fun _ hs => hs.2.elim
    | .cont, hs => exact hs.elim fun _ hs => hs.elim fun _ hs => hs.2.elim
end
/-- a def's promise where no repr is under way -/
structure FnC (P : Program) (w : World) (K : PySem.W.Frag) (mg : Str → Option Value) (base : Heap) (CX : CXT) (k : Nat) (f : Addr) (fd : FuncData) (ps : List Str) (sp : Sp) : Prop where
  len : ∀ vs H Q E, sp vs H Q E → vs.length = ps.length
  run : ∀ (A : Around) (outer : List Env) (s : Shared) (H : Hp) (args : Args) (us : List Value) (vs : List V) (Q : VK) (E : XK), Room k A → Calm A → Env0 P w K mg base A outer s H → BindsTo s fd args (ps.zip us) → Vals vs us → sp vs H Q E →
    codeAny (model P w) A (.call (.ref f) args) (CR CX outer P w H s Q E) s
section
variable {CX : CXT} {P : Program} {w : World} {K : PySem.W.Frag} {mg : Str → Option Value} {base : Heap} {k : Nat} {f : Addr} {fd : FuncData} {ps : List Str} {sp : Sp}
theorem FnC.of (F : FnOk P w K mg base CX k f fd ps sp) : FnC P w K mg base CX k f fd ps sp := ⟨F.len, fun A outer s H args us vs Q E hr _ => F.run A outer s H args us vs Q E hr⟩
theorem calm_deeper {A : Around} {env : Env} (h : Calm A) : Calm (A.deeper env) := h
/-- the rule for a def, in such surroundings -/
theorem okC {x qual : Str} {st : Stmt} {N : List Str} (F : Fun K x qual st f fd) (S : FnScope N ps (defScope st)) (len : ∀ vs H Q E, sp vs H Q E → vs.length = ps.length)
    (hbody : ∀ (cdv : Value) (A : Around) (outer : List Env) (s : Shared) (H : Hp) (vs : List V) (Q : VK) (E : XK), Room k (A.deeper (envOfC qual (defScope st) s.heap.objs.size f cdv)) → Calm (A.deeper (envOfC qual (defScope st) s.heap.objs.size f cdv)) → sp vs H Q E →
      ∃ t, PSs (cxOf CX0 P w K mg base N qual (defScope st) f cdv A outer s H E).nox (defBody st) t ∧ t { nx := fun _ H' => Q .non H', rt := Q } (start N vs) H) : FnC P w K mg base CX0 (k + 1) f fd ps sp := by
  obtain ⟨oc, od, kV, doc, pm, an, cdv, ct, osl, rfl, lk, hcd⟩ := F.ex
  refine ⟨len, fun A outer s H args us vs Q E hr hc e0 hb r hsp => ?_⟩
  obtain ⟨t, h, q⟩ := hbody cdv A outer s H vs Q E (hr.deeper _) (calm_deeper hc) hsp
  exact enter_at lk hcd S (len _ _ _ _ hsp) hr e0 hb r h.nox q
end
/-! ### calls of such defs -/
section
variable {X : Cx} {CX : CXT} {k n : Nat} {f : Addr} {fd : FuncData} {ps ks : List Str} {sp : Sp} {E : XK} {x : Str} {p pos : Pos} {e : Expr} {es : List Expr} {kws : List Keyword} {t tk : TA} {ds : List Value} {dvs : List V} {g : List Value → List Value → List Value} {gV : List V → List V → List V}
theorem runC {pins : List (Addr × Obj)} {σ : L2.St} {H : Hp} {s : Shared} {Q : VK} {args : Args} {us : List Value} {vs : List V} (F : FnC X.prog X.w X.K X.mg X.base CX k f fd ps sp) (hr : Room k X.A) (hc : Calm X.A) (hx : Passes CX X E)
    (I : Inv X pins σ H s) (hb : BindsTo s fd args (ps.zip us)) (r : Vals vs us) (h : sp vs H Q E) : codeAny (model X.prog X.w) X.A (.call (.ref f) args) (fun r s' => match r with | .ok (.ret u) => EP X pins σ Q u s' | .ok _ => False | .error e => X.xe e s') s := by
  refine codeAny_mono (F.run X.A X.stack s H args us vs Q E hr hc I.env0 hb r h) fun z s' hq => ?_
  match z, hq with
  | .error e, hq => exact hx pins σ H s e s' I hq
  | .ok (.ret u), hq => exact I.after hq
  | .ok .next, hq => exact hq
  | .ok .brk, hq => exact hq
  | .ok .cont, hq => exact hq
theorem call_of {M : Model} {A : Around} {E : Value → Shared → Prop} {Q : Value → Shared → Prop} {s : Shared} {f : Value} {us : List Value} {kw : List (Str × Value)}
    (h : codeAny M A (.call f ⟨us, kw⟩) (fun r s' => match r with | .ok (.ret u) => Q u s' | .ok _ => False | .error e => E e s') s) : wpAny M A (call f us kw) Q E s := by
  refine wpAny_call (codeAny_mono h fun z s' hq => ?_)
  match z, hq with
  | .error e, hq => exact hq
  | .ok (.ret u), hq => exact hq
theorem pe_callC (F : FnC X.prog X.w X.K X.mg X.base CX k f fd ps sp) (hr : Room k X.A) (hc : Calm X.A) (hg : Gl X x) (hm : X.mg x = some (.ref f)) (hk : PySem.W.keepIn X.K (.ref f) = true) (hb : Binds X.K fd ps ds) (hd : Vals dvs ds) (hx : Passes CX X E)
    (ha : PA X (e :: es) t) (hdb : (x == ("__debug__" : Str)) = false := by decide) (he : starEach (e :: es) X.env = (false, eval e X.env) :: starEach es X.env := by rfl) (hpl : (backTo pos (starEach es X.env)).any (·.1) = false := by rfl) :
    PE X (.Call (.Name x p) (e :: es) [] pos) (tCall sp dvs E t) := by
  refine ⟨fun pins s σ H Q I h => wpAny_Call_Name_kw (ld_glob I hg hm ?_ hdb)⟩
  refine PySem.W.callWith_K (h₀ := X.base) I.ok.mod.kin hk (thn (ha.run pos pins s σ H _ I h) fun us s1 ⟨vs, H1, I1, r, q⟩ => ⟨I1.kIn, call_of ?_⟩) he hpl
  have r2 : Vals (vs ++ dvs) (us ++ ds) := r.append hd
  exact runC F hr hc hx I1 (hb s1 us I1.kIn (by rw [← r2.length]; exact F.len _ _ _ _ q)) r2 q
theorem pe_callNC (F : FnC X.prog X.w X.K X.mg X.base CX k f fd ps sp) (hr : Room k X.A) (hc : Calm X.A) (hg : Gl X x) (hm : X.mg x = some (.ref f)) (hk : PySem.W.keepIn X.K (.ref f) = true) (hb : KBn X.K fd ps 0 ks g gV) (hx : Passes CX X E) (hkw : PK X kws tk)
    (hall : (backToKw pos (keywordEach kws X.env)).all (·.1.isSome) = true := by rfl) (hks : (backToKw pos (keywordEach kws X.env)).filterMap (·.1) = ks := by rfl) (hdb : (x == ("__debug__" : Str)) = false := by decide)
    (hpl : ((backTo pos (starEach [] X.env)).any (·.1) || (backToKw pos (keywordEach kws X.env)).any (·.1.isNone)) = false := by rfl) :
    PE X (.Call (.Name x p) [] kws pos) (tCallN 0 ks.length sp gV E tNil tk) := by
  refine ⟨fun pins s σ H Q I h => wpAny_Call_Name_kw (ld_glob I hg hm ?_ hdb)⟩
  refine PySem.W.callWith_KW0 (h₀ := X.base) I.ok.mod.kin hk hall (thn (hkw.run pos pins s σ H _ I h) fun ws s2 ⟨zs, H2, I2, rz, l1, l2, q2⟩ => ⟨I2.kIn, call_of ?_⟩) hpl
  rw [hks]
  exact runC F hr hc hx I2 (hb.to s2 [] ws I2.kIn rfl (rz.length.symm.trans l2)) (hb.rel (vs := []) (us := []) .nil rz) q2
end
/-! ### repr of data -/
/-- repr(x), x data without a dict -/
theorem call_reprD {X : Cx} (hg : Calm X.A) (hu : X.A.units + 66 < cLine) : CallR X (.builtin "repr") (fun xs H Q => ∃ (a : Addr) (d : PyData), xs = [.ref a] ∧ Dp X.K H (.ref a) d ∧ d.showable = true ∧ d.hasDict = false ∧ d.depth ≤ 64 ∧ d.shown.length ≤ sizeLine ∧ Q (.str d.shown) H) := by
  intro pins s σ H xs us Q I r h
  obtain ⟨a, d, rfl, hd, sh, nd, dp, sz, q⟩ := h
  obtain ⟨u, rfl, rx⟩ := vals1 r
  obtain ⟨as, rd⟩ := Dp.reads I d _ _ hd rx
  obtain rfl : u = Value.ref a := rx
  exact repr_of_reads' rd sh (fun z => by rw [nd] at z; cases z) hg (by omega) (fun _ _ e => e) (fun h' u tk hk => ⟨.str d.shown, H, I.kept hk, ⟨_, rfl⟩, q⟩) sz
end Sw
namespace Sw
open PySem PySem.Spec PyProof.Rows L2
/-! ### the law's own call, entered in calm -/
/-- the state at the law's call: an abstract heap in which nothing but the script is told -/
theorem start_at {P : Program} {w : World} {K : PySem.W.Frag} {mg mb : Str → Option Value} {a : Addr} {s : Shared} {vs : List Value} {ns : List Int}
    (KX : K.In s.heap) (hns : s.heap.Ns mainGlobals mg) (hb : s.heap.Ns builtinsNs mb) (hbb : ∀ x : Str, x ≠ "__name__" → mb x = bootBuiltins x) (hlim : s.heap.NoLimit) (hg : s.gens = #[])
    (ha : s.heap.get? a = some { cls := .type "list", data := .seq vs.toArray }) (hi : IntsAre vs ns) (hl : ns.length ≤ sizeLine) :
    ∃ (H : Hp) (base : Heap), Only H ∧ SqL K H a (ns.map V.int) ∧ K.In base ∧ base.Ns mainGlobals mg ∧ Env0 P w K mg base callerA [] s H := by
  have rv := vals_ints hi
  have bare : AllBare s.gens := .of_eq hg
  have nofrs : ∀ {H : Hp}, ∀ b ∈ frs ([] : List Env), H b = none := fun b hb => by cases hb
  cases hk : K.lookup a with
  | some o =>
    obtain rfl : { cls := .type "list", data := .seq vs.toArray } = o := Option.some.inj (ha.symm.trans (KX a o hk))
    refine ⟨fun _ => none, s.heap, fun _ => .inl rfl, .inr ⟨_, vs.toArray, _, hk, rfl, rfl, rfl, by rw [List.size_toArray, hi.length]; exact hl, by simpa using rv⟩, KX, hns, ?_⟩
    exact ⟨rfl, ⟨KX, hns, ⟨mb, hb, hbb⟩, hlim⟩, fun b o e => ⟨e, rfl⟩, Nat.le_refl _, trivial, nofrs, (fun b u z => by cases z), bare⟩
  | none =>
    let H : Hp := fun b => if b = a then some (.frz { cls := .type "list", data := .seq vs.toArray } (.lst (ns.map V.int))) else none
    have Ha : H a = some (.frz { cls := .type "list", data := .seq vs.toArray } (.lst (ns.map V.int))) := if_pos rfl
    have Hn : ∀ b, b ≠ a → H b = none := fun b h => if_neg h
    have ns_hid : ∀ {b : Addr} {m : Str → Option Value}, s.heap.Ns b m → (hidT s.heap H).Ns b m := fun {b m} q => by
      obtain ⟨o, es, ep, e, d, z⟩ := q
      refine ⟨o, es, ep, hidT_get e (Hn b fun y => ?_), d, z⟩
      rw [y, ha] at e
      cases e
      cases d
    have k_hid : K.In (hidT s.heap H) := fun b o e => hidT_get (KX b o e) (Hn b fun y => by rw [y, hk] at e; cases e)
    refine ⟨H, hidT s.heap H, fun b => ?_, .inl (.inr ⟨_, Ha⟩), k_hid, ns_hid hns, ⟨rfl, ⟨k_hid, ns_hid hns, ⟨mb, ns_hid hb, hbb⟩, ?_⟩, fun b o e => of_hidT e, Nat.le_of_eq (hidT_size _ _), trivial, nofrs, fun b u z => ?_, bare⟩⟩
    · by_cases y : b = a
      · exact .inr ⟨_, _, by rw [y]; exact Ha⟩
      · exact .inl (Hn b y)
    · obtain ⟨mc, h1, h2⟩ := hlim
      exact ⟨mc, ns_hid h1, h2⟩
    · by_cases y : b = a
      · subst y
        rw [Ha] at z
        cases z
        exact ⟨ha, by rw [List.length_map]; exact hl, vs, _, rv, ha⟩
      · rw [Hn b y] at z
        cases z
theorem walkC {l : PySem.W.OpenLaw} {n k : Nat} {q : Program} {loose : List Str} {XP : (Str → Option Value) → Heap → Prop} {YP : World → Heap → Prop} {d : DefRec} {K : Params → PySem.W.Frag} {sp : World → Sp} {x : Str}
    (hn : l.most = some n) (hn2 : n ≤ sizeLine) (hdf : d.params.defaults = []) (hr : Room k callerA) (hY : ∀ (w : World) (h : Heap), YP w h → (K w.params).In h)
    (F : ∀ (w : World) (mg : Str → Option Value) (fa : Addr) (h : Heap), (K w.params).In h → h.Ns mainGlobals mg → mg d.name = some (.ref fa) →
      ∃ fd : FuncData, (∀ (s : Shared) (u : Value), BindsTo s fd ⟨[u], []⟩ [(x, u)]) ∧ ∀ base : Heap, (K w.params).In base → base.Ns mainGlobals mg → FnC l.prog w (K w.params) mg base CX0 k fa fd [x] (sp w))
    (hsp : ∀ (w : World) (H : Hp) (a : Addr) (ns : List Int), ns.length ≤ n → Only H → SqL (K w.params) H a (ns.map V.int) → sp w [.ref a] H (fun v _ => v = .bl true) fun _ _ _ => False) :
    PySem.W.WalkO q loose XP YP l.row.toRowW d [] (fun f vs => PySem.call f vs) := by
  refine Att.attach_call hn hdf fun w s₀ s mg mb fa o pm cd doc a vs ns G Y ho hd hcd hmg hobj hints hlen hg => ?_
  have KX := hY w _ Y
  obtain ⟨fd, hb, hF⟩ := F w mg fa _ KX G.T.g hmg
  obtain ⟨H, base, hO, hS, kb, nb, e0⟩ := start_at (P := l.prog) (w := w) KX G.T.g G.T.b G.T.builtins G.T.nolimit hg hobj hints (Nat.le_trans hlen hn2)
  refine codeAny_mono ((hF base kb nb).run callerA [] s H ⟨[.ref a], []⟩ [.ref a] [.ref a] _ _ hr rfl e0 (hb s (.ref a)) (.cons rfl .nil) (hsp w H a ns hlen hO hS)) fun r s' h => ?_
  match r, h with
  | .error e, h => exact h.elim
  | .ok (.ret u), h =>
    obtain ⟨v, H', os, bare, un, hok', r', rfl⟩ := h
    obtain rfl : u = Value.bool true := r'
    refine ⟨rfl, OldK.of_keep fun b o e => ?_, os, bare⟩
    rcases hO b with z | ⟨ob, xs, z⟩
    · exact un.keep b o e z (fun y => by cases y) (fun y => by cases y)
    · have h1 := (e0.hok b _ z).1
      have h2 := (hok' b _ (un.frzs b ob _ z)).1
      rw [e] at h1
      cases h1
      exact h2
end Sw
/-! Values of any kind where a road is asked for. -/
namespace Sw
open PySem PySem.Spec PyProof.Rows L2
/-- an item of a list: a whole number, or something that is none -/
inductive Item (H : Hp) : V → Option Int → Prop
  | int (i : Int) : Item H (.int i) (some i)
  | bl (b : Bool) : Item H (.bl b) none
  | non : Item H .non none
  | str (s : Str) : Item H (.str s) none
  | tup {a : Addr} {xs : List V} : H a = some (.tup xs) → Item H (.ref a) none
  | lst {a : Addr} {xs : List V} : H a = some (.lst xs) → Item H (.ref a) none
theorem Item.same {H H' : Hp} {v : V} {o : Option Int} (s : Same H H') (h : Item H v o) : Item H' v o := by
  cases h with
  | int i => exact .int i
  | bl b => exact .bl b
  | non => exact .non
  | str x => exact .str x
  | tup h => exact .tup (s _ _ h)
  | lst h => exact .lst (s _ _ h)
/-- the items of a list, in order -/
def Items (H : Hp) (xs : List V) (os : List (Option Int)) : Prop := xs.length = os.length ∧ ∀ (i : Nat) (x : V), xs[i]? = some x → ∃ o, os[i]? = some o ∧ Item H x o
theorem Items.same {H H' : Hp} {xs : List V} {os : List (Option Int)} (s : Same H H') (h : Items H xs os) : Items H' xs os :=
  ⟨h.1, fun i x e => by obtain ⟨o, h1, h2⟩ := h.2 i x e; exact ⟨o, h1, h2.same s⟩⟩
theorem Items.nil {H : Hp} : Items H [] [] := ⟨rfl, fun i x e => by cases e⟩
theorem Items.cons {H : Hp} {x : V} {o : Option Int} {xs : List V} {os : List (Option Int)} (h : Item H x o) (t : Items H xs os) : Items H (x :: xs) (o :: os) := by
  refine ⟨by rw [List.length_cons, List.length_cons, t.1], fun i y e => ?_⟩
  cases i with
  | zero => cases e; exact ⟨o, rfl, h⟩
  | succ i => exact t.2 i y e
theorem Items.append {H : Hp} : ∀ {xs ys : List V} {os us : List (Option Int)}, Items H xs os → Items H ys us → Items H (xs ++ ys) (os ++ us)
  | [], ys, [], us, _, h => h
  | [], ys, o :: os, us, h, _ => by cases h.1
  | x :: xs, ys, [], us, h, _ => by cases h.1
  | x :: xs, ys, o :: os, us, h, g => by
    obtain ⟨p, hp, hi⟩ := h.2 0 x rfl
    cases hp
    exact .cons hi (Items.append ⟨Nat.succ.inj h.1, fun i y e => h.2 (i + 1) y e⟩ g)
theorem Items.ints {H : Hp} : ∀ (ns : List Int), Items H (ns.map V.int) (ns.map some)
  | [] => .nil
  | n :: ns => .cons (.int n) (Items.ints ns)
/-- a value of any kind: a list with its items, or something else -/
inductive Val (H : Hp) : V → Option (List (Option Int)) → Prop
  | lst {a : Addr} {xs : List V} {os : List (Option Int)} : H a = some (.lst xs) → Items H xs os → Val H (.ref a) (some os)
  | tup {a : Addr} {xs : List V} : H a = some (.tup xs) → Val H (.ref a) none
  | dic {a : Addr} {kvs : List (Key × V)} : H a = some (.dK kvs) → Val H (.ref a) none
  | int (i : Int) : Val H (.int i) none
  | bl (b : Bool) : Val H (.bl b) none
  | non : Val H .non none
  | str (s : Str) : Val H (.str s) none
theorem Val.same {H H' : Hp} {v : V} {o : Option (List (Option Int))} (s : Same H H') (h : Val H v o) : Val H' v o := by
  cases h with
  | lst h g => exact .lst (s _ _ h) (g.same s)
  | tup h => exact .tup (s _ _ h)
  | dic h => exact .dic (s _ _ h)
  | int i => exact .int i
  | bl b => exact .bl b
  | non => exact .non
  | str x => exact .str x
def cntB : Option Int → Bool
  | some i => decide (0 ≤ i)
  | none => false
/-- the place at which a deed is done, if the item is one -/
def placeO (l js : List Nat) : Option Int → Option Nat
  | some i => if 0 ≤ i then (match l[i.toNat]? with | some c => if c ∈ js then some i.toNat else none | none => none) else none
  | none => none
/-- whether the items are a road -/
def walkO (js : List Nat) : List Nat → List (Option Int) → Bool
  | _, [] => true
  | l, o :: os => match placeO l js o with | some p => walkO js (swapL l p) os | none => false
def roadB (js l : List Nat) : Option (List (Option Int)) → Bool
  | some os => walkO js l os
  | none => false
theorem placeO_lt {l js : List Nat} {o : Option Int} {p : Nat} (h : placeO l js o = some p) : ∃ c, o = some (p : Int) ∧ l[p]? = some c ∧ c ∈ js := by
  cases o with
  | none => cases h
  | some i =>
    replace h : (if 0 ≤ i then (match l[i.toNat]? with | some c => if c ∈ js then some i.toNat else none | none => none) else none) = some p := h
    split at h
    · split at h
      · rename_i c e
        split at h
        · rename_i hc
          cases h
          exact ⟨c, by rw [show ((i.toNat : Nat) : Int) = i by omega], e, hc⟩
        · cases h
      · cases h
    · cases h
theorem placeO_yes {l js : List Nat} {p c : Nat} (h : l[p]? = some c) (hm : c ∈ js) : placeO l js (some (p : Int)) = some p := by
  show (if 0 ≤ (p : Int) then (match l[(p : Int).toNat]? with | some c => if c ∈ js then some (p : Int).toNat else none | none => none) else none) = some p
  rw [if_pos (by omega), Int.toNat_natCast, h]
  exact if_pos hm
theorem placeO_not {l js : List Nat} {p c : Nat} (h : l[p]? = some c) (hm : ¬ c ∈ js) : placeO l js (some (p : Int)) = none := by
  show (if 0 ≤ (p : Int) then (match l[(p : Int).toNat]? with | some c => if c ∈ js then some (p : Int).toNat else none | none => none) else none) = none
  rw [if_pos (by omega), Int.toNat_natCast, h]
  exact if_neg hm
theorem placeO_far {l js : List Nat} {p : Nat} (h : l.length ≤ p) : placeO l js (some (p : Int)) = none := by
  show (if 0 ≤ (p : Int) then (match l[(p : Int).toNat]? with | some c => if c ∈ js then some (p : Int).toNat else none | none => none) else none) = none
  rw [if_pos (by omega), Int.toNat_natCast, List.getElem?_eq_none h]
theorem placeO_neg {l js : List Nat} {i : Int} (h : ¬ 0 ≤ i) : placeO l js (some i) = none := by
  show (if 0 ≤ i then (match l[i.toNat]? with | some c => if c ∈ js then some i.toNat else none | none => none) else none) = none
  rw [if_neg h]
theorem walkO_step {js l : List Nat} {os : List (Option Int)} {i p : Nat} {o : Option Int} (h : os[i]? = some o) (hp : placeO l js o = some p) : walkO js l (os.drop i) = walkO js (swapL l p) (os.drop (i + 1)) := by
  obtain ⟨hi, rfl⟩ := List.getElem?_eq_some_iff.mp h
  rw [List.drop_eq_getElem_cons hi]
  show (match placeO l js os[i] with | some p => walkO js (swapL l p) (os.drop (i + 1)) | none => false) = _
  rw [hp]
theorem walkO_stop {js l : List Nat} {os : List (Option Int)} {i : Nat} {o : Option Int} (h : os[i]? = some o) (hp : placeO l js o = none) : walkO js l (os.drop i) = false := by
  obtain ⟨hi, rfl⟩ := List.getElem?_eq_some_iff.mp h
  rw [List.drop_eq_getElem_cons hi]
  show (match placeO l js os[i] with | some p => walkO js (swapL l p) (os.drop (i + 1)) | none => false) = _
  rw [hp]
theorem walkO_end {js l : List Nat} {os : List (Option Int)} : walkO js l (os.drop os.length) = true := by
  rw [List.drop_length]
  rfl
theorem atI_snoc {xs : List V} {x : V} : atI (xs ++ [x]) (-1) = some x := by
  refine at_last ?_
  rw [List.length_append]
  simp
theorem atI_len {xs : List V} {x : V} : atI (xs ++ [x]) ((((xs ++ [x]).length : Nat) : Int) - 1) = some x := by
  unfold atI ixN
  rw [List.length_append]
  have e : ((xs.length + [x].length : Nat) : Int) - 1 = (xs.length : Int) := by simp
  rw [e, if_pos (by omega), if_pos (by simp; omega)]
  show (xs ++ [x])[((xs.length : Nat) : Int).toNat]? = some x
  simp
end Sw
/-! repr of a value of any kind, where no repr is under way -/
namespace Sw
open PySem PySem.Spec PyProof.Rows L2
/-- what repr tells of a value -/
inductive Rp (K : PySem.W.Frag) (H : Hp) : V → Str → Prop
  | non : Rp K H .non (Str.ofString "None")
  | bl (b : Bool) : Rp K H (.bl b) (if b = true then Str.ofString "True" else Str.ofString "False")
  | int (i : Int) : i.natAbs.log2 < 1920 → Rp K H (.int i) (Str.ofString (toString i))
  | str (s : Str) : (reprText s).length ≤ sizeLine → Rp K H (.str s) (reprText s)
  | dic {a : Addr} : H a = some (.dK []) → Rp K H (.ref a) (PyData.dict []).shown
  | dk {a : Addr} {ps : List (Str × Int)} : H a = some (.dK (ps.map fun p => ((Sum.inr p.1 : Key), V.int p.2))) → (PyData.dict (ps.map fun p => (PyData.str p.1, PyData.int p.2))).showable = true → (PyData.dict (ps.map fun p => (PyData.str p.1, PyData.int p.2))).depth ≤ 2 → (PyData.dict (ps.map fun p => (PyData.str p.1, PyData.int p.2))).shown.length ≤ sizeLine → Rp K H (.ref a) (PyData.dict (ps.map fun p => (PyData.str p.1, PyData.int p.2))).shown
  | seq {a : Addr} {d : PyData} : Dp K H (.ref a) d → d.showable = true → d.hasDict = false → d.depth ≤ 62 → d.shown.length ≤ sizeLine → Rp K H (.ref a) d.shown
theorem sqL_same {K : PySem.W.Frag} {H H' : Hp} {a : Addr} {xs : List V} (s : Same H H') (h : SqL K H a xs) : SqL K H' a xs := by
  rcases h with (h | ⟨o, h⟩) | h
  · exact .inl (.inl (s _ _ h))
  · exact .inl (.inr ⟨o, s _ _ h⟩)
  · exact .inr h
theorem sqT_same {K : PySem.W.Frag} {H H' : Hp} {a : Addr} {xs : List V} (s : Same H H') (h : SqT K H a xs) : SqT K H' a xs := by
  rcases h with (h | ⟨o, h⟩) | h
  · exact .inl (.inl (s _ _ h))
  · exact .inl (.inr ⟨o, s _ _ h⟩)
  · exact .inr h
mutual
theorem dp_same {K : PySem.W.Frag} {H H' : Hp} (s : Same H H') : ∀ {d : PyData} {v : V}, Dp K H v d → Dp K H' v d
  | _, _, .non => .non
  | _, _, .bl b => .bl b
  | _, _, .int i => .int i
  | _, _, .str x => .str x
  | _, _, .lst h g => .lst (sqL_same s h) (dpAll_same s g)
  | _, _, .tup h g => .tup (sqT_same s h) (dpAll_same s g)
theorem dpAll_same {K : PySem.W.Frag} {H H' : Hp} (s : Same H H') : ∀ {ds : List PyData} {vs : List V}, DpAll K H vs ds → DpAll K H' vs ds
  | _, _, .nil => .nil
  | _, _, .cons h t => .cons (dp_same s h) (dpAll_same s t)
end
theorem Rp.same {K : PySem.W.Frag} {H H' : Hp} {v : V} {t : Str} (s : Same H H') (h : Rp K H v t) : Rp K H' v t := by
  cases h with
  | non => exact .non
  | bl b => exact .bl b
  | int i h => exact .int i h
  | str x h => exact .str x h
  | dic h => exact .dic (s _ _ h)
  | dk h h1 h2 h3 => exact .dk (s _ _ h) h1 h2 h3
  | seq d h1 h2 h3 h4 => exact .seq (dp_same s d) h1 h2 h3 h4
theorem reads_dk {P : Program} {w : World} {h : Heap} : ∀ {ps : List (Str × Int)} {vs : List (Key × Value)} {es : List DictEntry}, KV (ps.map fun p => ((Sum.inr p.1 : Key), V.int p.2)) vs → Pairs (mixKind P w) es vs →
    ReadsAll h (es.map (·.key)) ((ps.map fun p => (PyData.str p.1, PyData.int p.2)).map (·.1)) [] ∧ ReadsAll h (es.map (·.val)) ((ps.map fun p => (PyData.str p.1, PyData.int p.2)).map (·.2)) []
  | [], _, _, kv, pr => by
    cases kv
    cases pr
    exact ⟨.nil, .nil⟩
  | p :: ps, _, _, kv, pr => by
    rw [List.map_cons] at kv
    cases kv with
    | cons h1 t1 =>
      cases pr with
      | @cons e _ es' vs' h2 h3 t2 =>
        obtain ⟨a1, a2⟩ := h1
        obtain ⟨b1, b2⟩ := reads_dk (h := h) t1 t2
        rw [← a1] at h2
        obtain ⟨tk, a3⟩ := a2
        have hk : ∃ t, e.key = Value.str p.1 t := by
          rcases keyIs_shape (show keyIs (Sum.inr p.1) e.key = true from h2) with ⟨i, t, e1, _⟩ | ⟨x, t, e1, e2⟩
          · cases e1
          · cases e1
            exact ⟨t, e2⟩
        obtain ⟨tt, hk⟩ := hk
        rw [List.map_cons, List.map_cons, List.map_cons, List.map_cons, List.map_cons]
        refine ⟨?_, ?_⟩
        · have r1 : Reads h e.key (PyData.str p.1) [] := by rw [hk]; exact .str _ _
          exact .cons r1 b1
        · have r1 : Reads h e.val (PyData.int p.2) [] := by rw [h3, a3]; exact .int _ _
          exact .cons r1 b2
/-- repr(x) -/
theorem call_reprV {X : Cx} (hg : Calm X.A) (hu : X.A.units + 64 < cLine) : CallR X (.builtin "repr") (fun xs H Q => ∃ (v : V) (t : Str), xs = [v] ∧ Rp X.K H v t ∧ Q (.str t) H) := by
  intro pins s σ H xs us Q I r h
  obtain ⟨v, t, rfl, hr, q⟩ := h
  obtain ⟨u, rfl, rx⟩ := vals1 r
  cases hr with
  | non =>
    obtain rfl : u = Value.none := rx
    exact PySem.P.repr_of_none ⟨.str _, H, I.kept (fun _ _ e => e), ⟨_, rfl⟩, q⟩
  | bl b =>
    obtain rfl : u = Value.bool b := rx
    exact PySem.P.repr_of_bool ⟨.str _, H, I.kept (fun _ _ e => e), ⟨_, rfl⟩, q⟩
  | int i hi =>
    obtain ⟨t, rfl⟩ : ∃ t, u = Value.int i t := rx
    exact PySem.P.repr_of_int hi ⟨.str _, H, I.kept (fun _ _ e => e), ⟨_, rfl⟩, q⟩
  | str x hx =>
    obtain ⟨t, rfl⟩ : ∃ t, u = Value.str x t := rx
    exact PySem.P.repr_of_str ⟨.str _, H, I.kept (fun _ _ e => e), ⟨_, rfl⟩, q⟩ hx
  | @dic a ha =>
    obtain rfl : u = Value.ref a := rx
    have ok := I.hok a _ ha
    obtain ⟨_, low, vs, kv, o, es, ep, e, ex, ed, _, pr, _⟩ := ok
    cases kv
    have hes : es.toList = [] := by
      cases hl : es.toList with
      | nil => rfl
      | cons y ys => rw [hl] at pr; cases pr
    have rd : Reads s.heap (.ref a) (.dict []) ([a] ++ []) := .dict e ex.1 ed (by rw [hes]; exact .nil) (by rw [hes]; exact .nil)
    exact repr_of_reads' rd rfl (fun _ m => by
      rw [List.mem_singleton.mp m, beq_self_eq_true] at low
      cases low) hg (by show X.A.units + ((PyData.dict []).depth + 1) < cLine; have : (PyData.dict []).depth ≤ 2 := by decide
                        omega) (fun _ _ e => e) (fun h' u tk hk => ⟨.str _, H, I.kept hk, ⟨_, rfl⟩, q⟩) (by decide +kernel)
  | @dk a ps ha sh dp sz =>
    obtain rfl : u = Value.ref a := rx
    have ok := I.hok a _ ha
    obtain ⟨_, low, vs, kv, o, es, ep, e, ex, ed, _, pr, _⟩ := ok
    obtain ⟨r1, r2⟩ := reads_dk (h := s.heap) kv pr
    have rd : Reads s.heap (.ref a) (.dict (ps.map fun p => (PyData.str p.1, PyData.int p.2))) ([a] ++ []) := .dict e ex.1 ed r1 r2
    exact repr_of_reads' rd sh (fun _ m => by
      rw [List.mem_singleton.mp m, beq_self_eq_true] at low
      cases low) hg (by show X.A.units + ((PyData.dict _).depth + 1) < cLine; omega) (fun _ _ e => e) (fun h' u tk hk => ⟨.str _, H, I.kept hk, ⟨_, rfl⟩, q⟩) sz
  | @seq a d hd sh nd dp sz =>
    obtain ⟨as, rd⟩ := Dp.reads I d _ _ hd rx
    obtain rfl : u = Value.ref a := rx
    exact repr_of_reads' rd sh (fun z => by rw [nd] at z; cases z) hg (by omega) (fun _ _ e => e) (fun h' u tk hk => ⟨.str d.shown, H, I.kept hk, ⟨_, rfl⟩, q⟩) sz
end Sw

namespace Sw
open PySem PySem.Spec PyProof.Rows L2
/-! ### xs[::step], step reckoned to -1 -/
def tRevS (K : PySem.W.Frag) (te ts : TE) : TE := fun σ H Q => te σ H fun x H1 => ∃ (a : Addr) (xs : List V), x = .ref a ∧ tPart ts σ H1 fun o H2 => o = some (-1) ∧ SqL K H2 a xs ∧ ∀ p, H2 p = none → Q (.ref p) (upd H2 p (.lst xs.reverse))
theorem pe_revS {X : Cx} {e st : PySem.Expr} {te ts : TE} {p3 pos : Pos} (he : PE X e te) (hs : PE X st ts) : PE X (.Subscript e (.Slice none none (some st) p3) pos) (tRevS X.K te ts) := by
  refine ⟨fun pins s σ H Q I h => Subscript_ (thn (he.run pins s σ H _ I h) fun v s1 ⟨x, H1, I1, r1, q1⟩ => ?_)⟩
  obtain ⟨a, xs, rfl, q⟩ := q1
  obtain rfl : v = .ref a := r1
  refine wpAny_Slice (thn (po_none.run pins s1 σ H1 (fun o H2 => o = none ∧ H2 = H1) I1 ⟨rfl, rfl⟩) fun vl s2 ⟨l, H2, I2, pl, el, e2⟩ => ?_)
  subst el e2
  refine thn (po_none.run pins s2 σ H2 (fun o H3 => o = none ∧ H3 = H2) I2 ⟨rfl, rfl⟩) fun vu s3 ⟨u, H3, I3, pu, eu, e3⟩ => ?_
  subst eu e3
  refine thn ((po_some hs).run pins s3 σ H3 _ I3 q) fun vs s4 ⟨o, H4, I4, ps, eo, hx, q4⟩ => ?_
  subst eo
  have I5 := I4.kept (t' := s4.toks) (fun b ob q => Heap.get?_push_of_some { cls := Value.type "slice", data := Data.fields #[vl, vu, vs] } q)
  obtain ⟨its, r, ht, hz⟩ := I5.list hx
  have hlen := r.length
  refine tail_any (PlainL.isList ht).typeIs slot_list_getitem.lookup (wpAny_getItem_list_slice (PlainL.isList ht) (Heap.IsSliceOf.new s4.heap vl vu vs) pl pu ps (by decide) ?_ ?_) rfl
  · rw [PySem.W.krv_pick]
    refine ⟨.ref _, _, I5.laid (o := HO.lst xs.reverse) (fun b ob q => Heap.get?_push_of_some _ q) (Nat.le_refl _) ⟨by rw [List.length_reverse]; exact hz, its.reverse, 0, r.reverse, Heap.get?_push_size _ rfl⟩, rfl, q4 _ (HOk.fresh I5.hok (Nat.le_refl _))⟩
  · rw [List.size_toArray]; omega
end Sw
/-! Data short enough for repr; values of any kind with what repr tells of them. -/
namespace Sw
open PySem PySem.Spec PyProof.Rows L2
structure Short (D W : Nat) (d : PyData) : Prop where
  sh : d.showable = true
  nd : d.hasDict = false
  dp : d.depth ≤ D
  wt : d.weight ≤ W
  lv : PyData.leavesShort 13 d = true
structure ShortAll (D W : Nat) (ds : List PyData) : Prop where
  sh : PyData.showableAll ds = true
  nd : PyData.hasDictAll ds = false
  dp : PyData.depthAll ds ≤ D
  wt : PyData.weightAll ds ≤ ds.length * (W + 1)
  lv : PyData.leavesShortAll 13 ds = true
theorem Short.all {D W : Nat} : ∀ {ds : List PyData}, (∀ d ∈ ds, Short D W d) → ShortAll D W ds
  | [], _ => ⟨rfl, rfl, Nat.zero_le _, Nat.zero_le _, rfl⟩
  | d :: ds, h => by
    have a := h d List.mem_cons_self
    have b := Short.all (ds := ds) fun y hy => h y (List.mem_cons_of_mem _ hy)
    refine ⟨?_, ?_, ?_, ?_, ?_⟩
    · show (d.showable && PyData.showableAll ds) = true
      rw [a.sh, b.sh]; rfl
    · show (d.hasDict || PyData.hasDictAll ds) = false
      rw [a.nd, b.nd]; rfl
    · exact Nat.max_le.mpr ⟨a.dp, b.dp⟩
    · show d.weight + 1 + PyData.weightAll ds ≤ (ds.length + 1) * (W + 1)
      have := a.wt
      have := b.wt
      rw [Nat.add_mul, Nat.one_mul]
      omega
    · show (PyData.leavesShort 13 d && PyData.leavesShortAll 13 ds) = true
      rw [a.lv, b.lv]; rfl
theorem Short.list {D W : Nat} {ds : List PyData} (h : ∀ d ∈ ds, Short D W d) : Short (D + 1) (ds.length * (W + 1)) (.list ds) :=
  have a := Short.all h
  ⟨a.sh, a.nd, Nat.succ_le_succ a.dp, a.wt, a.lv⟩
theorem Short.tup {D W : Nat} {ds : List PyData} (h : ∀ d ∈ ds, Short D W d) : Short (D + 1) (ds.length * (W + 1)) (.tuple ds) :=
  have a := Short.all h
  ⟨a.sh, a.nd, Nat.succ_le_succ a.dp, a.wt, a.lv⟩
theorem Short.mono {D W E X : Nat} {d : PyData} (h : Short D W d) (e : D ≤ E) (x : W ≤ X) : Short E X d := ⟨h.sh, h.nd, Nat.le_trans h.dp e, Nat.le_trans h.wt x, h.lv⟩
theorem Short.non : Short 0 0 .none := ⟨rfl, rfl, Nat.le_refl _, Nat.le_refl _, by decide +kernel⟩
theorem Short.bl (b : Bool) : Short 0 0 (.bool b) := by cases b <;> exact ⟨rfl, rfl, Nat.le_refl _, Nat.le_refl _, by decide +kernel⟩
theorem Short.int {i : Int} (h : i.natAbs ≤ 99999) : Short 0 17 (.int i) := by
  have hl : i.natAbs.log2 ≤ 16 := by
    by_cases z : i.natAbs = 0
    · rw [z]; decide
    · have := (Nat.log2_lt z (k := 17)).mpr (by omega)
      omega
  refine ⟨decide_eq_true (Nat.lt_of_le_of_lt hl (by decide)), rfl, Nat.le_refl _, ?_, ?_⟩
  · show (if (i == 0) = true then 0 else i.natAbs.log2 + 1) ≤ 17
    split <;> omega
  · refine decide_eq_true ?_
    exact PyData.shown_int_le (Nat.lt_of_le_of_lt h (by decide))
theorem Short.rp {K : PySem.W.Frag} {H : Hp} {a : Addr} {d : PyData} (h : Short 60 (2 ^ 20) d) (p : Dp K H (.ref a) d) : Rp K H (.ref a) d.shown :=
  .seq p h.sh h.nd (Nat.le_trans h.dp (by decide)) (PyData.shown_fits (B := 13) (by decide) (by decide) h.lv h.wt)
/-- items with their data -/
def Its (K : PySem.W.Frag) (H : Hp) (xs : List V) (os : List (Option Int)) : Prop := Items H xs os ∧ ∃ ds, DpAll K H xs ds ∧ ds.length = xs.length ∧ ∀ d ∈ ds, Short 2 2000 d
theorem Its.nil {K : PySem.W.Frag} {H : Hp} : Its K H [] [] := ⟨.nil, [], .nil, rfl, fun _ h => by cases h⟩
theorem Its.cons {K : PySem.W.Frag} {H : Hp} {x : V} {o : Option Int} {d : PyData} {xs : List V} {os : List (Option Int)} (h : Item H x o) (p : Dp K H x d) (s : Short 2 2000 d) (t : Its K H xs os) : Its K H (x :: xs) (o :: os) := by
  obtain ⟨t1, ds, t2, t3, t4⟩ := t
  refine ⟨.cons h t1, d :: ds, .cons p t2, by rw [List.length_cons, List.length_cons, t3], fun y hy => ?_⟩
  rcases List.mem_cons.mp hy with rfl | hy
  · exact s
  · exact t4 y hy
theorem dpAll_append {K : PySem.W.Frag} {H : Hp} : ∀ {xs ys : List V} {ds es : List PyData}, DpAll K H xs ds → DpAll K H ys es → DpAll K H (xs ++ ys) (ds ++ es)
  | _, _, _, _, .nil, h => h
  | _, _, _, _, .cons h t, g => .cons h (dpAll_append t g)
theorem Its.append {K : PySem.W.Frag} {H : Hp} {xs ys : List V} {os us : List (Option Int)} (h : Its K H xs os) (g : Its K H ys us) : Its K H (xs ++ ys) (os ++ us) := by
  obtain ⟨h1, ds, h2, h3, h4⟩ := h
  obtain ⟨g1, es, g2, g3, g4⟩ := g
  refine ⟨h1.append g1, ds ++ es, dpAll_append h2 g2, by rw [List.length_append, List.length_append, h3, g3], fun d hd => ?_⟩
  rcases List.mem_append.mp hd with hd | hd
  · exact h4 d hd
  · exact g4 d hd
theorem Its.same {K : PySem.W.Frag} {H H' : Hp} {xs : List V} {os : List (Option Int)} (s : Same H H') (h : Its K H xs os) : Its K H' xs os := by
  obtain ⟨h1, ds, h2, h3, h4⟩ := h
  exact ⟨h1.same s, ds, dpAll_same s h2, h3, h4⟩
theorem Its.ints {K : PySem.W.Frag} {H : Hp} : ∀ {ns : List Int}, (∀ n ∈ ns, n.natAbs ≤ 99999) → Its K H (ns.map V.int) (ns.map some)
  | [], _ => .nil
  | n :: ns, h => .cons (.int n) (.int n) ((Short.int (h n List.mem_cons_self)).mono (by decide) (by decide)) (Its.ints fun y hy => h y (List.mem_cons_of_mem _ hy))
theorem Its.places {K : PySem.W.Frag} {H : Hp} : ∀ {ns : List Nat}, (∀ n ∈ ns, n ≤ 99999) → Its K H (placesV ns) (ns.map fun p : Nat => some (p : Int))
  | [], _ => .nil
  | n :: ns, h => .cons (.int n) (.int n) ((Short.int (by have := h n List.mem_cons_self; omega)).mono (by decide) (by decide)) (Its.places fun y hy => h y (List.mem_cons_of_mem _ hy))
/-- a value of any kind, with what repr tells of it -/
def Fine (K : PySem.W.Frag) (H : Hp) (v : V) : Prop := ∃ (o : Option (List (Option Int))) (t : Str), Val H v o ∧ Rp K H v t ∧ ∀ os, o = some os → os.length ≤ 50000
theorem Fine.same {K : PySem.W.Frag} {H H' : Hp} {v : V} (s : Same H H') (h : Fine K H v) : Fine K H' v := by
  obtain ⟨o, t, h1, h2, h3⟩ := h
  exact ⟨o, t, h1.same s, h2.same s, h3⟩
theorem Its.rp {K : PySem.W.Frag} {H : Hp} {xs : List V} {os : List (Option Int)} {a : Addr} (h : Its K H xs os) (n : xs.length ≤ 500) (e : H a = some (.lst xs)) : ∃ d : PyData, Rp K H (.ref a) d.shown := by
  obtain ⟨h1, ds, h2, h3, h4⟩ := h
  have s := Short.list h4
  rw [h3] at s
  exact ⟨_, Short.rp (s.mono (by decide) (by omega)) (.lst (SqL.of e) h2)⟩
theorem Its.rpT {K : PySem.W.Frag} {H : Hp} {xs : List V} {os : List (Option Int)} {a : Addr} (h : Its K H xs os) (n : xs.length ≤ 500) (e : H a = some (.tup xs)) : ∃ d : PyData, Rp K H (.ref a) d.shown := by
  obtain ⟨h1, ds, h2, h3, h4⟩ := h
  have s := Short.tup h4
  rw [h3] at s
  exact ⟨_, Short.rp (s.mono (by decide) (by omega)) (.tup (SqT.of e) h2)⟩
theorem Fine.lst {K : PySem.W.Frag} {H : Hp} {xs : List V} {os : List (Option Int)} {a : Addr} (h : Its K H xs os) (n : xs.length ≤ 500) (e : H a = some (.lst xs)) : Fine K H (.ref a) := by
  obtain ⟨d, p⟩ := h.rp n e
  exact ⟨some os, _, .lst e h.1, p, fun os' z => by cases z; rw [← h.1.1]; omega⟩
theorem Fine.tup {K : PySem.W.Frag} {H : Hp} {xs : List V} {os : List (Option Int)} {a : Addr} (h : Its K H xs os) (n : xs.length ≤ 500) (e : H a = some (.tup xs)) : Fine K H (.ref a) := by
  obtain ⟨d, p⟩ := h.rpT n e
  exact ⟨none, _, .tup e, p, fun os' z => by cases z⟩
theorem Fine.non {K : PySem.W.Frag} {H : Hp} : Fine K H .non := ⟨none, _, .non, .non, fun _ z => by cases z⟩
theorem Fine.int {K : PySem.W.Frag} {H : Hp} {i : Int} (h : i.natAbs.log2 < 1920) : Fine K H (.int i) := ⟨none, _, .int i, .int i h, fun _ z => by cases z⟩
theorem Fine.str {K : PySem.W.Frag} {H : Hp} {s : Str} (h : (reprText s).length ≤ sizeLine) : Fine K H (.str s) := ⟨none, _, .str s, .str s h, fun _ z => by cases z⟩
theorem Fine.dic {K : PySem.W.Frag} {H : Hp} {a : Addr} (e : H a = some (.dK [])) : Fine K H (.ref a) := ⟨none, _, .dic e, .dic e, fun _ z => by cases z⟩

/-- one item with its data -/
def OneIt (K : PySem.W.Frag) (H : Hp) (x : V) : Prop := ∃ (o : Option Int) (d : PyData), Item H x o ∧ Dp K H x d ∧ Short 2 2000 d
theorem OneIt.same {K : PySem.W.Frag} {H H' : Hp} {x : V} (s : Same H H') (h : OneIt K H x) : OneIt K H' x := by
  obtain ⟨o, d, h1, h2, h3⟩ := h
  exact ⟨o, d, h1.same s, dp_same s h2, h3⟩
theorem OneIt.int {K : PySem.W.Frag} {H : Hp} {i : Int} (h : i.natAbs ≤ 99999) : OneIt K H (.int i) := ⟨_, _, .int i, .int i, (Short.int h).mono (by decide) (by decide)⟩
theorem OneIt.bl {K : PySem.W.Frag} {H : Hp} (b : Bool) : OneIt K H (.bl b) := ⟨_, _, .bl b, .bl b, (Short.bl b).mono (by decide) (by decide)⟩
theorem OneIt.non {K : PySem.W.Frag} {H : Hp} : OneIt K H .non := ⟨_, _, .non, .non, Short.non.mono (by decide) (by decide)⟩
theorem OneIt.zero {K : PySem.W.Frag} {H : Hp} : OneIt K H (.str (Str.ofString "0")) := ⟨_, _, .str _, .str _, ⟨by decide +kernel, by decide +kernel, by decide +kernel, by decide +kernel, by decide +kernel⟩⟩
theorem OneIt.tup {K : PySem.W.Frag} {H : Hp} {a : Addr} (h : H a = some (.tup [.int 0])) : OneIt K H (.ref a) :=
  ⟨_, _, .tup h, .tup (SqT.of h) (.cons (.int 0) .nil), (Short.tup (D := 0) (W := 17) fun d hd => by rw [List.mem_singleton.mp hd]; exact Short.int (by decide)).mono (by decide) (by decide)⟩
theorem OneIt.lst {K : PySem.W.Frag} {H : Hp} {a : Addr} (h : H a = some (.lst [.int 0])) : OneIt K H (.ref a) :=
  ⟨_, _, .lst h, .lst (SqL.of h) (.cons (.int 0) .nil), (Short.list (D := 0) (W := 17) fun d hd => by rw [List.mem_singleton.mp hd]; exact Short.int (by decide)).mono (by decide) (by decide)⟩
theorem OneIt.its {K : PySem.W.Frag} {H : Hp} {x : V} (h : OneIt K H x) : ∃ o, Its K H [x] [o] := by
  obtain ⟨o, d, h1, h2, h3⟩ := h
  exact ⟨o, .cons h1 h2 h3 .nil⟩
theorem placesDp {K : PySem.W.Frag} {H : Hp} : ∀ r : List Nat, DpAll K H (placesV r) (r.map fun p : Nat => PyData.int (p : Int))
  | [] => .nil
  | p :: r => .cons (.int _) (placesDp r)
theorem Its.nest {K : PySem.W.Frag} {H : Hp} {v : Addr} {r : List Nat} (h : H v = some (.lst (placesV r))) (l : r.length ≤ 100) (b : ∀ p ∈ r, p ≤ 99999) : Its K H [V.ref v] [none] := by
  have s := Short.list (D := 0) (W := 17) (ds := r.map fun p : Nat => PyData.int (p : Int)) fun d hd => by
    obtain ⟨p, hp, rfl⟩ := List.mem_map.mp hd
    exact Short.int (by have := b p hp; omega)
  rw [List.length_map] at s
  exact .cons (.lst h) (.lst (SqL.of h) (placesDp r)) (s.mono (by decide) (by omega)) .nil
theorem But.free {g m : Addr} {H H' : Hp} {n : Nat} (b : But g H H') (G : GenAt H' g n) (h : H' m = none) : H m = none := by
  cases e : H m with
  | none => rfl
  | some o =>
    by_cases z : m = g
    · subst z
      obtain ⟨x, y, w, h0, _⟩ := G
      rw [h0] at h
      cases h
    · rw [b m o z e] at h
      cases h
end Sw
/-! Lists of words compared; the words of the road back. -/
namespace Sw
open PySem PySem.Spec PyProof.Rows L2
def wordsD (ws : List (List Nat)) : List PyData := ws.map fun l => PyData.str (S l)
theorem words_dp {K : PySem.W.Frag} {H : Hp} : ∀ ws : List (List Nat), DpAll K H (wordsV ws) (wordsD ws)
  | [] => .nil
  | l :: r => .cons (.str _) (words_dp r)
theorem words_lay : ∀ {ws : List (List Nat)}, (∀ l ∈ ws, wordB l = true) → PyData.canLayAll0 (wordsD ws) = true
  | [], _ => rfl
  | l :: r, h => by
    have h1 := h l List.mem_cons_self
    have h2 := words_lay (ws := r) fun y hy => h y (List.mem_cons_of_mem _ hy)
    have e : PyData.strOk (S l) = true := by
      show (l.toArray.all fun c => decide (c < 0x110000)) = true
      rw [List.all_toArray]
      refine List.all_eq_true.mpr fun c hc => decide_eq_true ?_
      have := wordB_mem h1 hc
      omega
    show (PyData.strOk (S l) && PyData.canLayAll0 (wordsD r)) = true
    rw [e, h2]
    rfl
theorem words_depth : ∀ ws : List (List Nat), PyData.depthAll (wordsD ws) = 0
  | [] => rfl
  | l :: r => by
    show max (PyData.depth (.str (S l))) (PyData.depthAll (wordsD r)) = 0
    rw [words_depth r]
    rfl
theorem words_shaped {ws : List (List Nat)} (h : ∀ l ∈ ws, wordB l = true) : SeqAt.shaped (.list (wordsD ws)) = true := by
  unfold SeqAt.shaped
  have e : (PyData.list (wordsD ws)).depth = 1 := by
    show PyData.depthAll (wordsD ws) + 1 = 1
    rw [words_depth]
  have e2 : (PyData.list (wordsD ws)).canLay0 = true := words_lay h
  rw [e, e2]
  rfl
/-- a test that two lists of words are unlike, which they are not -/
theorem ne_words {K : PySem.W.Frag} {H : Hp} {a b : Addr} {ws : List (List Nat)} {Q : VK} (h : ∀ l ∈ ws, wordB l = true) (ha : SqL K H a (wordsV ws)) (hb : SqL K H b (wordsV ws)) (q : Q (.bl false) H) : rNeD K (.ref a) (.ref b) H Q := by
  refine ⟨_, _, .lst ha (words_dp ws), .lst hb (words_dp ws), words_shaped h, words_shaped h, ?_⟩
  rw [show PyData.eqv (.list (wordsD ws)) (.list (wordsD ws)) = true from PySem.SeqAt.eqv_refl _ (words_lay h)]
  exact q
theorem swapL_mem' {l : List Nat} {p : Nat} (h : wordB l = true) : wordB (swapL l p) = true := wordB_of fun c hc => wordB_mem h (swapL_mem hc)
theorem pass_words {l : List Nat} (h : wordB l = true) : ∀ (r : List Nat) (w : List Nat), w ∈ pass l r → wordB w = true := by
  intro r
  induction r generalizing l with
  | nil => intro w hw; rw [List.mem_singleton.mp hw]; exact h
  | cons p r ih =>
    intro w hw
    rcases List.mem_cons.mp hw with rfl | hw
    · exact h
    · exact ih (swapL_mem' h) w hw
/-- the words of the road back are those of the road, backwards -/
theorem pass_back {n : Nat} : ∀ {l r : List Nat}, l.length = n → (∀ p ∈ r, p < n) → pass (ends l r) (backL n r) = (pass l r).reverse := by
  intro l r
  induction r generalizing l with
  | nil => intro _ _; rfl
  | cons p r ih =>
    intro hl hp
    have hpn : p < l.length := by rw [hl]; exact hp p List.mem_cons_self
    have hr : ∀ q ∈ r, q < n := fun q hq => hp q (List.mem_cons_of_mem _ hq)
    have hs : (swapL l p).length = n := by rw [swapL_len hpn, hl]
    have e1 : backL n (p :: r) = backL n r ++ [n - 1 - p] := by unfold backL; simp
    have e2 : ends (ends (swapL l p) r) (backL n r) = swapL l p := by
      have z := pass_last (ends (swapL l p) r) (backL n r)
      rw [ih hs hr] at z
      have y : (pass (swapL l p) r).reverse[(backL n r).length]? = some (swapL l p) := by
        have hb : (backL n r).length = r.length := by unfold backL; simp
        rw [hb, List.getElem?_reverse (by rw [pass_len]; omega), pass_len]
        rw [show r.length + 1 - 1 - r.length = 0 by omega]
        cases r <;> rfl
      rw [y] at z
      exact (Option.some.inj z).symm
    rw [ends_cons, e1, pass_snoc, ends_snoc, e2, ih hs hr, ← hl, swapL_back hpn]
    show (pass (swapL l p) r).reverse ++ [l] = (l :: pass (swapL l p) r).reverse
    rw [List.reverse_cons]
theorem back_back {n : Nat} {r : List Nat} (h : ∀ p ∈ r, p < n) : backL n (backL n r) = r := by
  unfold backL
  rw [List.map_reverse, List.map_map, List.map_reverse, List.reverse_reverse]
  refine (List.map_congr_left fun p hp => ?_).trans (List.map_id r)
  have := h p hp
  show n - 1 - (n - 1 - p) = p
  omega
/-- what the draws made a road is one by the items, too -/
theorem walk_road {js : List Nat} : ∀ {l r : List Nat}, IsRoad js l r → walkO js l (r.map fun p : Nat => some (p : Int)) = true
  | _, [], _ => rfl
  | l, p :: r, h => by
    obtain ⟨⟨c, hc, hm⟩, h2⟩ := h
    show (match placeO l js (some (p : Int)) with | some p => walkO js (swapL l p) (r.map fun p : Nat => some (p : Int)) | none => false) = true
    rw [placeO_yes hc hm]
    exact walk_road h2
theorem last_len {l r : List Nat} : atI (wordsV (pass l r)) ((((wordsV (pass l r)).length : Nat) : Int) - 1) = some (V.str (S (ends l r))) := by
  have hl : (wordsV (pass l r)).length = r.length + 1 := by rw [List.length_map, pass_len]
  rw [hl, show (((r.length + 1 : Nat) : Int) - 1) = ((r.length : Nat) : Int) by omega]
  refine atI_nat ?_
  rw [List.getElem?_map, pass_last]
  rfl
/-- what stays through a law's row about one road -/
structure FW (H0 : Hp) (g v ke m : Addr) (r ws : List Nat) (c : Nat) (H : Hp) : Prop where
  ro : H v = some (.lst (placesV r))
  ke : H ke = some (.lst (placesV r))
  du : H m = some (.lst (wordsV (pass ws r)))
  G : GenAt H g c
  B : But g H0 H
theorem FW.same {H0 H H' : Hp} {g v ke m : Addr} {r ws : List Nat} {c : Nat} (h : FW H0 g v ke m r ws c H) (s : Same H H') : FW H0 g v ke m r ws c H' :=
  ⟨s _ _ h.ro, s _ _ h.ke, s _ _ h.du, h.G.same s, h.B.trans (.same s)⟩
end Sw
namespace Sw
open PySem PySem.Spec PyProof.Rows L2
theorem FW.but {H0 H H' : Hp} {g v ke m : Addr} {r ws : List Nat} {c c' : Nat} (h : FW H0 g v ke m r ws c H) (nv : v ≠ g) (nk : ke ≠ g) (nm : m ≠ g) (b : But g H H') (G : GenAt H' g c') : FW H0 g v ke m r ws c' H' :=
  ⟨b _ _ nv h.ro, b _ _ nk h.ke, b _ _ nm h.du, G, h.B.trans b⟩
/-- isinstance(x, list) for a value of any kind -/
theorem isi_list {K : PySem.W.Frag} {H : Hp} {v : V} {o : Option (List (Option Int))} {Q : VK} (h : Val H v o) (q : Q (.bl o.isSome) H) : rIsi K [v, .ty "list"] H Q := by
  cases h with
  | lst ht _ => exact ⟨_, _, _, _, true, rfl, ClsV.ty "list", .base (.lst ht), kit_ty (by decide +kernel), q⟩
  | tup ht => exact ⟨_, _, _, _, _, rfl, ClsV.ty "list", .base (.tup ht), kit_ty (by decide +kernel), q⟩
  | dic ht => exact ⟨_, _, _, _, _, rfl, ClsV.ty "list", .base (.dK ht), kit_ty (by decide +kernel), q⟩
  | int i => exact ⟨_, _, _, _, _, rfl, ClsV.ty "list", .base (.int _), kit_ty (by decide +kernel), q⟩
  | bl b => exact ⟨_, _, _, _, _, rfl, ClsV.ty "list", .base (.bl _), kit_ty (by decide +kernel), q⟩
  | non => exact ⟨_, _, _, _, _, rfl, ClsV.ty "list", .base .non, kit_ty (by decide +kernel), q⟩
  | str s => exact ⟨_, _, _, _, _, rfl, ClsV.ty "list", .base (.str _), kit_ty (by decide +kernel), q⟩
/-- a and b, where b is asked only if a holds -/
theorem and_then {t1 t2 : TE} {σ : L2.St} {H : Hp} {Q : VK} {b c : Bool} (h1 : ∀ Q' : VK, Q' (.bl b) H → t1 σ H Q') (h2 : b = true → (∀ H', Same H H' → Q (.bl c) H') → t2 σ H Q) (h3 : b = false → c = false) (q : ∀ H', Same H H' → Q (.bl c) H') : tAndV t1 t2 σ H Q := by
  refine h1 _ ⟨b, rfl, ?_⟩
  cases b with
  | true => exact iteT (h2 rfl q)
  | false =>
    have := q H fun _ _ e => e
    rw [h3 rfl] at this
    exact iteF this
theorem walk_zeros : ∀ n : Nat, IsRoad [120] [120] (List.replicate n 0)
  | 0 => trivial
  | n + 1 => ⟨⟨120, rfl, List.mem_singleton.mpr rfl⟩, walk_zeros n⟩
theorem ends_zeros : ∀ n : Nat, ends [120] (List.replicate n 0) = [120]
  | 0 => rfl
  | n + 1 => ends_zeros n
end Sw
/-! Rules for lists of texts: the least one, how often one stands; a text backwards; the signs of a text as a list. -/
namespace Sw
open PySem PySem.Spec PyProof.Rows L2
/-- the first of the least -/
def minL (x : List Nat) (xs : List (List Nat)) : List Nat := xs.foldl (fun a y => if y < a then y else a) x
theorem minD_words (x : List Nat) (xs : List (List Nat)) : PySem.W.minD (.str (S x)) (wordsD xs) = .str (S (minL x xs)) := by
  unfold PySem.W.minD minL wordsD
  induction xs generalizing x with
  | nil => rfl
  | cons y r ih =>
    rw [List.map_cons, List.foldl_cons, List.foldl_cons, ← ih]
    (try dsimp only)
    rw [PySem.W.dataLt_str]
    have e : (if decide ((S y).cps.toList < (S x).cps.toList) = true then PyData.str (S y) else PyData.str (S x)) = .str (S (if y < x then y else x)) := by
      by_cases h : y < x
      · rw [if_pos (decide_eq_true h), if_pos h]
      · rw [if_neg (fun z => h (of_decide_eq_true z)), if_neg h]
    rw [e]
theorem words_alike (ws : List (List Nat)) : PySem.W.AlikeAll (wordsD ws) := by
  refine ⟨fun x hx y hy => ?_, fun x hx => ?_⟩
  · obtain ⟨a, _, rfl⟩ := List.mem_map.mp hx
    obtain ⟨b, _, rfl⟩ := List.mem_map.mp hy
    rfl
  · obtain ⟨a, _, rfl⟩ := List.mem_map.mp hx
    intro z
    cases z
def rMinS (K : PySem.W.Frag) : List V → Hp → VK → Prop := fun vs H Q => ∃ (a : Addr) (x : List Nat) (xs : List (List Nat)), vs = [V.ref a] ∧ SqL K H a (wordsV (x :: xs)) ∧ Q (.str (S (minL x xs))) H
theorem cr_minS {X : Cx} (hc : X.calm = true) (hu : X.A.units + 64 < cLine) : CallR X (.builtin "min") (rMinS X.K) := by
  intro pins s σ H vs us Q I r h
  obtain ⟨a, x, xs, rfl, hs, q⟩ := h
  obtain ⟨its, rv, hl, _⟩ := I.list hs
  rw [Vals.ref1 r]
  obtain ⟨as, hr⟩ := Dp.readsAll I _ _ _ (words_dp (K := X.K) (H := H) (x :: xs)) rv
  have hd : PyData.depthAll (wordsD (x :: xs)) = 0 := words_depth (x :: xs)
  refine PySem.W.min_list_data (I.ok.hd hc) hl.isList (x := .str (S x)) (xs := wordsD xs) (by rw [List.toList_toArray]; exact hr) (words_alike (x :: xs)) (by show X.A.units + 1 + PyData.depthAll (wordsD (x :: xs)) < cLine; rw [hd]; omega) fun i v h' tk bs _ rd hk => ?_
  rw [minD_words] at rd
  cases rd
  exact ⟨.str _, H, I.kept hk, ⟨_, rfl⟩, q⟩
end Sw
/-! The signs of a text as a list: list(text). -/
namespace Sw
open PySem PySem.W PySem.Spec PyProof.Rows L2
section
variable {prog : Program} {w : World} {A : Around} {E : Value → Shared → Prop} {s : Shared} {x : Str} {t : Tok}
theorem hint_text {Q : Bool → Shared → Prop} (h : Q false s) : wpAny (model prog w) A (Builtin.List.listLengthHint (.str x t)) Q E s := by
  unfold Builtin.List.listLengthHint
  refine wpAny_bind (wpAny_specialOf (typeIs_str s x t) PySem.F.slot_str_len.lookup ?_)
  generalize hid : ("str.__len__" : String) = id0
  wp_delta
  rw [show splitId id0 = some ("str", "__len__") from by subst hid; decide +kernel]
  subst hid
  refine wpAny_bind (wpAny_isInstance (T := "str") (b := true) (typeIs_str s x t) (by rw [isSubtype_type]; kernel_rfl) ?_)
  refine wpAny_ite_split (fun hab => absurd hab (by decide)) (fun _ => ?_)
  refine wpAny_ite_split (fun _ => ?_) (fun hab => absurd (by decide +kernel) hab)
  refine wpAny_bind (wpAny_typeOf (typeIs_str s x t) ?_)
  exact wpAny_pure h
theorem text_extend {R : Result → Shared → Prop} (hh : A.handled = none) (S : Addr) (res : Value) (c₀ : Nat) (hS : s.heap.get? S = some { cls := .type "list", data := .seq #[] c₀ })
    (hR : ∀ h' tk acc' c', (∀ b o, b ≠ S → s.heap.get? b = some o → h'.get? b = some o) → h'.get? S = some { cls := .type "list", dict := none, data := .seq acc' c', slots := #[] } → ItemsOf (SignAt x) acc' x.cps.size → R (.ok (.ret res)) { s with heap := h', toks := tk }) (hn : x.cps.size ≤ sizeLine) :
    wpAny (model prog w) A.in1 (Builtin.List.listExtendWith (.ref S) (.str x t) res)
      (fun fin s' => match fin with | .done f => R (.ok f) s' | .again c' => c'.quiet = true ∧ codeAny (model prog w) A c' R s') (fun e s' => R (.error e) s') s := by
  have hSI : S ≠ s.heap.objs.size := Nat.ne_of_lt (Heap.lt_size hS)
  have hSf : S ∉ [s.heap.objs.size] := by simp only [List.mem_cons, List.not_mem_nil, or_false]; exact hSI
  unfold Builtin.List.listExtendWith
  refine wpAny_bind (wpAny_typeOf (T := "str") (typeIs_str s x t) ?_)
  have h1 : Builtin.List.listSameRef (.ref S) (.str x t) = false := rfl
  have h2 : (Value.type "str" == Value.type "list") = false := by decide
  have h3 : (Value.type "str" == Value.type "tuple") = false := by decide
  simp only [h1, h2, h3, Bool.or_false, Bool.false_eq_true, if_false]
  refine wpAny_bind (wpAny_pyIter_str fun oI St W' st => ?_)
  have W := W' A.in1 hh
  have key : ∀ (h : Heap) (c₁ tk : Nat), St 0 h → (∀ b o, b ≠ S → s.heap.get? b = some o → h.get? b = some o) →
      h.get? S = some { cls := .type "list", data := .seq #[] c₁ } → codeAny (model prog w) A (.builtin "list.extend.loop" ⟨[.ref S, .ref s.heap.objs.size, res], []⟩) R { s with heap := h, toks := tk } := by
    intro h c₁ tk hst hk hS₁
    refine codeAny_extend_loopS W.toS hn S hSf res _ 0 _ #[] c₁ rfl (Nat.zero_le _) hst hS₁ (ItemsOf.nil _) fun s' acc' c' hm hS' hacc => ?_
    rw [Moved.eq_with hm]
    refine hR s'.heap s'.toks acc' c' (fun b o hb e => hm.heap b o (fun hmem => ?_) (hk b o hb e)) hS' hacc
    rcases List.mem_cons.mp hmem with e' | hmem
    · exact hb e'
    · exact absurd (Heap.lt_size e) (by rw [List.mem_singleton.mp hmem]; exact Nat.lt_irrefl _)
  have hS₁ := Heap.get?_push_of_some oI hS
  refine wpAny_bind (wpAny_holding (hint_text ?_))
  refine wpAny_ite_split (fun _ => ?_) (fun _ => wpAny_pure ⟨plainId_quiet PySem.F.plain_extend_loop _, key _ c₀ _ st (fun b o _ e => Heap.get?_push_of_some _ e) hS₁⟩)
  refine wpAny_bind (wpAny_rule ?_)
  refine wpAny_bind ?_
  show wpAny _ _ (updateSeq S (·.push .none) >>= fun _ => updateSeq S (·.pop)) _ _ _
  refine wpAny_bind (wpAny_updateSeq hS₁ rfl ?_)
  have hS₂ := Heap.get?_update_self (Obj.mapSeq (·.push Value.none)) hS₁ rfl
  refine wpAny_updateSeq (hz := by seq_fits) hS₂ rfl ?_
  have hS₃ := Heap.get?_update_self (Obj.mapSeq (·.pop)) hS₂ rfl
  refine wpAny_pure ⟨plainId_quiet PySem.F.plain_extend_loop _, key _ _ _ ?_ (fun b o hb e => ?_) hS₃⟩
  · refine W.frame 0 _ _ st fun b hb o e => ?_
    have hbS : b ≠ S := fun h => hSf (h ▸ hb)
    exact (Heap.get?_update_other _ _ (Ne.symm hbS)).trans ((Heap.get?_update_other _ _ (Ne.symm hbS)).trans e)
  · exact (Heap.get?_update_other _ _ (Ne.symm hb)).trans ((Heap.get?_update_other _ _ (Ne.symm hb)).trans (Heap.get?_push_of_some _ e))
theorem text_init {R : Result → Shared → Prop} (hh : A.handled = none) (S : Addr) (hS : s.heap.get? S = some { cls := .type "list", data := .seq #[] })
    (hR : ∀ h' tk acc' c', (∀ b o, b ≠ S → s.heap.get? b = some o → h'.get? b = some o) → h'.get? S = some { cls := .type "list", dict := none, data := .seq acc' c', slots := #[] } → ItemsOf (SignAt x) acc' x.cps.size → R (.ok (.ret .none)) { s with heap := h', toks := tk }) (hn : x.cps.size ≤ sizeLine) :
    wpAny (model prog w) A.in1 (Builtin.«list.__init__» ⟨[.ref S, .str x t], []⟩)
      (fun fin s' => match fin with | .done f => R (.ok f) s' | .again c' => c'.quiet = true ∧ codeAny (model prog w) A c' R s') (fun e s' => R (.error e) s') s := by
  show wpAny _ _ (do let old ← Builtin.List.listItems (.ref S); Builtin.List.listUpdate (.ref S) (fun _ => #[]); letGo old.toList.reverse; Builtin.List.listExtendWith (.ref S) (.str x t) .none) _ _ s
  refine wpAny_bind ?_
  unfold Builtin.List.listItems
  refine wpAny_bind (wpAny_seqItems hS rfl (wpAny_pure ?_))
  show wpAny _ _ (updateSeq S (fun _ => #[]) >>= fun _ => letGo (#[] : Array Value).toList.reverse >>= fun _ => Builtin.List.listExtendWith (.ref S) (.str x t) .none) _ _ s
  refine wpAny_bind (wpAny_updateSeq hS rfl ?_)
  have hS₂ := Heap.get?_update_self (Obj.mapSeq (fun _ => (#[] : Array Value))) hS rfl
  have oth : ∀ b o, b ≠ S → s.heap.get? b = some o → (s.heap.update S (Obj.mapSeq (fun _ => (#[] : Array Value)))).get? b = some o :=
    fun b o hb e => (Heap.get?_update_other _ _ (Ne.symm hb)).trans e
  refine wpAny_bind (wpAny_letGo ?_)
  refine text_extend hh S .none _ hS₂ (fun h' tk acc' c' hk hS' hacc => ?_) hn
  exact hR h' tk acc' c' (fun b o hb e => hk b o hb (oth b o hb e)) hS' hacc
theorem text_call {Q : Value → Shared → Prop} (hh : A.handled = none) (hn : x.cps.size ≤ sizeLine)
    (hQ : ∀ h' tk acc' c', (∀ b o, s.heap.get? b = some o → h'.get? b = some o) → h'.get? s.heap.objs.size = some { cls := .type "list", dict := none, data := .seq acc' c', slots := #[] } → ItemsOf (SignAt x) acc' x.cps.size → Q (.ref s.heap.objs.size) { s with heap := h', toks := tk }) :
    wpAny (model prog w) A (call (.type "list") [.str x t]) Q E s := by
  refine callType_codes (Q₁ := fun obj s₁ => obj = .ref s.heap.objs.size ∧ s₁ = { s with heap := s.heap.push { cls := .type "list", data := .seq #[] } }) PySem.F.called_list (PySem.F.typeCall_list_1 _) PySem.F.entry_list_init
    (code_list_new _ ⟨rfl, rfl⟩) fun obj s₁ h₁ => ?_
  obtain ⟨rfl, rfl⟩ := h₁
  have hS : (s.heap.push { cls := .type "list", data := .seq #[] }).get? s.heap.objs.size = some { cls := .type "list", data := .seq #[] } := Heap.get?_push_size _ rfl
  refine ⟨⟨_, hS, rfl⟩, PySem.F.args_list_init_2 _ _, text_init (A := A.in1) hh _ hS (fun h' tk acc' c' hk hS' hacc => ?_) hn⟩
  exact ⟨rfl, hQ h' tk acc' c' (fun b o e => hk b o (Nat.ne_of_lt (Heap.lt_size e)) (Heap.get?_push_of_some _ e)) hS' hacc⟩
end
/-- the signs, each a text -/
abbrev signsV (l : List Nat) : List V := (l.map fun c => S [c]).map V.str
def rListS : List V → Hp → VK → Prop := fun xs H Q => ∃ l : List Nat, xs = [.str (S l)] ∧ l.length ≤ 100000 ∧ ∀ q, H q = none → Q (.ref q) (upd H q (.lst (signsV l)))
theorem call_list_str {X : Cx} (hc : X.calm = true) : CallR X (.type "list") rListS := by
  intro pins s σ H xs us Q I r h
  obtain ⟨l, e, hl, q⟩ := h
  subst e
  obtain ⟨u, eu, rx⟩ := vals1 r
  subst eu
  obtain ⟨t, rfl⟩ := rx
  refine text_call (I.ok.hd hc) (by rw [size_S]; exact small_le hl) fun h' tk acc' c' hkeep hS hacc => ?_
  refine ⟨.ref s.heap.objs.size, upd H s.heap.objs.size (.lst (signsV l)), I.laid hkeep (Nat.le_refl _) (show ObjOk X.prog X.w _ _ _ (.lst (signsV l)) from ⟨?_, acc'.toList, c', ?_, ?_⟩), rfl, q _ (I.hok.fresh (Nat.le_refl _))⟩
  · rw [List.length_map, List.length_map]; exact small_le hl
  · have el : acc'.toList.length = acc'.size := by simp
    have es := hacc.1
    rw [size_S] at es
    refine vals_of_at (by rw [List.length_map, List.length_map, el, es]) fun j y w h1 h2 => ?_
    obtain ⟨c, u, hc1, rfl⟩ := hacc.2 j w (by rw [← Array.getElem?_toList]; exact h2)
    rw [at_S] at hc1
    rw [List.getElem?_map, List.getElem?_map, hc1] at h1
    cases h1
    exact ⟨u, rfl⟩
  · rw [Array.toArray_toList]; exact hS
end Sw
namespace Sw
open PySem PySem.Spec PyProof.Rows L2
/-! ### a text backwards, the step reckoned or written -/
def tRevT (te ts : TE) : TE := fun σ H Q => te σ H fun x H1 => ∃ l : List Nat, x = .str (S l) ∧ l.length ≤ 100000 ∧ tPart ts σ H1 fun o H2 => o = some (-1) ∧ Q (.str (S l.reverse)) H2
theorem rev_pick (l : List Nat) : (⟨((Builtin.Str.strSliceIndices none none (-1) (S l).length).filterMap ((S l).cps[·]?)).toArray⟩ : Str) = S l.reverse := by
  have h := step_rev_list (S l) 0
  have e : Txt.sliceBy (S l) none none (-1, 0) = ⟨((Builtin.Str.strSliceIndices none none (-1) (S l).length).filterMap ((S l).cps[·]?)).toArray⟩ := rfl
  rw [e] at h
  have h2 : (List.range (S l).length).map (fun k => (S l).cps.getD ((S l).length - 1 - k) 0) = l.reverse := by
    refine List.ext_getElem (by simp [len_S]) fun i h1 h2 => ?_
    have hi : i < l.length := by simpa using h2
    simp [SX.S, len_S]
    rw [List.getElem?_eq_getElem (by omega)]
    rfl
  rw [h2] at h
  have h3 : ∀ (a : Array Nat), a.toList = l.reverse → (⟨a⟩ : Str) = S l.reverse := by
    intro a ha
    show (⟨a⟩ : Str) = ⟨l.reverse.toArray⟩
    rw [← ha]
  exact h3 _ h
theorem pe_revT {X : Cx} {e st : PySem.Expr} {te ts : TE} {p3 pos : Pos} (he : PE X e te) (hs : PE X st ts) : PE X (.Subscript e (.Slice none none (some st) p3) pos) (tRevT te ts) := by
  refine ⟨fun pins s σ H Q I h => Subscript_ (thn (he.run pins s σ H _ I h) fun v s1 ⟨x, H1, I1, r1, q1⟩ => ?_)⟩
  obtain ⟨l, rfl, hl, q⟩ := q1
  obtain ⟨t, rfl⟩ := r1
  refine wpAny_Slice (thn (po_none.run pins s1 σ H1 (fun o H2 => o = none ∧ H2 = H1) I1 ⟨rfl, rfl⟩) fun vl s2 ⟨lo, H2, I2, pl, el, e2⟩ => ?_)
  subst el e2
  refine thn (po_none.run pins s2 σ H2 (fun o H3 => o = none ∧ H3 = H2) I2 ⟨rfl, rfl⟩) fun vu s3 ⟨u, H3, I3, pu, eu, e3⟩ => ?_
  subst eu e3
  refine thn ((po_some hs).run pins s3 σ H3 _ I3 q) fun vs s4 ⟨o, H4, I4, ps, eo, q4⟩ => ?_
  subst eo
  have I5 := I4.kept (t' := s4.toks) (fun b ob q => Heap.get?_push_of_some { cls := Value.type "slice", data := Data.fields #[vl, vu, vs] } q)
  obtain ⟨l', rfl, el⟩ := IsPart.raw pl
  obtain ⟨u', rfl, eu⟩ := IsPart.raw pu
  obtain ⟨st', rfl, es⟩ := IsPart.raw ps
  have hn1 : l' = none := by cases l' with | none => rfl | some _ => cases el
  have hn2 : u' = none := by cases u' with | none => rfl | some _ => cases eu
  subst hn1 hn2
  refine tail_any (typeIs_str _ _ _) F.slot_str_getitem.lookup ?_ rfl
  refine wpAny_getItem_str_slice (l := none) (u := none) (st := st') ⟨_, Heap.get?_push_size _ rfl, rfl, rfl⟩ (by rw [es]; rfl) ?_
  show Made.post (if ((st'.map (·.1)).getD 1 == 1 && (Builtin.Str.strSliceIndices none none ((st'.map (·.1)).getD 1) (S l).length).length == (S l).length) = true then Made.val (.str (S l) t)
    else Made.str ⟨((Builtin.Str.strSliceIndices none none ((st'.map (·.1)).getD 1) (S l).length).filterMap ((S l).cps[·]?)).toArray⟩) (EP X pins σ Q) _
  rw [es]
  show Made.post (if (((-1 : Int)) == 1 && (Builtin.Str.strSliceIndices none none (-1) (S l).length).length == (S l).length) = true then Made.val (.str (S l) t)
    else Made.str ⟨((Builtin.Str.strSliceIndices none none (-1) (S l).length).filterMap ((S l).cps[·]?)).toArray⟩) (EP X pins σ Q) _
  rw [if_neg (by simp), rev_pick]
  exact ⟨by rw [len_S, List.length_reverse]; exact small_le hl, .str _, H4, I5.tok _, ⟨_, rfl⟩, q4⟩
/-! ### how often a text stands in a list -/
def rCntS (K : PySem.W.Frag) : V → List V → Hp → VK → Prop := fun x xs H Q => ∃ (p : Addr) (ws : List (List Nat)) (l : List Nat), x = .ref p ∧ xs = [.str (S l)] ∧ SqL K H p (wordsV ws) ∧ Q (.int (ws.count l : Nat)) H
theorem plain_words : ∀ ws : List (List Nat), PyData.plainAll (wordsD ws) = true
  | [] => rfl
  | _ :: r => plain_words r
theorem count_words (l : List Nat) (ws : List (List Nat)) : (wordsD ws).countP (fun y => PyData.eqv y (.str (S l))) = ws.count l := by
  unfold wordsD
  rw [List.countP_map]
  show _ = ws.countP (· == l)
  refine List.countP_congr fun a _ => ?_
  show (S a == S l) = true ↔ (a == l) = true
  rw [beq_iff_eq, beq_iff_eq]
  exact ⟨fun h => SX.S_inj h, fun h => by rw [h]⟩
theorem mt_lcountS {X : Cx} (hu : X.A.units + 64 < cLine) : MtR X "list.count" (rCntS X.K) := by
  intro pins s σ H x xs v us Q I rx rxs h
  obtain ⟨p, ws, l, rfl, rfl, hs, q⟩ := h
  cases rx
  obtain ⟨u, rfl, ru⟩ := rxs.one
  obtain ⟨t, rfl⟩ := ru
  obtain ⟨its, rv, hl, _⟩ := I.list hs
  obtain ⟨as, hr⟩ := Dp.readsAll I _ _ _ (words_dp (K := X.K) (H := H) ws) rv
  refine PySem.SeqAt.count_list_data (xs := wordsD ws) (d := .str (S l)) hl.isList (by rw [List.toList_toArray]; exact hr) (.str _ _) (plain_words ws) rfl ?_ ?_
  · have : (PyData.str (S l)).depth = 0 := rfl
    rw [this]
    omega
  · rw [count_words]
    exact ⟨.int _, H, I.tok _, ⟨_, rfl⟩, q⟩
end Sw
/-! Rings: their turnings, the first of them, how many turnings keep a ring. -/
namespace Sw
def rotL {α : Type} (r : List α) (i : Nat) : List α := r.drop i ++ r.take i
def turnsL (r : List Nat) : List (List Nat) := (List.range r.length).map (rotL r)
def minW : List (List Nat) → List Nat
  | [] => []
  | x :: xs => minL x xs
def starL (l js : List Nat) : List Nat := l.map fun c => if c ∈ js then 42 else c
def ringL (l js : List Nat) : List Nat := starL l js ++ [42]
def keepN (r : List Nat) : Nat := (turnsL r).count r
theorem rot_len {α : Type} (r : List α) (i : Nat) : (rotL r i).length = r.length := by
  unfold rotL; simp; omega
theorem rot_get {α : Type} {r : List α} {i j : Nat} (hi : i ≤ r.length) (hj : j < r.length) : (rotL r i)[j]? = r[(i + j) % r.length]? := by
  unfold rotL
  by_cases h : j < r.length - i
  · rw [List.getElem?_append_left (by rw [List.length_drop]; exact h), List.getElem?_drop, Nat.mod_eq_of_lt (by omega)]
  · rw [List.getElem?_append_right (by rw [List.length_drop]; omega), List.length_drop, List.getElem?_take_of_lt (by omega)]
    congr 1
    rw [show i + j = (j - (r.length - i)) + r.length by omega, Nat.add_mod_right, Nat.mod_eq_of_lt (by omega)]
theorem list_ext_mod {α : Type} {r q : List α} (hl : r.length = q.length) (h : ∀ j, j < r.length → r[j]? = q[j]?) : r = q := by
  refine List.ext_getElem? fun j => ?_
  by_cases hj : j < r.length
  · exact h j hj
  · rw [List.getElem?_eq_none (by omega), List.getElem?_eq_none (by omega)]
/-- turned by any number: cells taken round -/
theorem rot_rot {α : Type} {r : List α} {i j : Nat} (hi : i ≤ r.length) (hj : j ≤ r.length) : rotL (rotL r i) j = rotL r ((i + j) % r.length) := by
  by_cases hz : r.length = 0
  · have : r = [] := List.eq_nil_of_length_eq_zero hz
    subst this
    simp [rotL]
  refine list_ext_mod (by rw [rot_len, rot_len, rot_len]) fun k hk => ?_
  rw [rot_len, rot_len] at hk
  have hm : (i + j) % r.length < r.length := Nat.mod_lt _ (by omega)
  rw [rot_get (by rw [rot_len]; exact hj) (by rw [rot_len]; exact hk), rot_get (Nat.le_of_lt hm) hk, rot_len, rot_get hi (Nat.mod_lt _ (by omega))]
  congr 1
  rw [Nat.add_mod_mod, ← Nat.add_assoc, Nat.mod_add_mod]
theorem rot_zero {α : Type} (r : List α) : rotL r 0 = r := by simp [rotL]
theorem rot_full {α : Type} (r : List α) : rotL r r.length = r := by simp [rotL]
theorem rot_inj {α : Type} {r q : List α} {i : Nat} (hl : r.length = q.length) (h : rotL r i = rotL q i) : r = q := by
  unfold rotL at h
  have h1 := List.append_inj h (by rw [List.length_drop, List.length_drop, hl])
  rw [← List.take_append_drop i r, ← List.take_append_drop i q, h1.1, h1.2]
theorem mem_turns {r q : List Nat} : q ∈ turnsL r ↔ ∃ i, i < r.length ∧ q = rotL r i := by
  unfold turnsL
  rw [List.mem_map]
  constructor
  · rintro ⟨i, hi, rfl⟩; exact ⟨i, List.mem_range.mp hi, rfl⟩
  · rintro ⟨i, hi, rfl⟩; exact ⟨i, List.mem_range.mpr hi, rfl⟩
/-- a turned ring has the same turnings -/
theorem mem_turns_rot {r q : List Nat} {k : Nat} (hk : k ≤ r.length) : q ∈ turnsL (rotL r k) ↔ q ∈ turnsL r := by
  rw [mem_turns, mem_turns, rot_len]
  constructor
  · rintro ⟨i, hi, rfl⟩
    refine ⟨(k + i) % r.length, Nat.mod_lt _ (by omega), rot_rot hk (by omega)⟩
  · rintro ⟨i, hi, rfl⟩
    refine ⟨(r.length - k + i) % r.length, Nat.mod_lt _ (by omega), ?_⟩
    have hm : (r.length - k + i) % r.length < r.length := Nat.mod_lt _ (by omega)
    rw [rot_rot hk (Nat.le_of_lt hm)]
    congr 1
    rw [Nat.add_mod_mod, show k + (r.length - k + i) = i + r.length by omega, Nat.add_mod_right, Nat.mod_eq_of_lt hi]
/-! ### the least of some texts -/
theorem minL_le (x : List Nat) (xs : List (List Nat)) : (∀ y ∈ x :: xs, ¬ y < minL x xs) ∧ minL x xs ∈ x :: xs := by
  unfold minL
  induction xs generalizing x with
  | nil =>
    refine ⟨fun y hy => ?_, List.mem_singleton.mpr rfl⟩
    rw [List.mem_singleton.mp hy]
    exact List.lt_irrefl _
  | cons y r ih =>
    rw [List.foldl_cons]
    by_cases h : y < x
    · rw [if_pos h]
      obtain ⟨h1, h2⟩ := ih y
      refine ⟨fun z hz => ?_, List.mem_cons_of_mem _ h2⟩
      rcases List.mem_cons.mp hz with rfl | hz
      · exact fun q => h1 y List.mem_cons_self (List.lt_trans h q)
      · exact h1 z hz
    · rw [if_neg h]
      obtain ⟨h1, h2⟩ := ih x
      refine ⟨fun z hz => ?_, ?_⟩
      · rcases List.mem_cons.mp hz with rfl | hz
        · exact h1 z List.mem_cons_self
        · rcases List.mem_cons.mp hz with rfl | hz
          · intro q
            have h3 := h1 x List.mem_cons_self
            have e1 := List.not_lt.mp h3
            have e2 := List.not_lt.mp h
            exact (List.not_lt.mpr (List.le_trans e1 e2)) q
          · exact h1 z (List.mem_cons_of_mem _ hz)
      · rcases List.mem_cons.mp h2 with h2 | h2
        · rw [h2]; exact List.mem_cons_self
        · exact List.mem_cons_of_mem _ (List.mem_cons_of_mem _ h2)
theorem minW_spec {ws : List (List Nat)} (h : ws ≠ []) : (∀ y ∈ ws, ¬ y < minW ws) ∧ minW ws ∈ ws := by
  cases ws with
  | nil => exact absurd rfl h
  | cons x xs => exact minL_le x xs
theorem minW_eq {ws : List (List Nat)} {m : List Nat} (hm : m ∈ ws) (hl : ∀ y ∈ ws, ¬ y < m) : minW ws = m := by
  have hne : ws ≠ [] := List.ne_nil_of_mem hm
  obtain ⟨h1, h2⟩ := minW_spec hne
  exact List.le_antisymm (List.not_lt.mp (h1 m hm)) (List.not_lt.mp (hl _ h2))
theorem minW_same {ws vs : List (List Nat)} (h : ∀ q, q ∈ ws ↔ q ∈ vs) : minW ws = minW vs := by
  cases ws with
  | nil =>
    cases vs with
    | nil => rfl
    | cons v vs => exact absurd ((h v).mpr List.mem_cons_self) (by simp)
  | cons x xs =>
    have hne : vs ≠ [] := List.ne_nil_of_mem ((h x).mp List.mem_cons_self)
    obtain ⟨h1, h2⟩ := minW_spec hne
    exact minW_eq ((h _).mpr h2) fun y hy => h1 y ((h y).mp hy)
theorem turns_ne {r : List Nat} (h : r ≠ []) : turnsL r ≠ [] := by
  cases r with
  | nil => exact absurd rfl h
  | cons c r => exact List.ne_nil_of_mem (mem_turns.mpr ⟨0, by simp, rfl⟩)
theorem min_rot {r : List Nat} {k : Nat} (hk : k ≤ r.length) : minW (turnsL (rotL r k)) = minW (turnsL r) := minW_same fun _ => mem_turns_rot hk
/-- the first turning is one -/
theorem min_mem {r : List Nat} (h : r ≠ []) : ∃ i, i < r.length ∧ minW (turnsL r) = rotL r i := mem_turns.mp (minW_spec (turns_ne h)).2
theorem min_min {r : List Nat} (h : r ≠ []) : minW (turnsL (minW (turnsL r))) = minW (turnsL r) := by
  obtain ⟨i, hi, e⟩ := min_mem h
  rw [e, min_rot (by omega), e]
/-! ### how many turnings keep a ring -/
theorem keep_filter (r : List Nat) : keepN r = ((List.range r.length).filter fun i => decide (rotL r i = r)).length := by
  unfold keepN turnsL
  rw [List.count_eq_countP, List.countP_map, List.countP_eq_length_filter]
  congr 1
  refine List.filter_congr fun i _ => ?_
  show (rotL r i == r) = decide (rotL r i = r)
  exact Bool.eq_iff_iff.mpr (by rw [beq_iff_eq, decide_eq_true_iff])
theorem keep_rot {r : List Nat} {k : Nat} (hk : k ≤ r.length) : keepN (rotL r k) = keepN r := by
  rw [keep_filter, keep_filter, rot_len]
  congr 1
  refine List.filter_congr fun i hi => ?_
  have hi' := List.mem_range.mp hi
  have e : rotL (rotL r k) i = rotL (rotL r i) k := by
    rw [rot_rot hk (by omega), rot_rot (by omega) hk, Nat.add_comm]
  rw [e]
  refine decide_eq_decide.mpr ⟨fun h => rot_inj (rot_len r i) h, fun h => by rw [h]⟩
theorem keep_pos {r : List Nat} (h : r ≠ []) : 0 < keepN r := by
  unfold keepN
  refine List.count_pos_iff.mpr (mem_turns.mpr ⟨0, ?_, (rot_zero r).symm⟩)
  cases r with
  | nil => exact absurd rfl h
  | cons _ _ => simp
/-- turnings that keep a ring: multiples of the least one -/
theorem rot_add {r : List Nat} {i j : Nat} (hi : i ≤ r.length) (hj : j ≤ r.length) (h : rotL r i = r) : rotL r ((i + j) % r.length) = rotL r j := by
  rw [← rot_rot hi hj, h]
theorem rot_mod {r : List Nat} {i : Nat} (h : i ≤ r.length) : rotL r (i % r.length) = rotL r i := by
  rcases Nat.lt_or_ge i r.length with h1 | h1
  · rw [Nat.mod_eq_of_lt h1]
  · have : i = r.length := by omega
    rw [this, Nat.mod_self, rot_zero, rot_full]
theorem per_mul {r : List Nat} {d : Nat} (hd : d ≤ r.length) (h : rotL r d = r) : ∀ m, m * d ≤ r.length → rotL r (m * d) = r
  | 0, _ => by rw [Nat.zero_mul]; exact rot_zero r
  | m + 1, hm => by
    have h1 : m * d ≤ r.length := by rw [Nat.succ_mul] at hm; omega
    have h2 := rot_add h1 hd (per_mul hd h m h1)
    rw [h] at h2
    rw [← rot_mod hm, Nat.succ_mul]
    exact h2
theorem per_sub {r : List Nat} {i j : Nat} (hij : i ≤ j) (hj : j ≤ r.length) (hi : rotL r i = r) (h : rotL r j = r) : rotL r (j - i) = r := by
  have e := rot_add (i := i) (j := j - i) (by omega) (by omega) hi
  rw [show i + (j - i) = j by omega, rot_mod hj, h] at e
  exact e.symm
theorem least_per {r : List Nat} (h : r ≠ []) : ∃ d, 0 < d ∧ d ≤ r.length ∧ rotL r d = r ∧ ∀ i, i ≤ r.length → rotL r i = r → d ∣ i := by
  have hn : 0 < r.length := List.length_pos_iff.mpr h
  have ex : ∃ d, 0 < d ∧ rotL r d = r ∧ d ≤ r.length := ⟨r.length, hn, rot_full r, Nat.le_refl _⟩
  have key : ∀ m, (∃ d, d ≤ m ∧ 0 < d ∧ rotL r d = r ∧ d ≤ r.length) → ∃ d, (0 < d ∧ rotL r d = r ∧ d ≤ r.length) ∧ ∀ e, 0 < e → rotL r e = r → e ≤ r.length → d ≤ e := by
    intro m
    induction m with
    | zero => rintro ⟨d, h0, h1, _⟩; omega
    | succ m ih =>
      rintro ⟨d, hdm, hd⟩
      by_cases hex : ∃ d, d ≤ m ∧ 0 < d ∧ rotL r d = r ∧ d ≤ r.length
      · exact ih hex
      · refine ⟨d, hd, fun e e0 e1 e2 => ?_⟩
        by_cases he : e ≤ m
        · exact absurd ⟨e, he, e0, e1, e2⟩ hex
        · omega
  obtain ⟨d, ⟨d0, d1, d2⟩, dm⟩ := key r.length ⟨r.length, Nat.le_refl _, hn, rot_full r, Nat.le_refl _⟩
  refine ⟨d, d0, d2, d1, fun i hi hir => ?_⟩
  have hq : i / d * d ≤ i := Nat.div_mul_le_self i d
  have h1 := per_mul d2 d1 (i / d) (by omega)
  have h2 := per_sub hq hi h1 hir
  have h3 : i - i / d * d = i % d := by
    have := Nat.div_add_mod i d
    rw [Nat.mul_comm] at this
    omega
  rw [h3] at h2
  have h4 : i % d < d := Nat.mod_lt _ d0
  by_cases hz : i % d = 0
  · exact Nat.dvd_of_mod_eq_zero hz
  · have := dm (i % d) (by omega) h2 (by omega)
    omega
theorem multiples_len {d : Nat} (hd : 0 < d) : ∀ q, ((List.range (q * d)).filter fun i => decide (d ∣ i)).length = q
  | 0 => by simp
  | q + 1 => by
    rw [Nat.succ_mul, List.range_add, List.filter_append, List.length_append, multiples_len hd q, List.filter_map, List.length_map]
    congr 1
    have e : ((List.range d).filter ((fun i => decide (d ∣ i)) ∘ fun x => q * d + x)) = [0] := by
      cases d with
      | zero => omega
      | succ d =>
        rw [List.range_succ_eq_map, List.filter_cons]
        have h0 : ((fun i => decide (d + 1 ∣ i)) ∘ fun x => q * (d + 1) + x) 0 = true := decide_eq_true (by rw [Nat.add_zero]; exact Nat.dvd_mul_left _ _)
        rw [if_pos h0]
        congr 1
        refine List.filter_eq_nil_iff.mpr fun i hi => ?_
        obtain ⟨j, hj, rfl⟩ := List.mem_map.mp hi
        have hj' := List.mem_range.mp hj
        intro hc
        have hc' : d + 1 ∣ q * (d + 1) + (j + 1) := of_decide_eq_true hc
        have := (Nat.dvd_add_right (Nat.dvd_mul_left (d + 1) q)).mp hc'
        have := Nat.le_of_dvd (by omega) this
        omega
    rw [e]
    rfl
theorem keep_count {r : List Nat} (h : r ≠ []) : ∃ d, 0 < d ∧ keepN r * d = r.length ∧ rotL r d = r := by
  obtain ⟨d, d0, d1, d2, d3⟩ := least_per h
  obtain ⟨q, hq⟩ := d3 r.length (Nat.le_refl _) (rot_full r)
  have hq' : r.length = q * d := by rw [hq, Nat.mul_comm]
  refine ⟨d, d0, ?_, d2⟩
  rw [keep_filter]
  have e : (List.range r.length).filter (fun i => decide (rotL r i = r)) = (List.range (q * d)).filter fun i => decide (d ∣ i) := by
    rw [← hq']
    refine List.filter_congr fun i hi => ?_
    have hi' := List.mem_range.mp hi
    refine decide_eq_decide.mpr ⟨fun hr => d3 i (by omega) hr, ?_⟩
    rintro ⟨m, rfl⟩
    rw [Nat.mul_comm]
    exact per_mul d1 d2 m (by rw [Nat.mul_comm]; omega)
  rw [e, multiples_len d0, hq']
/-- each sign stands in a ring as often as a multiple of the turnings that keep it -/
theorem keep_dvd {r : List Nat} (h : r ≠ []) (c : Nat) : keepN r ∣ r.count c := by
  obtain ⟨d, d0, d1, d2⟩ := keep_count h
  have hd : d ≤ r.length := by rw [← d1]; exact Nat.le_mul_of_pos_left d (keep_pos h)
  have key : ∀ m, m * d ≤ r.length → (r.take (m * d)).count c = m * (r.take d).count c := by
    intro m
    induction m with
    | zero => intro _; simp
    | succ m ih =>
      intro hm
      have hm1 : m * d + d ≤ r.length := by rw [Nat.succ_mul] at hm; exact hm
      rw [Nat.succ_mul, List.take_add, List.count_append, ih (by omega), Nat.succ_mul]
      congr 1
      have e := per_mul hd d2 m (by omega)
      have e2 : (rotL r (m * d)).take d = (r.drop (m * d)).take d := by
        unfold rotL
        rw [List.take_append_of_le_length (by rw [List.length_drop]; omega)]
      rw [← e2, e]
  have := key (keepN r) (by omega)
  rw [d1, List.take_length] at this
  exact ⟨_, this⟩
/-! ### words and their rings -/
theorem star_app (l m js : List Nat) : starL (l ++ m) js = starL l js ++ starL m js := List.map_append
theorem star_len (l js : List Nat) : (starL l js).length = l.length := List.length_map _
theorem ring_len (l js : List Nat) : (ringL l js).length = l.length + 1 := by unfold ringL; rw [List.length_append, star_len]; rfl
theorem ring_ne (l js : List Nat) : ringL l js ≠ [] := by unfold ringL; simp
/-- a deed turns the ring -/
theorem ring_swap {l js : List Nat} {p c : Nat} (hc : l[p]? = some c) (hj : c ∈ js) : ringL (swapL l p) js = rotL (ringL l js) (p + 1) := by
  obtain ⟨hp, e⟩ := List.getElem?_eq_some_iff.mp hc
  have hl : l = l.take p ++ c :: l.drop (p + 1) := by rw [← e, ← List.drop_eq_getElem_cons hp, List.take_append_drop]
  have hr : ringL l js = (starL (l.take p) js ++ [42]) ++ (starL (l.drop (p + 1)) js ++ [42]) := by
    unfold ringL
    conv => lhs; rw [hl, star_app]
    have : starL (c :: l.drop (p + 1)) js = 42 :: starL (l.drop (p + 1)) js := by
      show (if c ∈ js then 42 else c) :: _ = _
      rw [if_pos hj]; rfl
    rw [this]
    simp
  have h1 : (starL (l.take p) js ++ [42]).length = p + 1 := by rw [List.length_append, star_len, List.length_take]; simp; omega
  rw [hr]
  unfold rotL
  rw [List.drop_left' h1, List.take_left' h1, swapL_one hc]
  unfold ringL
  rw [star_app, star_app]
  have : starL [c] js = [42] := by
    show [if c ∈ js then 42 else c] = [42]
    rw [if_pos hj]
  rw [this]
  simp
theorem ring_end {l js : List Nat} {p c : Nat} (hc : l[p]? = some c) (hj : c ∈ js) : minW (turnsL (ringL (swapL l p) js)) = minW (turnsL (ringL l js)) ∧ keepN (ringL (swapL l p) js) = keepN (ringL l js) := by
  have hp : p < l.length := (List.getElem?_eq_some_iff.mp hc).1
  rw [ring_swap hc hj]
  exact ⟨min_rot (by rw [ring_len]; omega), keep_rot (by rw [ring_len]; omega)⟩
/-! ### star rings -/
def smallB (l : List Nat) : Bool := l.all signB
def starRingB (l : List Nat) : Bool := decide (42 ∈ l) && wordB (l.filter fun c => decide (c ≠ 42)) && decide (l = minW (turnsL l))
end Sw
/-! What readings by macro lean on. -/
namespace Sw
open PySem PySem.Spec PyProof.Rows L2
theorem Same.at {H H' : Hp} {a : Addr} {o : HO} (s : Same H H') (h : H a = some o) : H' a = some o := s _ _ h
theorem But.at {g a : Addr} {H H' : Hp} {o : HO} (s : But g H H') (n : a ≠ g) (h : H a = some o) : H' a = some o := s _ _ n h
theorem upd_at {H : Hp} {p : Addr} {o : HO} : (upd H p o) p = some o := upd_same
/-- a new item behind those of a list that a comprehension makes -/
theorem grow {H1 H4 : Hp} {D : Addr} {xs ys : List V} {y : V} (hD : H1 D = none) (s : Same H1 H4) (d : H4 D = some (.lst xs)) (l : xs.length ≤ 100000) (e : ys = xs ++ [y]) :
    ∃ acc, H4 D = some (.lst acc) ∧ acc.length < sizeLine ∧ (Same H1 (upd H4 D (.lst (acc ++ [y]))) ∧ (upd H4 D (.lst (acc ++ [y]))) D = some (.lst ys)) := by
  refine ⟨xs, d, small_line l, fun b o h => ?_, ?_⟩
  · rw [upd_ne (ne_of_none h hD)]; exact s b o h
  · rw [upd_same, e]
theorem GenAt.off {H : Hp} {g p : Addr} {n m : Nat} {o : HO} (h : GenAt H g n) (ne : p ≠ g) (l : n ≤ m) : GenAt (upd H p o) g m := by
  obtain ⟨x, y, z, h0, hx, hy, hz⟩ := h
  exact ⟨x, y, z, by rw [upd_ne ne.symm]; exact h0, hx, hy, hz.1, by omega⟩
/-- the same where draws go on -/
theorem growB {g D : Addr} {H1 H4 : Hp} {n m : Nat} {xs ys : List V} {y : V} (hD : H1 D = none) (nD : D ≠ g) (s : But g H1 H4) (G : GenAt H4 g n) (d : H4 D = some (.lst xs)) (l : xs.length ≤ 100000) (e : ys = xs ++ [y]) (hn : n ≤ m) :
    ∃ acc, H4 D = some (.lst acc) ∧ acc.length < sizeLine ∧ (But g H1 (upd H4 D (.lst (acc ++ [y]))) ∧ GenAt (upd H4 D (.lst (acc ++ [y]))) g m ∧ (upd H4 D (.lst (acc ++ [y]))) D = some (.lst ys)) := by
  refine ⟨xs, d, small_line l, fun b o ne h => ?_, G.off nD hn, ?_⟩
  · rw [upd_ne (ne_of_none h hD)]; exact s b o ne h
  · rw [upd_same, e]
/-- a list that a def made is changed by the def itself -/
theorem But.own {g v : Addr} {H H1 : Hp} {o : HO} (b : But g H H1) (hv : H v = none) : But g H (L2.upd H1 v o) := fun a u ne e => by
  rw [upd_ne (ne_of_none e hv)]
  exact b a u ne e
theorem Same.own {v : Addr} {H H1 : Hp} {o : HO} (b : Same H H1) (hv : H v = none) : Same H (L2.upd H1 v o) := fun a u e => by
  rw [upd_ne (ne_of_none e hv)]
  exact b a u e
theorem alloc_same {H H' : Hp} {p : Addr} {o : HO} (hX : L2.upd H p o = H') (hn : H p = none) : Same H H' := hX ▸ Same.upd hn
theorem alloc_at {H H' : Hp} {p : Addr} {o : HO} (hX : L2.upd H p o = H') : H' p = some o := hX ▸ upd_same
end Sw
/-! text.replace(.., ..) of written texts in a test that has written a text before. -/
namespace Sw
open PySem PySem.Spec PyProof.Rows L2 CwR
section
variable {X : Cx} {a b e : Expr} {rest : List Expr} {tA tB' : TT} {te tb : TE} {pos : Pos}
/-- a test behind which a token is out -/
def PTk (X : Cx) (e : Expr) (t : TT) : Prop := ∀ (pins : List (Addr × Obj)) (s : Shared) (σ : L2.St) (H : Hp) (Q : Bool → Hp → Prop), Inv X pins σ H s → t σ H Q → wpAny (model X.prog X.w) X.A (isTrue e X.env (eval e X.env)) (fun d s1 => 1 ≤ s1.toks ∧ TP X pins σ Q d s1) X.xe s
/-- tests where a token is out -/
def PTT (X : Cx) (e : Expr) (t : TT) : Prop := ∀ (pins : List (Addr × Obj)) (s : Shared) (σ : L2.St) (H : Hp) (Q : Bool → Hp → Prop), 1 ≤ s.toks → Inv X pins σ H s → t σ H Q → wpAny (model X.prog X.w) X.A (isTrue e X.env (eval e X.env)) (TP X pins σ Q) X.xe s
def PWT (X : Cx) (e : Expr) (t : TT) : Prop := ∀ (whole : Sem Value) (pins : List (Addr × Obj)) (s : Shared) (σ : L2.St) (H : Hp) (Q : Bool → Hp → Prop), 1 ≤ s.toks → Inv X pins σ H s → t σ H Q → wpAny (model X.prog X.w) X.A (isTrue e X.env whole) (TP X pins σ Q) X.xe s
theorem ptk_cmp {op : CmpOp} {r : R2} {y : Str} {j : Nat} {p p2 : Pos} (ho : OpR X (compareOp op) r) (hb : PE X b tb) (hm : behindInMarks op b = false) : PTk X (.Compare (.Constant (.str y) j p) [op] [b] p2) (tTest (tOp r (tC (.str y)) tb)) := by
  intro pins s σ H Q I h
  refine wpAny_isTrue_Compare1 (Calls.Constant_str ?_) hm
  have I1 := I.tok (s.toks + 1)
  have h1 : 1 ≤ ({ s with toks := s.toks + 1 } : Shared).toks := by show 1 ≤ s.toks + 1; omega
  refine wpAny_mono (PySem.wpAny_toks_of h1 (hb.run pins { s with toks := s.toks + 1 } σ H _ I1 h)) (fun u s2 q => ?_) fun _ _ z => z.2
  obtain ⟨k2, y', H2, I2, r2, q2⟩ := q
  refine wpAny_mono (PySem.wpAny_toks_of k2 (ho pins s2 σ H2 (.str y) y' (.str y s.toks) u _ I2 ⟨_, rfl⟩ r2 q2)) (fun c s3 q => ?_) fun _ _ z => z.2
  obtain ⟨k3, z, H3, I3, r3, k, e, q3⟩ := q
  subst e
  cases r3
  exact wpAny_truthy_bool ⟨k3, H3, I3, q3⟩
theorem pw_orK (ha : PTk X a tA) (hb : PWT X (.BoolOp .Or (b :: rest) pos) tB') : PW X (.BoolOp .Or (a :: b :: rest) pos) (tOr tA tB') := by
  refine ⟨fun wh pins s σ H Q I h => ?_⟩
  refine isTrue_or (thn (ha pins s σ H _ I h) fun c s1 ⟨k1, H1, I1, q1⟩ => ?_)
  cases c with
  | true => exact ⟨H1, I1, q1⟩
  | false => exact hb wh pins s1 σ H1 Q k1 I1 q1
theorem pwt_or1 (ha : PTT X a tA) : PWT X (.BoolOp .Or [a] pos) tA := by
  intro wh pins s σ H Q h0 I h
  refine isTrue_or (thn (ha pins s σ H Q h0 I h) fun c s1 e => ?_)
  cases c with
  | false => exact isTrue_or_nil e
  | true => exact e
theorem ptt_not (ha : PTT X a tA) : PTT X (.UnaryOp .Not a pos) (tNot tA) := by
  intro pins s σ H Q h0 I h
  exact isTrue_not (ha pins s σ H (fun c H1 => Q (!c) H1) h0 I h)
theorem ptt_val (h : PET X e te) (he : ∀ whole, isTrue e X.env whole = (do let v ← whole; standAt e.pos; holding [v] (truthy v)) := by intro _; rfl) : PTT X e (tB te) := by
  intro pins s σ H Q h0 I hw
  refine isTrue_plain (thn (h pins s σ H _ h0 I hw) fun v s1 ⟨x, H1, I1, r1, q1⟩ => ?_) (he _)
  obtain ⟨d, rfl, q⟩ := q1
  cases r1
  exact wpAny_truthy_bool ⟨H1, I1, q⟩
theorem pet_call {CX : CXT} {k : Nat} {f : Addr} {fd : FuncData} {ps : List Str} {ds : List Value} {dvs : List V} {sp : Sp} {E : XK} {x : Str} {p : Pos} {e : Expr} {es : List Expr} {t : TA} (F : FnOk X.prog X.w X.K X.mg X.base CX k f fd ps sp) (hr : Room k X.A) (hg : Gl X x) (hm : X.mg x = some (.ref f)) (hk : PySem.W.keepIn X.K (.ref f) = true) (hb : Binds X.K fd ps ds) (hd : Vals dvs ds) (hx : Passes CX X E)
    (ha : PAT X (e :: es) t) (hdb : (x == ("__debug__" : Str)) = false := by decide) (he : starEach (e :: es) X.env = (false, eval e X.env) :: starEach es X.env := by rfl) (hpl : (backTo pos (starEach es X.env)).any (·.1) = false := by rfl) :
    PET X (.Call (.Name x p) (e :: es) [] pos) (tCall sp dvs E t) := by
  intro pins s σ H Q h0 I h
  refine wpAny_Call_Name_kw (ld_glob I hg hm ?_ hdb)
  refine PySem.W.callWith_K (h₀ := X.base) I.ok.mod.kin hk (thn (ha pos pins s σ H _ h0 I h) fun us s1 ⟨vs, H1, I1, r, q⟩ => ⟨I1.kIn, ?_⟩) he hpl
  exact run_fn F hr hb hd hx I1 r q
end
/-- text.replace(sign, "") -/
theorem strike (l : List Nat) (c : Nat) : Txt.replace (S l) (S [c]) (Str.ofString "") = S (l.filter fun d => d != c) := by
  have e0 : Str.ofString "" = ⟨#[]⟩ := by decide +kernel
  have h := replace_strikes (S l) c
  rw [e0]
  have e1 : (S l).cps.toList = l := by simp [SX.S]
  rw [e1] at h
  have h3 : ∀ (x : Str), x.cps.toList = l.filter (· != c) → x = S (l.filter (· != c)) := by
    intro x hx
    obtain ⟨a⟩ := x
    show (⟨a⟩ : Str) = ⟨(l.filter (· != c)).toArray⟩
    rw [← hx]
  exact h3 _ h
end Sw
/-! A text so many times; sorted signs. -/
namespace Sw
open PySem PySem.Spec PyProof.Rows L2
theorem fold_cat (l : List Nat) : ∀ (n : Nat) (a : Array Nat), ((List.replicate n l.toArray).foldl (· ++ ·) a).toList = a.toList ++ (List.replicate n l).flatten
  | 0, a => by simp
  | n + 1, a => by
    rw [List.replicate_succ, List.foldl_cons, fold_cat l n, List.replicate_succ, List.flatten_cons]
    simp
theorem op_mulS {X : Cx} : OpR X (binaryOp .Mult) (fun x y H Q => ∃ (l : List Nat) (n : Nat), x = .str (S l) ∧ y = .int (n : Int) ∧ n ≤ 100000 ∧ l.length * n ≤ 1000000 ∧ Q (.str (S (List.replicate n l).flatten)) H) := by
  intro pins s σ H x y v u Q I rx ry h
  obtain ⟨l, n, rfl, rfl, hn, hl, q⟩ := h
  obtain ⟨t, rfl⟩ := rx
  obtain ⟨t', rfl⟩ := ry
  have big : ∀ m : Nat, m ≤ 1000000 → m ≤ sizeLine := fun m h => Nat.le_trans h (by decide)
  have e1 : (⟨(List.replicate n (S l).cps).foldl (· ++ ·) #[]⟩ : Str) = S (List.replicate n l).flatten := by
    have h := fold_cat l n #[]
    have h3 : ∀ (a : Array Nat), a.toList = (List.replicate n l).flatten → (⟨a⟩ : Str) = S (List.replicate n l).flatten := by
      intro a ha
      show (⟨a⟩ : Str) = ⟨((List.replicate n l).flatten).toArray⟩
      rw [← ha]
    exact h3 _ (by simpa [SX.S] using h)
  have l2 : (S (List.replicate n l).flatten).length ≤ sizeLine := by
    rw [len_S, List.length_flatten, List.map_replicate, List.sum_replicate_nat]
    exact big _ (by rw [Nat.mul_comm]; exact hl)
  refine PySem.P.mul_str (by rw [decide_eq_false (by omega), decide_eq_false (by omega)]; rfl) (fun h1 _ => ?_) (fun h1 _ => ?_) ?_
  · rw [len_S]
    have hp : 0 < (n : Int) := by omega
    have hz : (l.length : Int) * (n : Int) ≤ 1000000 := by
      have : ((l.length * n : Nat) : Int) ≤ 1000000 := by omega
      rw [Int.natCast_mul] at this; exact this
    intro hgt
    have h2 := Int.mul_le_of_le_ediv hp (show (l.length : Int) ≤ (2 ^ 63 - 1) / (n : Int) from by
      rw [Int.le_ediv_iff_mul_le hp]; omega)
    have h3 : (l.length : Int) ≤ (2 ^ 63 - 1) / (n : Int) := by rw [Int.le_ediv_iff_mul_le hp]; omega
    omega
  · rw [len_S, Int.toNat_natCast]
    exact decide_eq_false (p := l.length * n > sizeLine) (Nat.not_lt.mpr (big _ hl))
  · by_cases h0 : (n : Int) < 1
    · rw [if_pos h0]
      have : n = 0 := by omega
      subst this
      exact ⟨by decide, .str (S (List.replicate 0 l).flatten), H, I.tok _, ⟨s.toks, rfl⟩, q⟩
    · rw [if_neg h0]
      by_cases h1 : (((n : Int) == 1 || (S l).length == 0) = true)
      · rw [if_pos h1]
        refine ⟨.str _, H, I, ⟨t, ?_⟩, q⟩
        rw [Bool.or_eq_true] at h1
        rcases h1 with h1 | h1
        · have : n = 1 := by have := eq_of_beq h1; omega
          subst this
          simp
        · have hz : l.length = 0 := by have := eq_of_beq h1; rw [len_S] at this; exact this
          have : l = [] := List.eq_nil_of_length_eq_zero hz
          subst this
          simp
      · rw [if_neg h1, Int.toNat_natCast, e1]
        exact ⟨l2, .str _, H, I.tok _, ⟨_, rfl⟩, q⟩
theorem ltCps_one (c d : Nat) : ltCps [c] [d] = decide (c < d) := by
  show (decide (c < d) || (c == d && false)) = decide (c < d)
  rw [Bool.and_false, Bool.or_false]
theorem rising_signs : ∀ (ws : List Nat) (c : Nat), risingS (S [c]) (ws.map fun d => S [d]) = true → (c :: ws).Pairwise (· ≤ ·)
  | [], c, _ => List.pairwise_singleton _ _
  | d :: ws, c, h => by
    have h' : (!ltCps [d] [c] && risingS (S [d]) (ws.map fun d => S [d])) = true := h
    rw [Bool.and_eq_true] at h'
    have ih := rising_signs ws d h'.2
    have hcd : c ≤ d := by
      have := h'.1
      rw [ltCps_one] at this
      by_cases z : d < c
      · rw [decide_eq_true z] at this; cases this
      · omega
    refine List.pairwise_cons.mpr ⟨fun e he => ?_, ih⟩
    rcases List.mem_cons.mp he with rfl | he
    · exact hcd
    · have := (List.pairwise_cons.mp ih).1 e he
      omega
theorem sorted_signs {ws : List Nat} (h : sortedS (ws.map fun d => S [d]) = true) : ws.Pairwise (· ≤ ·) := by
  cases ws with
  | nil => exact .nil
  | cons c r => exact rising_signs r c h
/-- sorted(signs): the signs themselves, in order -/
theorem perm_signs {ys : List Str} {ws : List Nat} (h : ys.Perm (ws.map fun c => S [c])) (hs : sortedS ys = true) : ∃ vs : List Nat, ys = vs.map (fun c => S [c]) ∧ vs.Perm ws ∧ vs.Pairwise (· ≤ ·) := by
  have hm : ∀ y ∈ ys, ∃ c, y = S [c] := fun y hy => by
    obtain ⟨c, _, e⟩ := List.mem_map.mp (h.mem_iff.mp hy)
    exact ⟨c, e.symm⟩
  let f : Str → Nat := fun y => y.cps.toList.headD 0
  have hf : ∀ c : Nat, f (S [c]) = c := fun c => rfl
  have e : ys = (ys.map f).map fun c => S [c] := by
    rw [List.map_map]
    refine (List.map_id ys).symm.trans (List.map_congr_left fun y hy => ?_)
    obtain ⟨c, rfl⟩ := hm y hy
    rfl
  have hp : (ys.map f).Perm ws := by
    have := h.map f
    rw [List.map_map] at this
    have e2 : ws.map (f ∘ fun c => S [c]) = ws := by
      refine (List.map_congr_left fun c _ => hf c).trans (List.map_id ws)
    rw [e2] at this
    exact this
  refine ⟨ys.map f, e, hp, ?_⟩
  rw [e] at hs
  exact sorted_signs hs
theorem strict_of {ws : List Nat} (h : ws.Pairwise (· ≤ ·)) (nd : ws.Nodup) : ws.Pairwise (· < ·) := by
  induction h with
  | nil => exact .nil
  | @cons a r hr _ ih =>
    obtain ⟨n1, n2⟩ := List.nodup_cons.mp nd
    refine List.pairwise_cons.mpr ⟨fun b hb => ?_, ih n2⟩
    have := hr b hb
    have : a ≠ b := fun e => n1 (e ▸ hb)
    omega
end Sw
namespace Sw
open PySem PySem.Spec PyProof.Rows L2
theorem star_lit : Str.ofString "*" = S [42] := by decide +kernel
end Sw
/-! sorted(text): its signs in order. -/
namespace Sw
open PySem PySem.W PySem.Spec PyProof.Rows L2
section
variable {prog : Program} {w : World} {A : Around} {E : Value → Shared → Prop} {s : Shared} {x : Str} {t : Tok}
theorem signAt_vals {acc : Array Value} {l : List Nat} (h : ItemsOf (SignAt (S l)) acc l.length) : StrsAre acc.toList (l.map fun c => S [c]) := by
  have h2 : ∀ (vs : List Value) (m : List Nat), vs.length = m.length → (∀ (j : Nat) (v : Value), vs[j]? = some v → ∃ c u, m[j]? = some c ∧ v = Value.str ⟨#[c]⟩ u) → StrsAre vs (m.map fun c => S [c]) := by
    intro vs
    induction vs with
    | nil =>
      intro m hm _
      cases m with
      | nil => exact .nil
      | cons _ _ => cases hm
    | cons v vs ih =>
      intro m hm hv
      cases m with
      | nil => cases hm
      | cons c m =>
        obtain ⟨c', u, h1, rfl⟩ := hv 0 v rfl
        cases h1
        exact .cons _ u (ih m (by simpa using hm) fun j v hj => by
          obtain ⟨c', u', h3, h4⟩ := hv (j + 1) v (by simpa using hj)
          exact ⟨c', u', by simpa using h3, h4⟩)
  refine h2 acc.toList l (by rw [Array.length_toList]; exact h.1) fun j v hj => ?_
  obtain ⟨c, u, h3, h4⟩ := h.2 j v (by rw [← Array.getElem?_toList]; exact hj)
  exact ⟨c, u, by rw [← at_S]; exact h3, h4⟩
theorem text_iadd {R : Result → Shared → Prop} (hh : A.handled = none) (S : Addr) (c₀ : Nat) (hS : s.heap.get? S = some { cls := .type "list", data := .seq #[] c₀ })
    (hR : ∀ h' tk acc' c', (∀ b o, b ≠ S → s.heap.get? b = some o → h'.get? b = some o) → h'.get? S = some { cls := .type "list", dict := none, data := .seq acc' c', slots := #[] } → ItemsOf (SignAt x) acc' x.cps.size → R (.ok (.ret (.ref S))) { s with heap := h', toks := tk }) (hn : x.cps.size ≤ sizeLine) :
    codeAny (model prog w) A (.builtin "list.__iadd__" ⟨[.ref S, .str x t], []⟩) R s := by
  refine codeAny_builtin entry_list_iadd' ?_
  rw [Around.under_plainId (show plainId "list.__iadd__" = true by decide +kernel) _]
  exact text_extend hh S _ c₀ hS hR hn
theorem collect_text {Q : List Value → Shared → Prop} (hh : A.handled = none) (hn : x.cps.size ≤ sizeLine)
    (h : ∀ h' tk (acc : Array Value), (∀ b o, s.heap.get? b = some o → h'.get? b = some o) → ItemsOf (SignAt x) acc x.cps.size → s.heap.objs.size < h'.objs.size → Q acc.toList { s with heap := h', toks := tk }) :
    wpAny (model prog w) A (collect (.str x t)) Q E s := by
  unfold collect
  refine wpAny_bind (wpAny_runValue (codeAny_builtin entry_proto_collect' ?_))
  show wpAny _ _ (do again (.builtin "list.__iadd__" ⟨[← newList [], .str x t], []⟩)) _ _ s
  refine wpAny_bind (wpAny_newList (wpAny_pure ⟨Code.quiet_builtin _ (by decide +kernel), text_iadd (s := { s with heap := s.heap.push (seqObj "list" #[] 0) }) hh s.heap.objs.size 0 (Heap.get?_push_size _ rfl) (fun h' tk acc' c' hk hS hacc => ?_) hn⟩))
  show wpAny (model prog w) A (do
      let o ← load s.heap.objs.size
      match o.data with
      | .seq xs _ => pure xs.toList
      | _ => unsupported "internal:collect") Q E _
  refine wpAny_bind (wpAny_load hS ?_)
  exact wpAny_pure (h h' tk acc' (fun b o e => hk b o (Nat.ne_of_lt (Heap.lt_size e)) (Heap.get?_push_of_some _ e)) hacc (Heap.lt_size hS))
theorem sorted_text {l : List Nat} {Q : Value → Shared → Prop} (hh : A.handled = none) (h64 : l.length < 64)
    (h : ∀ h' tk a (out : Array Value) (vs : List Nat) e, (∀ b o, s.heap.get? b = some o → h'.get? b = some o) → s.heap.objs.size ≤ a → h'.get? a = some (seqObj "list" out e) → StrsAre out.toList (vs.map fun c => S [c]) → vs.Perm l → vs.Pairwise (· ≤ ·) → Q (.ref a) { s with heap := h', toks := tk }) :
    wpAny (model prog w) A (call (.builtin "sorted") [.str (S l) t]) Q E s := by
  refine Calls.call_function_entry kind_sorted plain_sorted entry_sorted (args_sorted1 _) ?_
  unfold Builtin.«sorted»
  refine wpAny_bind (m := checkCount "sorted" 1 1 _) (wpAny_pure ?_)
  refine wpAny_bind (collect_text hh (by rw [size_S]; exact small_le (by omega)) fun h1 tk acc hk hacc hlt => ?_)
  rw [size_S] at hacc
  have hS := signAt_vals hacc
  have hlen : acc.toList.length = l.length := by rw [Array.length_toList]; exact hacc.1
  refine wpAny_bind (wpAny_newList ?_ (by rw [hlen]; exact small_le (by omega)))
  have hoL : (h1.push (seqObj "list" acc.toList.toArray 0)).get? h1.objs.size = some (seqObj "list" acc.toList.toArray 0) := Heap.get?_push_size _ rfl
  refine wpAny_bind (wpAny_holding (wpAny_call_entry slot_list_sort ⟨_, hoL, rfl⟩ entry_list_sort (list_sort_treeK strKind_oneLt hoL hS.keysOf (fun v₁ v₂ rest e => keyKind_strs (by rw [← e]; exact hS)) (by rw [hlen]; exact h64) fun st' hp hs => ⟨_, rfl, ?_⟩) (args_list_sort _)))
  obtain ⟨ss', g1, g2, g3⟩ := sorted_out_str hS hp hs
  obtain ⟨vs, e1, e2, e3⟩ := perm_signs g2 g3
  subst e1
  obtain ⟨e, he⟩ := sortedHeap_at (out := (arrOf st').map (·.2)) hoL
  refine wpAny_pure ⟨_, rfl, h _ tk h1.objs.size _ vs e (fun b o eb => ?_) (Nat.le_of_lt hlt) he g1 e2 e3⟩
  have hb := hk b o eb
  have hlt2 : b < h1.objs.size := Heap.lt_size hb
  rw [sortedHeap_old (Nat.ne_of_lt hlt2) (by rw [size_push']; exact Nat.lt_succ_of_lt hlt2)]
  exact Heap.get?_push_of_some _ hb
end
def rSortedT : List V → Hp → VK → Prop := fun xs H Q => ∃ l : List Nat, xs = [.str (S l)] ∧ l.length < 64 ∧ ∀ (vs : List Nat) p, vs.Perm l → vs.Pairwise (· ≤ ·) → H p = none → Q (.ref p) (upd H p (.lst (signsV vs)))
theorem cr_sortedTx {X : Cx} (hc : X.calm = true) : CallR X (.builtin "sorted") rSortedT := by
  intro pins s σ H xs us Q I r h
  obtain ⟨l, e, hl, q⟩ := h
  subst e
  obtain ⟨u, eu, rx⟩ := vals1 r
  subst eu
  obtain ⟨t, rfl⟩ := rx
  refine sorted_text (I.ok.hd hc) hl fun h' tk a out vs e hk ha hat hS hp hs => ?_
  have hlen : (signsV vs).length ≤ sizeLine := by rw [List.length_map, List.length_map, hp.length_eq]; exact small_le (by omega)
  exact ⟨.ref a, upd H a (.lst (signsV vs)), I.laid (t' := tk) hk ha ⟨hlen, out.toList, e, vals_of_strs hS, by simpa using hat⟩, rfl, q vs a hp hs (I.hok.fresh ha)⟩
end Sw
/-! Small lemmas for laws about star rings. -/
namespace Sw
open PySem PySem.Spec PyProof.Rows L2
theorem count_sign (l : List Nat) (c : Nat) : Txt.count (S l) (S [c]) = ((l.count c : Nat) : Int) := by
  rw [show S [c] = (⟨#[c]⟩ : Str) from rfl, count_cnt]
  have e1 : (S l).cps.toList = l := by simp [SX.S]
  rw [e1]
  clear e1
  induction l with
  | nil => rfl
  | cons d r ih =>
    rw [cnt_cons, ih, List.count_cons]
    by_cases z : d = c
    · subst z
      simp
      omega
    · rw [if_neg z, if_neg (by simpa using z)]
      omega
theorem cutV_take {xs : List V} {j : Nat} : cutV xs none (some (j : Int)) = xs.take j := by
  unfold cutV
  rw [HT.sIx_none, HT.sIx_nat, List.drop_zero, Nat.sub_zero]
  rcases Nat.le_total j xs.length with h | h
  · rw [Nat.min_eq_left h]
  · rw [Nat.min_eq_right h, List.take_length, List.take_of_length_le h]
theorem cutV_drop {xs : List V} {j : Nat} : cutV xs (some (j : Int)) none = xs.drop j := by
  unfold cutV
  rw [HT.sIx_none, HT.sIx_nat]
  rcases Nat.le_total j xs.length with h | h
  · rw [Nat.min_eq_left h, List.take_of_length_le (by rw [List.length_drop]; omega)]
  · rw [Nat.min_eq_right h, List.drop_length, List.drop_eq_nil_of_le h, List.take_nil]
theorem cutS_take {l : List Nat} {j : Nat} : cutS (S l) none (some (j : Int)) = S (l.take j) := by
  rw [cutS_to (by omega), Int.toNat_natCast]
theorem dec_signs {a b : List Nat} : decide (V.str (S a) = V.str (S b)) = decide (a = b) := by
  refine decide_eq_decide.mpr ⟨fun h => ?_, fun h => by rw [h]⟩
  injection h with h
  exact SX.S_inj h
/-- repr of a text of signs -/
theorem Rp.signs {K : PySem.W.Frag} {H : Hp} {l : List Nat} (h : ∀ c ∈ l, c < 16 ^ 8) (n : l.length ≤ 100000) : Rp K H (.str (S l)) (reprText (S l)) := by
  refine .str _ (Nat.le_trans (StrLaws.reprText_len (S l) ?_) ?_)
  · have e1 : (S l).cps.toList = l := by simp [SX.S]
    rw [e1]; exact h
  · rw [len_S]
    exact Nat.le_trans (show 10 * l.length + 2 ≤ 1000002 by omega) (by decide)
/-- a value that is no text -/
inductive Odd (K : PySem.W.Frag) (H : Hp) : V → Prop
  | int (i : Int) : Odd K H (.int i)
  | bl (b : Bool) : Odd K H (.bl b)
  | non : Odd K H .non
  | lst {a : Addr} {xs : List V} : H a = some (.lst xs) → Odd K H (.ref a)
  | tup {a : Addr} {xs : List V} : H a = some (.tup xs) → Odd K H (.ref a)
  | dic {a : Addr} {kvs : List (Key × V)} : H a = some (.dK kvs) → Odd K H (.ref a)
theorem Odd.same {K : PySem.W.Frag} {H H' : Hp} {v : V} (s : Same H H') (h : Odd K H v) : Odd K H' v := by
  cases h with
  | int i => exact .int i
  | bl b => exact .bl b
  | non => exact .non
  | lst h => exact .lst (s _ _ h)
  | tup h => exact .tup (s _ _ h)
  | dic h => exact .dic (s _ _ h)
/-- isinstance(x, str) of such a value -/
theorem isi_odd {K : PySem.W.Frag} {H : Hp} {v : V} {Q : VK} (h : Odd K H v) (q : Q (.bl false) H) : rIsi K [v, .ty "str"] H Q := by
  cases h with
  | lst ht => exact ⟨_, _, _, _, _, rfl, ClsV.ty "str", .base (.lst ht), kit_ty (by decide +kernel), q⟩
  | tup ht => exact ⟨_, _, _, _, _, rfl, ClsV.ty "str", .base (.tup ht), kit_ty (by decide +kernel), q⟩
  | dic ht => exact ⟨_, _, _, _, _, rfl, ClsV.ty "str", .base (.dK ht), kit_ty (by decide +kernel), q⟩
  | int i => exact ⟨_, _, _, _, _, rfl, ClsV.ty "str", .base (.int _), kit_ty (by decide +kernel), q⟩
  | bl b => exact ⟨_, _, _, _, _, rfl, ClsV.ty "str", .base (.bl _), kit_ty (by decide +kernel), q⟩
  | non => exact ⟨_, _, _, _, _, rfl, ClsV.ty "str", .base .non, kit_ty (by decide +kernel), q⟩
theorem isi_str {K : PySem.W.Frag} {H : Hp} {s : Str} {Q : VK} (q : Q (.bl true) H) : rIsi K [.str s, .ty "str"] H Q :=
  ⟨_, _, _, _, _, rfl, ClsV.ty "str", .base (.str _), kit_ty (by decide +kernel), q⟩
theorem starRing_small {l : List Nat} (h1 : 42 ∈ l) (h2 : ∀ c ∈ l, c ≠ 42 → 97 ≤ c ∧ c ≤ 122) : starRingB l = decide (l = minW (turnsL l)) := by
  unfold starRingB
  rw [decide_eq_true h1, wordB_of (l := l.filter fun c => decide (c ≠ 42)) fun c hc => ?_]
  · rfl
  · obtain ⟨m1, m2⟩ := List.mem_filter.mp hc
    exact h2 c m1 (of_decide_eq_true m2)
theorem mem_ring {l js : List Nat} {c : Nat} (hw : wordB l = true) (h : c ∈ ringL l js) (ne : c ≠ 42) : 97 ≤ c ∧ c ≤ 122 := by
  unfold ringL at h
  rcases List.mem_append.mp h with h | h
  · obtain ⟨d, hd, e⟩ := List.mem_map.mp h
    by_cases z : d ∈ js
    · rw [if_pos z] at e; omega
    · rw [if_neg z] at e
      rw [← e]; exact wordB_mem hw hd
  · exact absurd (List.mem_singleton.mp h) ne
theorem mem_rot {α : Type} {r : List α} {i : Nat} {c : α} : c ∈ rotL r i ↔ c ∈ r := by
  unfold rotL
  rw [List.mem_append, or_comm, ← List.mem_append, List.take_append_drop]
theorem count_rot {r : List Nat} {i c : Nat} : (rotL r i).count c = r.count c := by
  unfold rotL
  rw [List.count_append, Nat.add_comm, ← List.count_append, List.take_append_drop]
theorem star_in (l js : List Nat) : 42 ∈ ringL l js := by unfold ringL; simp
end Sw
namespace Sw
open PySem PySem.Spec PyProof.Rows L2
def alphaL : List Nat := (List.range 26).map fun i => 97 + i
theorem alpha_S : Str.ofString "abcdefghijklmnopqrstuvwxyz" = S alphaL := by decide +kernel
theorem alpha_nd : alphaL.Nodup := by decide +kernel
theorem alpha_mem {c : Nat} (h : c ∈ alphaL) : 97 ≤ c ∧ c ≤ 122 := by
  obtain ⟨i, hi, rfl⟩ := List.mem_map.mp h
  have := List.mem_range.mp hi
  omega
theorem seq_index {i : Int} {n : Nat} (h0 : 0 ≤ i) (h1 : i < (n : Int)) : seqIndex? i n = some i.toNat := by
  unfold seqIndex?
  simp
  omega
theorem erase_perm {α : Type} : ∀ {l : List α} {k : Nat} {x : α}, l[k]? = some x → (x :: l.eraseIdx k).Perm l
  | [], _, _, h => by simp at h
  | a :: r, 0, x, h => by
    simp at h
    subst h
    exact List.Perm.refl _
  | a :: r, k + 1, x, h => by
    have ih := erase_perm (l := r) (k := k) (x := x) (by simpa using h)
    exact (List.Perm.swap a x _).trans (ih.cons a)
theorem map_erase {α β : Type} (f : α → β) : ∀ (l : List α) (k : Nat), (l.map f).eraseIdx k = (l.eraseIdx k).map f
  | [], _ => rfl
  | _ :: _, 0 => rfl
  | a :: r, k + 1 => by
    show f a :: (r.map f).eraseIdx k = f a :: (r.eraseIdx k).map f
    rw [map_erase f r k]
end Sw
namespace Sw
open PySem PySem.Spec PyProof.Rows L2
theorem signs_at {l : List Nat} {i c : Nat} (h : l[i]? = some c) : (signsV l)[i]? = some (V.str (S [c])) := by
  rw [List.getElem?_map, List.getElem?_map, h]; rfl
theorem signs_of {l : List Nat} {i : Nat} {y : V} (h : (signsV l)[i]? = some y) : ∃ c, l[i]? = some c ∧ y = V.str (S [c]) := by
  rw [List.getElem?_map, List.getElem?_map] at h
  cases e : l[i]? with
  | none => rw [e] at h; cases h
  | some c => rw [e] at h; exact ⟨c, rfl, (Option.some.inj h).symm⟩
/-- the stars among the cells -/
def starsAt (r : List Nat) (n : Nat) : List Nat := (List.range n).filter fun j => decide (r[j]? = some 42)
theorem stars_succ {r : List Nat} {i c : Nat} (h : r[i]? = some c) : starsAt r (i + 1) = starsAt r i ++ (if c = 42 then [i] else []) := by
  unfold starsAt
  rw [List.range_succ, List.filter_append]
  congr 1
  rw [List.filter_cons, h]
  by_cases z : c = 42 <;> simp [z]
theorem stars_len (r : List Nat) (n : Nat) : (starsAt r n).length ≤ n := by
  unfold starsAt
  have h := List.length_filter_le (fun j => decide (r[j]? = some 42)) (List.range n)
  rw [List.length_range] at h
  exact h
theorem signs_flat (n : Nat) (l : List Nat) : (List.replicate n (signsV l)).flatten = signsV (List.replicate n l).flatten := by
  show (List.replicate n ((l.map fun c => S [c]).map V.str)).flatten = ((List.replicate n l).flatten.map fun c => S [c]).map V.str
  rw [List.map_flatten, List.map_flatten, List.map_replicate, List.map_replicate]
theorem flat_len (n : Nat) (l : List Nat) : (List.replicate n l).flatten.length = n * l.length := by
  rw [List.length_flatten, List.map_replicate, List.sum_replicate_nat]
theorem flat_mem {n : Nat} {l : List Nat} {c : Nat} (h : c ∈ (List.replicate n l).flatten) : c ∈ l := by
  obtain ⟨m, hm, hc⟩ := List.mem_flatten.mp h
  rw [(List.mem_replicate.mp hm).2] at hc
  exact hc
theorem wordV_len (l : List Nat) : (signsV l).length = l.length := by rw [List.length_map, List.length_map]
end Sw
namespace Sw
open PySem PySem.Spec PyProof.Rows L2
theorem keep_len (r : List Nat) : ((turnsL r).filter fun q => decide (q = r)).length = keepN r := by
  unfold keepN
  rw [List.count_eq_countP, List.countP_eq_length_filter]
  congr 1
  refine List.filter_congr fun q _ => ?_
  exact Bool.eq_iff_iff.mpr (by rw [beq_iff_eq, decide_eq_true_iff])
theorem words_of {ws : List (List Nat)} {i : Nat} {y : V} (h : (wordsV ws)[i]? = some y) : ∃ l, ws[i]? = some l ∧ y = V.str (S l) := by
  rw [List.getElem?_map] at h
  cases e : ws[i]? with
  | none => rw [e] at h; cases h
  | some c => rw [e] at h; exact ⟨c, rfl, (Option.some.inj h).symm⟩
theorem words_at {ws : List (List Nat)} {i : Nat} {l : List Nat} (h : ws[i]? = some l) : (wordsV ws)[i]? = some (V.str (S l)) := by
  rw [List.getElem?_map, h]; rfl
theorem turns_len (r : List Nat) : (turnsL r).length = r.length := by unfold turnsL; rw [List.length_map, List.length_range]
theorem filter_snoc {α : Type} {l : List α} {i : Nat} {x : α} (f : α → Bool) (h : l[i]? = some x) : (l.take (i + 1)).filter f = (l.take i).filter f ++ (if f x = true then [x] else []) := by
  rw [take_snoc h, List.filter_append]
  congr 1
  rw [List.filter_cons]
  split <;> simp_all
end Sw
namespace Sw
open PySem PySem.Spec PyProof.Rows L2
theorem nil_lit : Str.ofString "" = S [] := by decide +kernel
theorem joints_one {js : List Nat} (h : jointsB js = true) : jointsB (js.take 1) = true := by
  have hw : ∀ c ∈ js.take 1, 97 ≤ c ∧ c ≤ 122 := fun c hc => by
    unfold jointsB at h
    rw [Bool.and_eq_true] at h
    exact wordB_mem h.1 (List.mem_of_mem_take hc)
  refine jointsB_of ?_ hw
  cases js with
  | nil => exact .nil
  | cons c r => exact List.pairwise_singleton _ _
theorem word_rev {l : List Nat} (h : wordB l = true) : wordB l.reverse = true := wordB_of fun c hc => wordB_mem h (List.mem_reverse.mp hc)
theorem far_ring : minW (turnsL (ringL (List.replicate 150 [97, 120]).flatten [120])) = [42, 42, 97] ++ (List.replicate 149 [42, 97]).flatten := by decide +kernel
theorem far_keep : keepN (ringL (List.replicate 150 [97, 120]).flatten [120]) = 1 := by decide +kernel
theorem all_keep : keepN (ringL (List.replicate 299 [120]).flatten [120]) = 300 := by decide +kernel
theorem every_ring : minW (turnsL (ringL alphaL alphaL)) = (List.replicate 27 [42]).flatten := by decide +kernel
end Sw
namespace Sw
open PySem PySem.Spec PyProof.Rows L2
/-- what is no star ring -/
def Bad5 (K : PySem.W.Frag) (H : Hp) (v : V) : Prop := (∃ l : List Nat, v = .str (S l) ∧ l.length ≤ 50000 ∧ starRingB l = false) ∨ Odd K H v
end Sw
/-! Words that come of one another, by star rings and counts; words parted by what stands behind them. -/
namespace Sw
open PySem PySem.Spec PyProof.Rows L2
def evenB (l m js : List Nat) : Bool := js.all fun c => decide (l.count c = m.count c)
def comesB (l m js : List Nat) : Bool := decide (minW (turnsL (ringL l js)) = minW (turnsL (ringL m js))) && evenB l m js
/-- what may stand behind: none, or a letter -/
def behinds : List (List Nat) := [] :: alphaL.map fun c => [c]
def firstP (l m js : List Nat) : Option (List Nat) := behinds.find? fun b => !comesB (l ++ b) (m ++ b) js
def dueO (l m js : List Nat) : Option (List Nat) := if starL l js = starL m js ∧ evenB l m js = true then none else firstP l m js
theorem even_app {l m a b js : List Nat} (h : evenB l m js = true) : evenB (a ++ l ++ b) (a ++ m ++ b) js = true := by
  unfold evenB at *
  rw [List.all_eq_true] at *
  intro c hc
  have := of_decide_eq_true (h c hc)
  refine decide_eq_true ?_
  simp only [List.count_append, this]
theorem comes_same {l m a b js : List Nat} (h1 : starL l js = starL m js) (h2 : evenB l m js = true) : comesB (a ++ l ++ b) (a ++ m ++ b) js = true := by
  unfold comesB
  rw [even_app h2, Bool.and_true]
  refine decide_eq_true ?_
  unfold ringL
  simp only [star_app, h1]
/-- equal first turnings: the one ring is a turning of the other -/
theorem rot_of_min {r q : List Nat} (hr : r ≠ []) (hq : q ≠ []) (h : minW (turnsL r) = minW (turnsL q)) : ∃ k, k < r.length ∧ q = rotL r k := by
  obtain ⟨i, hi, ei⟩ := min_mem hr
  obtain ⟨j, hj, ej⟩ := min_mem hq
  have e : rotL r i = rotL q j := by rw [← ei, ← ej, h]
  have hl : r.length = q.length := by have := congrArg List.length e; rw [rot_len, rot_len] at this; exact this
  have e2 : rotL (rotL q j) (q.length - j) = q := by
    rw [rot_rot (by omega) (by omega), show j + (q.length - j) = q.length by omega, Nat.mod_self, rot_zero]
  refine ⟨(i + (q.length - j)) % r.length, Nat.mod_lt _ (by omega), ?_⟩
  rw [← rot_rot (by omega) (by omega), e, e2]
/-- a letter that is new tells the words apart -/
theorem tells {l m js : List Nat} {c : Nat} (hc : 97 ≤ c) (hl : ¬ c ∈ l) (hj : ¬ c ∈ js) (h : comesB (l ++ [c]) (m ++ [c]) js = true) : starL l js = starL m js := by
  unfold comesB at h
  rw [Bool.and_eq_true] at h
  obtain ⟨k, hk, e⟩ := rot_of_min (ring_ne _ _) (ring_ne _ _) (of_decide_eq_true h.1)
  have hlen : m.length = l.length := by
    have := congrArg List.length e
    rw [rot_len, ring_len, ring_len, List.length_append, List.length_append] at this
    simpa using this
  have r1 : ringL (l ++ [c]) js = starL l js ++ [c, 42] := by
    unfold ringL
    rw [star_app]
    simp [starL, hj]
  have r2 : ringL (m ++ [c]) js = starL m js ++ [c, 42] := by
    unfold ringL
    rw [star_app]
    simp [starL, hj]
  rw [r1] at hk e
  rw [r2] at e
  have hn : (starL l js ++ [c, 42]).length = l.length + 2 := by rw [List.length_append, star_len]; rfl
  rw [hn] at hk
  have g2 : (starL m js ++ [c, 42])[l.length]? = some c := by
    rw [List.getElem?_append_right (by rw [star_len]; omega), star_len, hlen, Nat.sub_self]; rfl
  rw [e, rot_get (by omega) (by omega), hn] at g2
  have only : ∀ j, (starL l js ++ [c, 42])[j]? = some c → j = l.length := by
    intro j hjc
    rcases Nat.lt_trichotomy j l.length with z | z | z
    · rw [List.getElem?_append_left (by rw [star_len]; exact z)] at hjc
      obtain ⟨d, hd, ed⟩ := List.mem_map.mp (List.mem_of_getElem? hjc)
      by_cases y : d ∈ js
      · rw [if_pos y] at ed; omega
      · rw [if_neg y] at ed; exact absurd (ed ▸ hd) hl
    · exact z
    · rw [List.getElem?_append_right (by rw [star_len]; omega), star_len] at hjc
      have : j - l.length < [c, 42].length := (List.getElem?_eq_some_iff.mp hjc).1
      have e1 : j - l.length = 1 := by simp at this; omega
      rw [e1] at hjc
      have : 42 = c := Option.some.inj hjc
      omega
  have hk0 : k = 0 := by
    have := only _ g2
    by_cases z : k + l.length < l.length + 2
    · rw [Nat.mod_eq_of_lt z] at this; omega
    · rw [Nat.mod_eq_sub_mod (by omega), Nat.mod_eq_of_lt (by omega)] at this; omega
  rw [hk0, rot_zero] at e
  exact (List.append_inj e (by rw [star_len, star_len, hlen])).1.symm
theorem first_some {l m js : List Nat} {c : Nat} (ha : c ∈ alphaL) (hl : ¬ c ∈ l) (hj : ¬ c ∈ js) (h : ¬ (starL l js = starL m js ∧ evenB l m js = true)) : ∃ b, firstP l m js = some b := by
  unfold firstP
  cases e : behinds.find? fun b => !comesB (l ++ b) (m ++ b) js with
  | some b => exact ⟨b, rfl⟩
  | none =>
    exfalso
    rw [List.find?_eq_none] at e
    have e0 := e [] List.mem_cons_self
    have e1 := e [c] (List.mem_cons_of_mem _ (List.mem_map.mpr ⟨c, ha, rfl⟩))
    simp only [List.append_nil, Bool.not_eq_true, Bool.not_eq_false'] at e0 e1
    refine h ⟨tells (alpha_mem ha).1 hl hj e1, ?_⟩
    unfold comesB at e0
    rw [Bool.and_eq_true] at e0
    exact e0.2
/-- among so few there is a letter that is new -/
theorem len_of_nodup : ∀ {a b : List Nat}, a.Nodup → (∀ c ∈ a, c ∈ b) → a.length ≤ b.length
  | [], _, _, _ => by simp
  | x :: r, b, nd, h => by
    obtain ⟨n1, n2⟩ := List.nodup_cons.mp nd
    have hx := h x List.mem_cons_self
    have ih := len_of_nodup (a := r) (b := b.erase x) n2 fun c hc => (List.mem_erase_of_ne (fun e : c = x => n1 (e ▸ hc))).mpr (h c (List.mem_cons_of_mem _ hc))
    rw [List.length_erase_of_mem hx] at ih
    have := List.length_pos_of_mem hx
    simp only [List.length_cons]
    omega
theorem new_letter {b : List Nat} (h : b.length < 26) : ∃ c, c ∈ alphaL ∧ ¬ c ∈ b := by
  refine Classical.byContradiction fun z => ?_
  have := len_of_nodup alpha_nd (b := b) fun c hc => Classical.byContradiction fun y => z ⟨c, hc, y⟩
  have e : alphaL.length = 26 := by decide
  omega
theorem even_symm (l m js : List Nat) : evenB l m js = evenB m l js := by
  unfold evenB
  congr 1
  funext c
  exact decide_eq_decide.mpr ⟨fun h => h.symm, fun h => h.symm⟩
theorem comes_symm (l m js : List Nat) : comesB l m js = comesB m l js := by
  unfold comesB
  rw [even_symm l m]
  congr 1
  exact decide_eq_decide.mpr ⟨fun h => h.symm, fun h => h.symm⟩
theorem due_symm (l m js : List Nat) : dueO l m js = dueO m l js := by
  unfold dueO firstP
  rw [even_symm l m]
  have e : (fun b => !comesB (l ++ b) (m ++ b) js) = fun b => !comesB (m ++ b) (l ++ b) js := by
    funext b; rw [comes_symm]
  rw [e]
  by_cases h : starL l js = starL m js
  · rw [h]
  · rw [if_neg (fun q => h q.1), if_neg (fun q => h q.1.symm)]
/-- None, or the pair of no letter and the first behind -/
def DueAt (H : Hp) (v : V) : Option (List Nat) → Prop
  | none => v = .non
  | some b => ∃ T, v = .ref T ∧ H T = some (.tup [.str (S []), .str (S b)])
def dueT : Option (List Nat) → Str
  | none => Str.ofString "None"
  | some b => (PyData.tuple [.str (S []), .str (S b)]).shown
theorem DueAt.same {H H' : Hp} {v : V} {o : Option (List Nat)} (s : Same H H') (h : DueAt H v o) : DueAt H' v o := by
  cases o with
  | none => exact h
  | some b => obtain ⟨T, e, d⟩ := h; exact ⟨T, e, s _ _ d⟩
theorem first_mem {l m js b : List Nat} (h : dueO l m js = some b) : b ∈ behinds := by
  unfold dueO at h
  split at h
  · cases h
  · exact List.mem_of_find?_eq_some h
theorem behind_shown : ∀ b ∈ behinds, (PyData.tuple [.str (S []), .str (S b)]).shown.length ≤ 1000 := by decide +kernel
theorem DueAt.dp {K : PySem.W.Frag} {H : Hp} {v : V} {b : List Nat} (h : DueAt H v (some b)) : Dp K H v (.tuple [.str (S []), .str (S b)]) := by
  obtain ⟨T, rfl, d⟩ := h
  exact .tup (SqT.of d) (.cons (.str _) (.cons (.str _) .nil))
theorem DueAt.rp {K : PySem.W.Frag} {H : Hp} {v : V} {o : Option (List Nat)} (h : DueAt H v o) (hb : ∀ b, o = some b → b ∈ behinds) : Rp K H v (dueT o) := by
  cases o with
  | none => cases h; exact .non
  | some b =>
    have hs := behind_shown b (hb b rfl)
    obtain ⟨T, rfl, d⟩ := id h
    exact .seq (DueAt.dp h) rfl rfl (Nat.le_of_ble_eq_true rfl) (Nat.le_trans hs (by decide))
/-! ### values compared that read as data: no bound on the signs of texts -/
def rEqP (K : PySem.W.Frag) : R2 := fun x y H Q => ∃ d e, Dp K H x d ∧ Dp K H y e ∧ d.plain = true ∧ e.plain = true ∧ d.depth ≤ 64 ∧ Q (.bl (PyData.eqv d e)) H
def rNeP (K : PySem.W.Frag) : R2 := fun x y H Q => ∃ d e, Dp K H x d ∧ Dp K H y e ∧ d.plain = true ∧ e.plain = true ∧ d.depth ≤ 64 ∧ Q (.bl (!PyData.eqv d e)) H
theorem op_eqP {X : Cx} (hu : X.A.units + 64 < cLine) : OpR X (compareOp .Eq) (rEqP X.K) := by
  intro pins s σ H x y v u Q I rx ry h
  obtain ⟨d, e, hd, he, pd, pe, dd, q⟩ := h
  obtain ⟨as, r1⟩ := Dp.reads I d x v hd rx
  obtain ⟨bs, r2⟩ := Dp.reads I e y u he ry
  exact PySem.SeqAt.eq_plain r1 r2 pd pe (by omega) ⟨.bl _, H, I, rfl, q⟩
theorem op_neP {X : Cx} (hu : X.A.units + 64 < cLine) : OpR X (compareOp .NotEq) (rNeP X.K) := by
  intro pins s σ H x y v u Q I rx ry h
  obtain ⟨d, e, hd, he, pd, pe, dd, q⟩ := h
  obtain ⟨as, r1⟩ := Dp.reads I d x v hd rx
  obtain ⟨bs, r2⟩ := Dp.reads I e y u he ry
  exact PySem.SeqAt.ne_plain r1 r2 pd pe (by omega) ⟨.bl _, H, I, rfl, q⟩
/-- two loops, the one within the other: what one turn does is told by the body -/
theorem it2 {J : It} {n : Nat} {G : Hp → Prop} {Y : Nat → Hp → V → Hp → Prop} (w : Walk J n G Y) {body : V → Hp → (Hp → Prop) → Prop} {H0 : Hp} {Qd : Hp → Prop} (Pv : Nat → Hp → Prop) (h0 : Pv 0 H0) (hG : ∀ i H, i ≤ n → Pv i H → G H)
    (hs : ∀ i x H H', i < n → Pv i H → Y i H x H' → body x H' (Pv (i + 1))) (hd : ∀ H, Pv n H → Qd H) :
    ∃ W : Nat → Nat → Hp → Prop, (∃ m, W 0 m H0) ∧ ∀ i m H, W i m H →
      (J.stop i H ∧ Qd H) ∨ (J.go i H ∧ ∃ Nx : Hp → Prop, (∀ H', Nx H' → ∃ m', m' < m ∧ W (i + 1) m' H') ∧ ∀ x H', J.yld i H x H' → body x H' Nx) := by
  refine ⟨fun i m H => m = n - i ∧ i ≤ n ∧ Pv i H, ⟨n, by simp, Nat.zero_le _, h0⟩, ?_⟩
  rintro i m H ⟨rfl, hi, p⟩
  have q := hG i H hi p
  by_cases hlt : i < n
  · exact .inr ⟨w.goes i H hlt q, Pv (i + 1), fun H' p' => ⟨n - (i + 1), by omega, rfl, hlt, p'⟩, fun x H' y => hs i x H H' hlt p (w.yields i H x H' hlt q y)⟩
  · have e : i = n := by omega
    subst e
    exact .inl ⟨w.stops H q, hd H p⟩
/-! ### keys -/
theorem countsD_eqv (l m : List Nat) : ∀ js : List Nat, PyData.eqvAll (js.map fun c => PyData.int (l.count c : Nat)) (js.map fun c => PyData.int (m.count c : Nat)) = evenB l m js
  | [] => rfl
  | c :: r => by
    show (PyData.eqv (.int (l.count c : Nat)) (.int (m.count c : Nat)) && PyData.eqvAll _ _) = (decide (l.count c = m.count c) && evenB l m r)
    rw [countsD_eqv l m r]
    congr 1
    show (((l.count c : Nat) : Int) == ((m.count c : Nat) : Int)) = _
    exact Bool.eq_iff_iff.mpr (by rw [beq_iff_eq, decide_eq_true_iff]; omega)
theorem counts_dp {K : PySem.W.Frag} {H : Hp} (l : List Nat) : ∀ js : List Nat, DpAll K H (js.map fun c => V.int (l.count c : Nat)) (js.map fun c => PyData.int (l.count c : Nat))
  | [] => .nil
  | c :: r => .cons (.int _) (counts_dp l r)
theorem counts_plain (l : List Nat) : ∀ js : List Nat, PyData.plainAll (js.map fun c => PyData.int (l.count c : Nat)) = true
  | [] => rfl
  | c :: r => counts_plain l r
theorem counts_depth (l : List Nat) : ∀ js : List Nat, PyData.depthAll (js.map fun c => PyData.int (l.count c : Nat)) = 0
  | [] => rfl
  | c :: r => by
    show max (PyData.depth (.int (l.count c : Nat))) (PyData.depthAll (r.map fun c => PyData.int (l.count c : Nat))) = 0
    rw [counts_depth l r]
    rfl
def keyD (l js : List Nat) : PyData := .tuple [.str (S (minW (turnsL (ringL l js)))), .tuple (js.map fun c => PyData.int (l.count c : Nat))]
theorem key_plain (l js : List Nat) : (keyD l js).plain = true := by
  show (true && (PyData.plainAll (js.map fun c => PyData.int (l.count c : Nat)) && true)) = true
  rw [counts_plain]; rfl
theorem key_depth (l js : List Nat) : (keyD l js).depth ≤ 64 := by
  show max 0 (max (PyData.depthAll (js.map fun c => PyData.int (l.count c : Nat)) + 1) 0) + 1 ≤ 64
  rw [counts_depth]; decide
theorem key_eqv (l m js : List Nat) : PyData.eqv (keyD l js) (keyD m js) = comesB l m js := by
  show ((S (minW (turnsL (ringL l js))) == S (minW (turnsL (ringL m js)))) && (PyData.eqvAll (js.map fun c => PyData.int (l.count c : Nat)) (js.map fun c => PyData.int (m.count c : Nat)) && true)) = comesB l m js
  rw [countsD_eqv, Bool.and_true]
  unfold comesB
  congr 1
  exact Bool.eq_iff_iff.mpr (by rw [beq_iff_eq, decide_eq_true_iff]; exact ⟨fun h => SX.S_inj h, fun h => by rw [h]⟩)
/-! ### all texts to some letters -/
def textsN : Nat → List (List Nat)
  | 0 => [[]]
  | n + 1 => (textsN n).flatMap fun t => alphaL.map fun c => t ++ [c]
def findB (l m js : List Nat) (n : Nat) : Option (List Nat) := (textsN n).find? fun b => !comesB (l ++ b) (m ++ b) js
theorem textsN_one : textsN 1 = alphaL.map fun c => [c] := rfl
theorem first_find (l m js : List Nat) : firstP l m js = (findB l m js 0).or (findB l m js 1) := by
  unfold firstP findB
  rw [textsN_one]
  show List.find? _ ([] :: _) = (List.find? _ [[]]).or _
  rw [List.find?_cons, List.find?_cons]
  split <;> simp
theorem find_at {α : Type} {p : α → Bool} {xs : List α} {i : Nat} {x : α} (h : xs[i]? = some x) (ha : ∀ y ∈ xs.take i, p y = false) (hx : p x = true) : xs.find? p = some x := by
  have e : xs = xs.take i ++ x :: xs.drop (i + 1) := by
    obtain ⟨hi, e⟩ := List.getElem?_eq_some_iff.mp h
    rw [← e, ← List.drop_eq_getElem_cons hi, List.take_append_drop]
  rw [e, List.find?_append, List.find?_eq_none.mpr (fun y hy => by rw [ha y hy]; decide), List.find?_cons, hx]
  rfl
theorem behinds_texts : behinds = textsN 0 ++ textsN 1 := rfl
theorem comes_not_count {l m js : List Nat} {c : Nat} (hc : c ∈ js) (h : l.count c ≠ m.count c) : comesB l m js = false := by
  refine Bool.eq_false_iff.mpr fun q => ?_
  unfold comesB evenB at q
  rw [Bool.and_eq_true, List.all_eq_true] at q
  exact h (of_decide_eq_true (q.2 c hc))
theorem comes_not_ring {l m js : List Nat} (h : ¬ minW (turnsL (ringL l js)) = minW (turnsL (ringL m js))) : comesB l m js = false := by
  unfold comesB
  rw [decide_eq_false h]; rfl
theorem comes_yes {l m js : List Nat} (h : minW (turnsL (ringL l js)) = minW (turnsL (ringL m js))) (hq : ∀ c ∈ js, l.count c = m.count c) : comesB l m js = true := by
  unfold comesB evenB
  rw [decide_eq_true h, Bool.true_and, List.all_eq_true]
  exact fun c hc => decide_eq_true (hq c hc)
theorem texts_one {n : Nat} {b : List Nat} (hn : n ≤ 1) (hb : b ∈ textsN n) : b.length ≤ 1 ∧ wordB b = true := by
  have e : n = 0 ∨ n = 1 := by omega
  rcases e with rfl | rfl
  · rw [List.mem_singleton.mp hb]; exact ⟨by decide, rfl⟩
  · rw [textsN_one] at hb
    obtain ⟨c, hc, rfl⟩ := List.mem_map.mp hb
    exact ⟨by simp, wordB_of fun d hd => by rw [List.mem_singleton.mp hd]; exact alpha_mem hc⟩
theorem word_app {a b : List Nat} (ha : wordB a = true) (hb : wordB b = true) : wordB (a ++ b) = true := wordB_of fun c hc => (List.mem_append.mp hc).elim (wordB_mem ha) (wordB_mem hb)
theorem even_filter (l m js : List Nat) : (js.filter fun c => decide (l.count c ≠ m.count c)).isEmpty = evenB l m js := by
  unfold evenB
  induction js with
  | nil => rfl
  | cons c r ih =>
    rw [List.filter_cons, List.all_cons, ← ih]
    by_cases z : l.count c = m.count c
    · simp [z]
    · simp [z]
theorem signs_words (l : List Nat) : signsV l = wordsV (l.map fun c => [c]) := by simp [wordsV]
theorem words_eqv_nil (ws : List (List Nat)) : PyData.eqv (.list (wordsD ws)) (.list []) = ws.isEmpty := by
  cases ws with
  | nil => rfl
  | cons _ _ => rfl
theorem words_plainL (ws : List (List Nat)) : (PyData.list (wordsD ws)).plain = true := plain_words ws
theorem words_depthL (ws : List (List Nat)) : (PyData.list (wordsD ws)).depth ≤ 64 := by
  show PyData.depthAll (wordsD ws) + 1 ≤ 64
  rw [words_depth]; decide
theorem due_found {l m js b : List Nat} (h : dueO l m js = some b) : comesB (l ++ b) (m ++ b) js = false := by
  unfold dueO at h
  split at h
  · cases h
  · have := List.find?_some h
    simpa using this
theorem due_none {l m js : List Nat} (hn : ∃ b, dueO l m js = some b ∨ (starL l js = starL m js ∧ evenB l m js = true)) (h : dueO l m js = none) : starL l js = starL m js ∧ evenB l m js = true := by
  obtain ⟨b, hb | hb⟩ := hn
  · rw [h] at hb; cases hb
  · exact hb
theorem lit3 {a b c : Str} {l m js : List Nat} (h1 : a = S l) (h2 : b = S m) (h3 : c = S js) : [V.str a, V.str b, V.str c] = [V.str (S l), V.str (S m), V.str (S js)] := by rw [h1, h2, h3]
end Sw
/-! Words that deeds lead to; books of joints compared. -/
namespace Sw
open PySem PySem.Spec PyProof.Rows L2
/-- v is come to from w by deeds at letters of B -/
inductive Reach (B : List Nat) (w : List Nat) : List Nat → Prop
  | refl : Reach B w w
  | step {v : List Nat} {i c : Nat} : Reach B w v → v[i]? = some c → c ∈ B → Reach B w (swapL v i)
theorem Reach.len {B w v : List Nat} (h : Reach B w v) : v.length = w.length := by
  induction h with
  | refl => rfl
  | step h e _ ih => rw [swapL_len (List.getElem?_eq_some_iff.mp e).1, ih]
theorem Reach.mem {B w v : List Nat} (h : Reach B w v) : ∀ c ∈ v, c ∈ w := by
  induction h with
  | refl => exact fun _ h => h
  | step h e _ ih => exact fun c hc => ih c (swapL_mem hc)
theorem Reach.mono {B B' w v : List Nat} (h : Reach B w v) (hs : ∀ c ∈ w, c ∈ B → c ∈ B') : Reach B' w v := by
  induction h with
  | refl => exact .refl
  | step h e hc ih => exact .step ih e (hs _ (h.mem _ (List.mem_of_getElem? e)) hc)
theorem Reach.trans {B w v u : List Nat} (h : Reach B w v) (g : Reach B v u) : Reach B w u := by
  induction g with
  | refl => exact h
  | step _ e hc ih => exact .step ih e hc
/-- the star ring is turned -/
theorem Reach.ring {B w v : List Nat} (h : Reach B w v) : ∃ k, k < w.length + 1 ∧ ringL v B = rotL (ringL w B) k := by
  induction h with
  | refl => exact ⟨0, by omega, (rot_zero _).symm⟩
  | @step v i c h e hc ih =>
    obtain ⟨k, hk, er⟩ := ih
    have hi : i < v.length := (List.getElem?_eq_some_iff.mp e).1
    have hl := h.len
    rw [ring_swap e hc, er, rot_rot (by rw [ring_len]; omega) (by rw [ring_len]; omega)]
    exact ⟨_, by rw [ring_len]; exact Nat.mod_lt _ (by omega), rfl⟩
/-- a list that holds the word, is closed, and holds nothing else -/
theorem reach_list {B w : List Nat} {ws : List (List Nat)} (h0 : w ∈ ws) (h1 : ∀ v ∈ ws, Reach B w v) (h2 : ∀ v ∈ ws, ∀ i c, v[i]? = some c → c ∈ B → swapL v i ∈ ws) : ∀ v, v ∈ ws ↔ Reach B w v := by
  intro v
  refine ⟨h1 v, fun h => ?_⟩
  induction h with
  | refl => exact h0
  | step _ e hc ih => exact h2 _ ih _ _ e hc
/-! ### words of a size over some letters -/
def allW (L : List Nat) : Nat → List (List Nat)
  | 0 => [[]]
  | n + 1 => (allW L n).flatMap fun t => L.map fun c => t ++ [c]
theorem mem_allW {L : List Nat} : ∀ {n : Nat} {w : List Nat}, w ∈ allW L n ↔ w.length = n ∧ ∀ c ∈ w, c ∈ L
  | 0, w => by
    show w ∈ [[]] ↔ _
    rw [List.mem_singleton]
    constructor
    · rintro rfl; exact ⟨rfl, by simp⟩
    · rintro ⟨h, _⟩; exact List.eq_nil_of_length_eq_zero h
  | n + 1, w => by
    show w ∈ (allW L n).flatMap _ ↔ _
    rw [List.mem_flatMap]
    constructor
    · rintro ⟨t, ht, h⟩
      obtain ⟨c, hc, rfl⟩ := List.mem_map.mp h
      obtain ⟨h1, h2⟩ := mem_allW.mp ht
      refine ⟨by simp [h1], fun d hd => ?_⟩
      rcases List.mem_append.mp hd with hd | hd
      · exact h2 d hd
      · rw [List.mem_singleton.mp hd]; exact hc
    · rintro ⟨h1, h2⟩
      have hne : w ≠ [] := by intro e; rw [e] at h1; simp at h1
      refine ⟨w.dropLast, mem_allW.mpr ⟨by rw [List.length_dropLast, h1]; rfl, fun c hc => h2 c (List.dropLast_subset w hc)⟩, List.mem_map.mpr ⟨w.getLast hne, h2 _ (List.getLast_mem hne), List.dropLast_concat_getLast hne⟩⟩
theorem len_allW (L : List Nat) : ∀ n, (allW L n).length = L.length ^ n
  | 0 => rfl
  | n + 1 => by
    show ((allW L n).flatMap _).length = _
    rw [List.length_flatMap]
    have e : ((allW L n).map fun t => (L.map fun c => t ++ [c]).length) = (allW L n).map fun _ => L.length := List.map_congr_left fun t _ => List.length_map _
    rw [e, List.map_const', List.sum_replicate_nat, len_allW L n, Nat.pow_succ]
/-- few words without a double -/
theorem few_of_nodup : ∀ {a b : List (List Nat)}, a.Nodup → (∀ c ∈ a, c ∈ b) → a.length ≤ b.length
  | [], _, _, _ => by simp
  | x :: r, b, nd, h => by
    obtain ⟨n1, n2⟩ := List.nodup_cons.mp nd
    have hx := h x List.mem_cons_self
    have ih := few_of_nodup (a := r) (b := b.erase x) n2 fun c hc => (List.mem_erase_of_ne (fun e : c = x => n1 (e ▸ hc))).mpr (h c (List.mem_cons_of_mem _ hc))
    rw [List.length_erase_of_mem hx] at ih
    have := List.length_pos_of_mem hx
    simp only [List.length_cons]
    omega
/-! ### books -/
def lackN (B L : List Nat) : Nat := (L.filter fun c => decide (¬ c ∈ B)).length
def withinB (B B' L : List Nat) (n : Nat) : Bool := decide (n < 2 ∨ L.length < 2 ∨ (∀ c ∈ L, c ∈ B → c ∈ B') ∨ (n = 2 ∧ lackN B' L ≤ 1))
/-- whatever comes of a word by the one book comes of it by the other one -/
def Within (B B' L : List Nat) (n : Nat) : Prop := ∀ w ∈ allW L n, ∀ v, Reach B w v → Reach B' w v
theorem still {B w v : List Nat} (h : Reach B w v) (hs : ∀ i c, w[i]? = some c → swapL w i = w) : v = w := by
  induction h with
  | refl => rfl
  | step _ e _ ih => subst ih; exact hs _ _ e
theorem within_few {B B' L : List Nat} {n : Nat} (h : n < 2 ∨ L.length < 2) : Within B B' L n := by
  intro w hw v hv
  obtain ⟨h1, h2⟩ := mem_allW.mp hw
  have e : v = w := still hv fun i c hc => by
    have hi : i < w.length := (List.getElem?_eq_some_iff.mp hc).1
    have all : ∀ x ∈ w, ∀ y ∈ w, x = y ∨ n < 2 := fun x hx y hy => by
      rcases h with h | h
      · exact .inr h
      · left
        have hx' := h2 x hx
        have hy' := h2 y hy
        match L, h with
        | [], _ => cases hx'
        | [z], _ => rw [List.mem_singleton.mp hx', List.mem_singleton.mp hy']
    have same : ∀ x ∈ w, ∀ y ∈ w, x = y := fun x hx y hy => by
      rcases all x hx y hy with q | q
      · exact q
      · match w, h1, hx, hy with
        | [], _, hx, _ => cases hx
        | [z], _, hx, hy => rw [List.mem_singleton.mp hx, List.mem_singleton.mp hy]
        | _ :: _ :: _, h1, _, _ => simp only [List.length_cons] at h1; omega
    have hrep : w = List.replicate w.length c := List.eq_replicate_iff.mpr ⟨rfl, fun x hx => same x hx c (List.mem_of_getElem? hc)⟩
    have hrep2 : swapL w i = List.replicate w.length c := List.eq_replicate_iff.mpr ⟨swapL_len hi, fun x hx => same x (swapL_mem hx) c (List.mem_of_getElem? hc)⟩
    rw [hrep2, ← hrep]
  rw [e]; exact .refl
theorem two_lack {B L : List Nat} {x y : Nat} (hx : x ∈ L) (hy : y ∈ L) (hne : x ≠ y) (bx : ¬ x ∈ B) (by' : ¬ y ∈ B) : 2 ≤ lackN B L := by
  unfold lackN
  have := len_of_nodup (a := [x, y]) (b := L.filter fun c => decide (¬ c ∈ B)) (by simp [hne]) fun c hc => by
    simp only [List.mem_cons, List.not_mem_nil, or_false] at hc
    rcases hc with rfl | rfl
    · exact List.mem_filter.mpr ⟨hx, decide_eq_true bx⟩
    · exact List.mem_filter.mpr ⟨hy, decide_eq_true by'⟩
  exact this
theorem other_lack {B L : List Nat} {c : Nat} (nd : L.Nodup) (h : 2 ≤ lackN B L) : ∃ d ∈ L, d ≠ c ∧ ¬ d ∈ B := by
  unfold lackN at h
  have ndf : (L.filter fun c => decide (¬ c ∈ B)).Nodup := nd.sublist List.filter_sublist
  match hf : L.filter fun c => decide (¬ c ∈ B), h with
  | [], h => simp at h
  | [_], h => simp at h
  | x :: y :: r, _ => 
    rw [hf] at ndf
    have hx : x ∈ L.filter fun c => decide (¬ c ∈ B) := by rw [hf]; exact List.mem_cons_self
    have hy : y ∈ L.filter fun c => decide (¬ c ∈ B) := by rw [hf]; exact List.mem_cons_of_mem _ List.mem_cons_self
    obtain ⟨x1, x2⟩ := List.mem_filter.mp hx
    obtain ⟨y1, y2⟩ := List.mem_filter.mp hy
    have hxy : x ≠ y := by
      rintro rfl
      exact (List.nodup_cons.mp ndf).1 List.mem_cons_self
    by_cases z : x = c
    · exact ⟨y, y1, fun e => hxy (z.trans e.symm), of_decide_eq_true y2⟩
    · exact ⟨x, x1, z, of_decide_eq_true x2⟩
theorem other_of {L : List Nat} {c : Nat} (nd : L.Nodup) (h : 2 ≤ L.length) : ∃ d ∈ L, d ≠ c := by
  match L, h, nd with
  | x :: y :: r, _, nd =>
    by_cases z : x = c
    · refine ⟨y, List.mem_cons_of_mem _ List.mem_cons_self, fun e => ?_⟩
      exact (List.nodup_cons.mp nd).1 (by rw [z, ← e]; exact List.mem_cons_self)
    · exact ⟨x, List.mem_cons_self, z⟩
theorem two_only {B v : List Nat} {x y : Nat} (hv : Reach B [x, y] v) : v = [x, y] ∨ v = [y, x] := by
  induction hv with
  | refl => exact .inl rfl
  | @step u i c _ e _ ih =>
    have hi : i < u.length := (List.getElem?_eq_some_iff.mp e).1
    rcases ih with rfl | rfl
    · match i, hi with
      | 0, _ => exact .inr rfl
      | 1, _ => exact .inr rfl
    · match i, hi with
      | 0, _ => exact .inl rfl
      | 1, _ => exact .inl rfl
theorem within_two {B B' L : List Nat} (h : lackN B' L ≤ 1) : Within B B' L 2 := by
  intro w hw v hv
  obtain ⟨h1, h2⟩ := mem_allW.mp hw
  match w, h1, h2, hv with
  | [x, y], _, h2, hv =>
    have hv2 := two_only hv
    rcases hv2 with rfl | rfl
    · exact .refl
    · by_cases hxy : x = y
      · rw [hxy]; exact .refl
      · by_cases hx : x ∈ B'
        · exact Reach.step (i := 0) (c := x) .refl rfl hx
        · by_cases hy : y ∈ B'
          · exact Reach.step (i := 1) (c := y) .refl rfl hy
          · have := two_lack (h2 x (by simp)) (h2 y (by simp)) hxy hx hy
            omega
theorem not_within_two {B B' L : List Nat} {c : Nat} (nd : L.Nodup) (hc : c ∈ L) (hb : c ∈ B) (hb' : ¬ c ∈ B') (h : 2 ≤ lackN B' L) : ¬ Within B B' L 2 := by
  obtain ⟨d, hd, hdc, hdb⟩ := other_lack (c := c) nd h
  intro W
  have r := W [c, d] (mem_allW.mpr ⟨rfl, fun x hx => by
    simp only [List.mem_cons, List.not_mem_nil, or_false] at hx
    rcases hx with rfl | rfl <;> assumption⟩) [d, c] (Reach.step (v := [c, d]) (i := 0) (c := c) .refl rfl hb)
  have e : ([d, c] : List Nat) = [c, d] := by
    have key : ∀ v, Reach B' [c, d] v → v = [c, d] := fun v hv => by
      induction hv with
      | refl => rfl
      | step _ e hx ih =>
        subst ih
        have := List.mem_of_getElem? e
        simp only [List.mem_cons, List.not_mem_nil, or_false] at this
        rcases this with rfl | rfl
        · exact absurd hx hb'
        · exact absurd hx hdb
    exact key _ r
  injection e with e1 _
  exact hdc e1
theorem not_within_three {B B' L : List Nat} {c : Nat} (nd : L.Nodup) (hL : 2 ≤ L.length) (hc : c ∈ L) (hz : c ≠ 42) (hb : c ∈ B) (hb' : ¬ c ∈ B') : ¬ Within B B' L 3 := by
  obtain ⟨d, hd, hdc⟩ := other_of (c := c) nd hL
  intro W
  have r := W [c, c, d] (mem_allW.mpr ⟨rfl, fun x hx => by
    simp only [List.mem_cons, List.not_mem_nil, or_false] at hx
    rcases hx with rfl | rfl | rfl <;> assumption⟩) [c, d, c] (Reach.step (v := [c, c, d]) (i := 0) (c := c) .refl rfl hb)
  obtain ⟨k, hk, e⟩ := r.ring
  have hxc : (if d ∈ B' then 42 else d) ≠ c := by split <;> omega
  simp only [ringL, starL, List.map_cons, List.map_nil, if_neg hb'] at e
  generalize (if d ∈ B' then 42 else d) = x at e hxc
  have hk4 : k = 0 ∨ k = 1 ∨ k = 2 ∨ k = 3 := by simp only [List.length_cons, List.length_nil] at hk; omega
  rcases hk4 with rfl | rfl | rfl | rfl <;> simp [rotL] at e <;> omega
theorem not_within_four {B B' L : List Nat} {c : Nat} (nd : L.Nodup) (hL : 2 ≤ L.length) (hc : c ∈ L) (hz : c ≠ 42) (hb : c ∈ B) (hb' : ¬ c ∈ B') : ¬ Within B B' L 4 := by
  obtain ⟨d, hd, hdc⟩ := other_of (c := c) nd hL
  intro W
  have r := W [c, c, d, d] (mem_allW.mpr ⟨rfl, fun x hx => by
    simp only [List.mem_cons, List.not_mem_nil, or_false] at hx
    rcases hx with rfl | rfl | rfl | rfl <;> assumption⟩) [c, d, d, c] (Reach.step (v := [c, c, d, d]) (i := 0) (c := c) .refl rfl hb)
  obtain ⟨k, hk, e⟩ := r.ring
  have hxc : (if d ∈ B' then 42 else d) ≠ c := by split <;> omega
  simp only [ringL, starL, List.map_cons, List.map_nil, if_neg hb'] at e
  generalize (if d ∈ B' then 42 else d) = x at e hxc
  have hk4 : k = 0 ∨ k = 1 ∨ k = 2 ∨ k = 3 ∨ k = 4 := by simp only [List.length_cons, List.length_nil] at hk; omega
  rcases hk4 with rfl | rfl | rfl | rfl | rfl <;> simp [rotL] at e <;> omega
/-- for words of at most four letters -/
theorem within_iff {B B' L : List Nat} {n : Nat} (nd : L.Nodup) (hw : ∀ c ∈ L, 97 ≤ c) (hn : n ≤ 4) : Within B B' L n ↔ withinB B B' L n = true := by
  unfold withinB
  rw [decide_eq_true_iff]
  constructor
  · intro W
    refine Classical.byContradiction fun q => ?_
    have q1 : ¬ n < 2 := fun h => q (.inl h)
    have q2 : ¬ L.length < 2 := fun h => q (.inr (.inl h))
    have q3 : ¬ ∀ c ∈ L, c ∈ B → c ∈ B' := fun h => q (.inr (.inr (.inl h)))
    have q4 : ¬ (n = 2 ∧ lackN B' L ≤ 1) := fun h => q (.inr (.inr (.inr h)))
    obtain ⟨c, hc⟩ := Classical.not_forall.mp q3
    obtain ⟨hcL, hc⟩ := Classical.not_imp.mp hc
    obtain ⟨hcB, hcB'⟩ := Classical.not_imp.mp hc
    have hz : c ≠ 42 := by have := hw c hcL; omega
    have hn3 : n = 2 ∨ n = 3 ∨ n = 4 := by omega
    rcases hn3 with rfl | rfl | rfl
    · exact not_within_two nd hcL hcB hcB' (by have : ¬ lackN B' L ≤ 1 := fun h => q4 ⟨rfl, h⟩; omega) W
    · exact not_within_three nd (by omega) hcL hz hcB hcB' W
    · exact not_within_four nd (by omega) hcL hz hcB hcB' W
  · rintro (h | h | h | ⟨rfl, h⟩)
    · exact within_few (.inl h)
    · exact within_few (.inr h)
    · intro w hw' v hv
      exact hv.mono fun c hc => h c ((mem_allW.mp hw').2 c hc)
    · exact within_two h
theorem within_self (B L : List Nat) (n : Nat) : withinB B B L n = true := decide_eq_true (.inr (.inr (.inl fun _ _ h => h)))
theorem within_nil (B L : List Nat) (n : Nat) : withinB [] B L n = true := decide_eq_true (.inr (.inr (.inl fun _ _ h => nomatch h)))
theorem within_far {B B' L : List Nat} {n : Nat} (hn : 5 ≤ n) : withinB B B' L n = decide (L.length < 2 ∨ (L.filter fun c => decide (c ∈ B) && decide (¬ c ∈ B')) = []) := by
  unfold withinB
  refine decide_eq_decide.mpr ?_
  rw [List.filter_eq_nil_iff]
  constructor
  · rintro (h | h | h | ⟨h, _⟩)
    · omega
    · exact .inl h
    · refine .inr fun c hc q => ?_
      rw [Bool.and_eq_true] at q
      exact of_decide_eq_true q.2 (h c hc (of_decide_eq_true q.1))
    · omega
  · rintro (h | h)
    · exact .inr (.inl h)
    · refine .inr (.inr (.inl fun c hc hB => Classical.byContradiction fun q => h c hc ?_))
      rw [Bool.and_eq_true]
      exact ⟨decide_eq_true hB, decide_eq_true q⟩
theorem op_notIn_seqK {X : Cx} (K : PySem.W.Frag) (h : X.K = K := by rfl) : OpR X (compareOp .NotIn) (rIn K true) := h ▸ op_notIn_seq
/-- a dict that knows some words -/
def wordsK (ws : List (List Nat)) : List (Key × V) := ws.map fun l => (Sum.inr (S l), V.bl true)
theorem wordsK_val (l : List Nat) : ∀ ws : List (List Nat), (valV (wordsK ws) (Sum.inr (S l))).isSome = decide (l ∈ ws)
  | [] => rfl
  | x :: r => by
    by_cases z : x = l
    · subst z
      rw [show wordsK (x :: r) = (Sum.inr (S x), V.bl true) :: wordsK r from rfl, valV_pos rfl]
      simp
    · rw [show wordsK (x :: r) = (Sum.inr (S x), V.bl true) :: wordsK r from rfl, valV_neg (fun e => z (SX.S_inj (Sum.inr.inj e))), wordsK_val l r]
      refine decide_eq_decide.mpr ⟨fun h => List.mem_cons_of_mem _ h, fun h => ?_⟩
      rcases List.mem_cons.mp h with h | h
      · exact absurd h.symm z
      · exact h
theorem wordsK_put {ws : List (List Nat)} {l : List Nat} (h : ¬ l ∈ ws) : putK (wordsK ws) (Sum.inr (S l)) (V.bl true) = wordsK (ws ++ [l]) := by
  have e : valV (wordsK ws) (Sum.inr (S l)) = none := by
    have := wordsK_val l ws
    rw [decide_eq_false h] at this
    cases hv : valV (wordsK ws) (Sum.inr (S l)) with
    | none => rfl
    | some _ => rw [hv] at this; cases this
  rw [putK_new _ e]
  simp [wordsK]
theorem in_words (l : List Nat) (ws : List (List Nat)) : inV (V.str (S l)) (wordsV ws) = decide (l ∈ ws) := by
  unfold inV
  induction ws with
  | nil => rfl
  | cons x r ih =>
    show (S x == S l || (wordsV r).any _) = _
    rw [ih]
    by_cases z : x = l
    · subst z; simp
    · have : ¬ S x = S l := fun e => z (SX.S_inj e)
      have e1 : (S x == S l) = false := by rw [beq_eq_false_iff_ne]; exact this
      rw [e1, Bool.false_or]
      refine decide_eq_decide.mpr ⟨fun h => List.mem_cons_of_mem _ h, fun h => ?_⟩
      rcases List.mem_cons.mp h with h | h
      · exact absurd h.symm z
      · exact h
theorem words_flat : ∀ ws : List (List Nat), (wordsV ws).all flatV = true
  | [] => rfl
  | _ :: r => words_flat r
/-- what a search knows on its way: words without a double, all come to; from those ahead of the place all deeds were done -/
structure Found (B w : List Nat) (ws : List (List Nat)) (i : Nat) : Prop where
  nd : ws.Nodup
  start : w ∈ ws
  reach : ∀ v ∈ ws, Reach B w v
  done : ∀ j v, j < i → ws[j]? = some v → ∀ p c, v[p]? = some c → c ∈ B → swapL v p ∈ ws
theorem Found.len {B w : List Nat} {ws : List (List Nat)} {i : Nat} (h : Found B w ws i) (hw : w.length ≤ 4) : ws.length ≤ 256 := by
  have h1 := few_of_nodup (b := allW w w.length) h.nd fun v hv => mem_allW.mpr ⟨(h.reach v hv).len, (h.reach v hv).mem⟩
  rw [len_allW] at h1
  have h2 : w.length ^ w.length ≤ 4 ^ 4 := Nat.le_trans (Nat.pow_le_pow_left hw _) (Nat.pow_le_pow_right (by decide) hw)
  have h3 : (4 : Nat) ^ 4 = 256 := by decide
  omega
theorem Found.all {B w : List Nat} {ws : List (List Nat)} {i : Nat} (h : Found B w ws i) (hi : ws.length ≤ i) : ∀ v, v ∈ ws ↔ Reach B w v :=
  reach_list h.start h.reach fun v hv p c hc hb => by
    obtain ⟨j, hj, e⟩ := List.mem_iff_getElem.mp hv
    exact h.done j v (by omega) (by rw [← e]; exact List.getElem?_eq_getElem hj) p c hc hb
theorem Found.add {B w : List Nat} {ws : List (List Nat)} {i p c : Nat} {v : List Nat} (h : Found B w ws i) (hv : v ∈ ws) (hc : v[p]? = some c) (hb : c ∈ B) (hn : ¬ swapL v p ∈ ws) (hi : i ≤ ws.length) : Found B w (ws ++ [swapL v p]) i where
  nd := by
    rw [List.nodup_append]
    exact ⟨h.nd, by simp, fun a ha b hb' e => hn (by rw [List.mem_singleton.mp hb'] at e; exact e ▸ ha)⟩
  start := List.mem_append.mpr (.inl h.start)
  reach := fun u hu => by
    rcases List.mem_append.mp hu with hu | hu
    · exact h.reach u hu
    · rw [List.mem_singleton.mp hu]; exact .step (h.reach v hv) hc hb
  done := fun j u hj e q d hd hB => List.mem_append.mpr (.inl (h.done j u hj (by rw [List.getElem?_append_left (by omega)] at e; exact e) q d hd hB))
/-- a value `a and b`: what follows is shown once, for whichever truth value -/
theorem andV_by {ta tb : TE} {σ : L2.St} {H : Hp} {Q : VK} (R : Bool → Hp → Prop) (cont : ∀ b H', R b H' → Q (.bl b) H') (h : (∀ b H', R b H' → Q (.bl b) H') → ta σ H fun x H1 => ∃ c, x = .bl c ∧ if c = true then tb σ H1 Q else Q (.bl false) H1) : tAndV ta tb σ H Q := h cont
/-- all of the first are among the second -/
def subB (a b : List (List Nat)) : Bool := (a.filter fun v => decide (¬ v ∈ b)).isEmpty
theorem subB_iff {a b : List (List Nat)} : subB a b = true ↔ ∀ v ∈ a, v ∈ b := by
  unfold subB
  rw [List.isEmpty_iff, List.filter_eq_nil_iff]
  constructor
  · intro h v hv
    have := h v hv
    simpa using this
  · intro h v hv
    simpa using h v hv
def farB (B B' L : List Nat) : Bool := decide (L.length < 2 ∨ (L.filter fun c => decide (c ∈ B) && decide (¬ c ∈ B')) = [])
theorem joints_pair {l : List Nat} (h : l.Pairwise (· < ·)) : l.Nodup := h.imp fun {a b} lt => Nat.ne_of_lt lt
/-- what stands behind a row is shown once, for whichever way it ends -/
theorem st_by {t : TS} {D : Ends} {σ : L2.St} {H : Hp} (N : L2.St → Hp → Prop) (hN : ∀ σ' H', N σ' H' → D.nx σ' H') (h : (∀ σ' H', N σ' H' → D.nx σ' H') → t D σ H) : t D σ H := h hN
theorem seq_by {a b : TS} {D : Ends} {σ : L2.St} {H : Hp} (N : L2.St → Hp → Prop) (hN : ∀ σ' H', N σ' H' → b D σ' H') (h : (∀ σ' H', N σ' H' → b D σ' H') → a { D with nx := b D } σ H) : tSeq a b D σ H := h hN
theorem lit4 {a b c : Str} {i : Int} {l m js : List Nat} {n : Nat} (h1 : a = S l) (h2 : b = S m) (h3 : c = S js) (h4 : i = (n : Int)) : [V.str a, V.str b, V.str c, V.int i] = [V.str (S l), V.str (S m), V.str (S js), V.int (n : Int)] := by rw [h1, h2, h3, h4]
theorem bools_dp {K : PySem.W.Frag} {H : Hp} : ∀ bs : List Bool, DpAll K H (bs.map V.bl) (bs.map PyData.bool)
  | [] => .nil
  | b :: r => .cons (.bl b) (bools_dp r)
end Sw
/-! A word comes to another one exactly if their star rings are one and each joint stands equally often. -/
namespace Sw
open PySem PySem.Spec PyProof.Rows L2
theorem swap_mid (A : List Nat) (y : Nat) (B : List Nat) : swapL (A ++ y :: B) A.length = B ++ y :: A := by
  have h : (A ++ y :: B)[A.length]? = some y := by rw [List.getElem?_append_right (Nat.le_refl _), Nat.sub_self]; rfl
  rw [swapL_one h]
  have e1 : (A ++ y :: B).drop (A.length + 1) = B := by
    rw [show A ++ y :: B = (A ++ [y]) ++ B by simp]
    exact List.drop_left' (by simp)
  have e2 : (A ++ y :: B).take A.length = A := List.take_left' rfl
  rw [e1, e2]
  simp
theorem Reach.mid {js : List Nat} (A : List Nat) {y : Nat} (B : List Nat) (hy : y ∈ js) : Reach js (A ++ y :: B) (B ++ y :: A) := by
  have h : (A ++ y :: B)[A.length]? = some y := by rw [List.getElem?_append_right (Nat.le_refl _), Nat.sub_self]; rfl
  have := Reach.step (B := js) (w := A ++ y :: B) .refl h hy
  rw [swap_mid] at this
  exact this
/-- two joints change places by three deeds -/
theorem exch {js A B C : List Nat} {x y : Nat} (hx : x ∈ js) (hy : y ∈ js) : Reach js (A ++ y :: (B ++ x :: C)) (A ++ x :: (B ++ y :: C)) := by
  have h1 := Reach.mid (js := js) A (B ++ x :: C) hy
  have h2 := Reach.mid (js := js) B (C ++ y :: A) hx
  have h3 := Reach.mid (js := js) C (A ++ x :: B) hy
  have e1 : (B ++ x :: C) ++ y :: A = B ++ x :: (C ++ y :: A) := by simp
  have e2 : (C ++ y :: A) ++ x :: B = C ++ y :: (A ++ x :: B) := by simp
  have e3 : (A ++ x :: B) ++ y :: C = A ++ x :: (B ++ y :: C) := by simp
  rw [e1] at h1
  rw [e2] at h2
  rw [e3] at h3
  exact (h1.trans h2).trans h3
/-- letters on the stars of a row -/
def fillL : List Nat → List Nat → List Nat
  | [], _ => []
  | c :: p, J => if c = 42 then (match J with | [] => [] | x :: J => x :: fillL p J) else c :: fillL p J
theorem fill_cons : ∀ {p : List Nat} {n : Nat}, p.count 42 = n + 1 → ∃ b p', p'.count 42 = n ∧ ∀ x J, fillL p (x :: J) = b ++ x :: fillL p' J
  | [], n, h => by simp at h
  | c :: p, n, h => by
    by_cases z : c = 42
    · subst z
      rw [List.count_cons_self] at h
      exact ⟨[], p, by omega, fun x J => rfl⟩
    · rw [List.count_cons_of_ne (fun e => z e)] at h
      obtain ⟨b, p', h1, h2⟩ := fill_cons h
      refine ⟨c :: b, p', h1, fun x J => ?_⟩
      show (if c = 42 then _ else c :: fillL p (x :: J)) = _
      rw [if_neg z, h2]; rfl
theorem fill_reach {js : List Nat} {J J' : List Nat} (h : J.Perm J') : (∀ c ∈ J, c ∈ js) → ∀ p pre, p.count 42 = J.length → Reach js (pre ++ fillL p J) (pre ++ fillL p J') := by
  induction h with
  | nil => exact fun _ _ _ _ => .refl
  | @cons x J J' _ ih =>
    intro hj p pre hp
    obtain ⟨b, p', h1, h2⟩ := fill_cons hp
    rw [h2, h2]
    have := ih (fun c hc => hj c (List.mem_cons_of_mem _ hc)) p' (pre ++ b ++ [x]) h1
    simpa using this
  | swap x y J =>
    intro hj p pre hp
    obtain ⟨b, p', h1, h2⟩ := fill_cons hp
    obtain ⟨b', p'', h3, h4⟩ := fill_cons h1
    rw [h2, h2, h4, h4]
    have := exch (js := js) (A := pre ++ b) (B := b') (C := fillL p'' J) (hj x (by simp)) (hj y (by simp))
    simpa using this
  | trans h1 h2 ih1 ih2 =>
    intro hj p pre hp
    exact (ih1 hj p pre hp).trans (ih2 (fun c hc => hj c (h1.mem_iff.mpr hc)) p pre (by rw [hp, h1.length_eq]))
theorem fill_star {js : List Nat} : ∀ {l : List Nat}, ¬ 42 ∈ l → fillL (starL l js) (l.filter fun c => decide (c ∈ js)) = l
  | [], _ => rfl
  | c :: l, h => by
    have h1 : ¬ 42 ∈ l := fun z => h (List.mem_cons_of_mem _ z)
    have h2 : c ≠ 42 := fun z => h (by rw [z]; exact List.mem_cons_self)
    have ih := fill_star (js := js) h1
    by_cases z : c ∈ js
    · show fillL ((if c ∈ js then 42 else c) :: starL l js) _ = _
      rw [if_pos z, List.filter_cons, if_pos (decide_eq_true z)]
      show c :: fillL (starL l js) _ = _
      rw [ih]
    · show fillL ((if c ∈ js then 42 else c) :: starL l js) _ = _
      rw [if_neg z, List.filter_cons, if_neg (fun q => z (of_decide_eq_true q))]
      show (if c = 42 then _ else c :: fillL (starL l js) _) = _
      rw [if_neg h2, ih]
theorem star_count {js : List Nat} : ∀ {l : List Nat}, ¬ 42 ∈ l → (starL l js).count 42 = (l.filter fun c => decide (c ∈ js)).length
  | [], _ => rfl
  | c :: l, h => by
    have h1 : ¬ 42 ∈ l := fun z => h (List.mem_cons_of_mem _ z)
    have h2 : c ≠ 42 := fun z => h (by rw [z]; exact List.mem_cons_self)
    have ih := star_count (js := js) h1
    show ((if c ∈ js then 42 else c) :: starL l js).count 42 = _
    by_cases z : c ∈ js
    · rw [if_pos z, List.count_cons_self, List.filter_cons, if_pos (decide_eq_true z), List.length_cons, ih]
    · rw [if_neg z, List.count_cons_of_ne (fun e => h2 e), List.filter_cons, if_neg (fun q => z (of_decide_eq_true q)), ih]
theorem held_perm {l m js : List Nat} (h : evenB l m js = true) : (l.filter fun c => decide (c ∈ js)).Perm (m.filter fun c => decide (c ∈ js)) := by
  rw [List.perm_iff_count]
  intro c
  by_cases z : c ∈ js
  · have e1 : ∀ l : List Nat, (l.filter fun c => decide (c ∈ js)).count c = l.count c := fun l => List.count_filter (p := fun c => decide (c ∈ js)) (decide_eq_true z)
    rw [e1, e1]
    unfold evenB at h
    rw [List.all_eq_true] at h
    exact of_decide_eq_true (h c z)
  · have e1 : ∀ l : List Nat, (l.filter fun c => decide (c ∈ js)).count c = 0 := fun l => List.count_eq_zero.mpr fun q => z (of_decide_eq_true (List.mem_filter.mp q).2)
    rw [e1, e1]
/-- the same stars, the same joints: the one comes to the other -/
theorem star_reach {l m js : List Nat} (hl : ¬ 42 ∈ l) (hm : ¬ 42 ∈ m) (hs : starL l js = starL m js) (he : evenB l m js = true) : Reach js l m := by
  have h := fill_reach (js := js) (held_perm he) (fun c hc => of_decide_eq_true (List.mem_filter.mp hc).2) (starL l js) [] (star_count hl)
  rw [fill_star hl] at h
  rw [hs, fill_star hm] at h
  exact h
theorem swap_perm {l : List Nat} {p : Nat} (h : p < l.length) : (swapL l p).Perm l := by
  have hc : l[p]? = some l[p] := List.getElem?_eq_getElem h
  have e : l = l.take p ++ l[p] :: l.drop (p + 1) := by rw [← List.drop_eq_getElem_cons h, List.take_append_drop]
  rw [swapL_one hc]
  conv => rhs; rw [e]
  have h1 : (l.drop (p + 1) ++ [l[p]] ++ l.take p).Perm (l.take p ++ (l.drop (p + 1) ++ [l[p]])) := List.perm_append_comm
  have h2 : (l.drop (p + 1) ++ [l[p]]).Perm (l[p] :: l.drop (p + 1)) := List.perm_append_comm
  exact h1.trans (h2.append_left _)
theorem Reach.perm {js w v : List Nat} (h : Reach js w v) : v.Perm w := by
  induction h with
  | refl => exact List.Perm.refl _
  | step _ e _ ih => exact (swap_perm (List.getElem?_eq_some_iff.mp e).1).trans ih
theorem reach_comes {js w v : List Nat} (h : Reach js w v) : comesB w v js = true := by
  obtain ⟨k, hk, e⟩ := h.ring
  refine comes_yes ?_ fun c _ => (h.perm.count_eq c).symm
  rw [e, min_rot (by rw [ring_len]; omega)]
theorem comes_reach {l m js : List Nat} (hl : ¬ 42 ∈ l) (hm : ¬ 42 ∈ m) (h : comesB l m js = true) : Reach js l m := by
  unfold comesB at h
  rw [Bool.and_eq_true] at h
  obtain ⟨hr, he⟩ := h
  obtain ⟨k, hk, e⟩ := rot_of_min (ring_ne _ _) (ring_ne _ _) (of_decide_eq_true hr)
  rw [ring_len] at hk
  by_cases hk0 : k = 0
  · subst hk0
    rw [rot_zero] at e
    unfold ringL at e
    exact star_reach hl hm (List.append_cancel_right e).symm he
  · have hi : k - 1 < l.length := by omega
    have hc : l[k - 1]? = some l[k - 1] := List.getElem?_eq_getElem hi
    -- the last cell of the other ring is the hole
    have hlast : (ringL m js)[m.length]? = some 42 := by
      unfold ringL
      rw [List.getElem?_append_right (by rw [star_len]; omega), star_len, Nat.sub_self]; rfl
    have hml : m.length = l.length := by
      have := congrArg List.length e
      rw [rot_len, ring_len, ring_len] at this
      omega
    rw [e, rot_get (by rw [ring_len]; omega) (by rw [ring_len]; omega), ring_len] at hlast
    have hidx : (k + m.length) % (l.length + 1) = k - 1 := by
      rw [hml, Nat.mod_eq_sub_mod (by omega), Nat.mod_eq_of_lt (by omega)]; omega
    rw [hidx] at hlast
    unfold ringL at hlast
    rw [List.getElem?_append_left (by rw [star_len]; exact hi)] at hlast
    unfold starL at hlast
    rw [List.getElem?_map, hc] at hlast
    have hj : l[k - 1] ∈ js := by
      refine Classical.byContradiction fun z => ?_
      have : (if l[k - 1] ∈ js then 42 else l[k - 1]) = 42 := Option.some.inj hlast
      rw [if_neg z] at this
      exact hl (this ▸ List.getElem_mem hi)
    have hsw := ring_swap hc hj
    rw [show k - 1 + 1 = k by omega, ← e] at hsw
    have st : Reach js l (swapL l (k - 1)) := .step .refl hc hj
    refine st.trans (star_reach (fun z => hl (swapL_mem z)) hm ?_ ?_)
    · unfold ringL at hsw
      exact List.append_cancel_right hsw
    · unfold evenB at he ⊢
      rw [List.all_eq_true] at he ⊢
      intro c hc'
      have h1 := of_decide_eq_true (he c hc')
      exact decide_eq_true (by rw [(swap_perm hi).count_eq c]; exact h1)
theorem word_star {l : List Nat} (h : wordB l = true) : ¬ 42 ∈ l := fun z => by have := wordB_mem h z; omega
/-- THE THEOREM: what comes of what -/
theorem reach_iff {l m js : List Nat} (hl : wordB l = true) (hm : wordB m = true) : Reach js l m ↔ comesB l m js = true :=
  ⟨reach_comes, comes_reach (word_star hl) (word_star hm)⟩
end Sw
/-! A ring laid on another one; the road that brings wanted joints into the hole. -/
namespace Sw
open PySem PySem.Spec PyProof.Rows L2
/-- how many below n -/
def cnt (p : Nat → Bool) : Nat → Nat
  | 0 => 0
  | n + 1 => cnt p n + (if p n = true then 1 else 0)
theorem cnt_same {p q : Nat → Bool} : ∀ {n : Nat}, (∀ c, c < n → p c = q c) → cnt p n = cnt q n
  | 0, _ => rfl
  | n + 1, h => by
    show cnt p n + _ = cnt q n + _
    rw [cnt_same (fun c hc => h c (by omega)), h n (by omega)]
/-- two that differ at one place alone -/
theorem cnt_one {p q : Nat → Bool} {a : Nat} : ∀ {n : Nat}, a < n → (∀ c, c < n → c ≠ a → p c = q c) → cnt q n + (if p a = true then 1 else 0) = cnt p n + (if q a = true then 1 else 0)
  | 0, h, _ => by omega
  | n + 1, h, e => by
    show cnt q n + _ + _ = cnt p n + _ + _
    by_cases z : a = n
    · subst z
      rw [cnt_same (p := q) (q := p) (fun c hc => (e c (by omega) (by omega)).symm)]
      omega
    · have ih := cnt_one (p := p) (q := q) (a := a) (n := n) (by omega) (fun c hc hn => e c (by omega) hn)
      rw [e n (by omega) (by omega)]
      omega
theorem cnt_le {p : Nat → Bool} : ∀ n, cnt p n ≤ n
  | 0 => Nat.le_refl _
  | n + 1 => by
    show cnt p n + _ ≤ n + 1
    have := cnt_le (p := p) n
    split <;> omega
theorem cnt_mono {p q : Nat → Bool} : ∀ {n : Nat}, (∀ c, c < n → p c = true → q c = true) → cnt p n ≤ cnt q n
  | 0, _ => Nat.le_refl _
  | n + 1, h => by
    show cnt p n + _ ≤ cnt q n + _
    have := cnt_mono (p := p) (q := q) (n := n) (fun c hc => h c (by omega))
    by_cases z : p n = true
    · rw [if_pos z, if_pos (h n (by omega) z)]; omega
    · rw [if_neg z]; omega
theorem cnt_zero {p : Nat → Bool} {n : Nat} (h : cnt p n = 0) : ∀ c, c < n → p c = false := by
  induction n with
  | zero => intro c hc; omega
  | succ n ih =>
    intro c hc
    have h' : cnt p n + (if p n = true then 1 else 0) = 0 := h
    by_cases z : c = n
    · subst z
      by_cases y : p c = true
      · rw [if_pos y] at h'; omega
      · exact Bool.eq_false_iff.mpr y
    · exact ih (by omega) c (by omega)
/-- how often a sign stands in a row, by its cells -/
theorem count_take (x : Nat) (r : List Nat) : ∀ n, n ≤ r.length → (r.take n).count x = cnt (fun c => decide (r[c]? = some x)) n
  | 0, _ => rfl
  | n + 1, h => by
    have hn : n < r.length := by omega
    have hc : r[n]? = some r[n] := List.getElem?_eq_getElem hn
    rw [take_snoc hc, List.count_append, count_take x r n (by omega)]
    show _ = cnt _ n + (if decide (r[n]? = some x) = true then 1 else 0)
    rw [hc]
    by_cases z : r[n] = x
    · simp [z]
    · simp [z]
theorem count_cnt (x : Nat) (r : List Nat) : r.count x = cnt (fun c => decide (r[c]? = some x)) r.length := by
  have := count_take x r r.length (Nat.le_refl _)
  rw [List.take_length] at this
  exact this
/-- the ring r on the ring t: the same bodies, stars on stars, the same signs, one hole -/
structure Laid (js r t : List Nat) : Prop where
  len : r.length = t.length
  cell : ∀ c x y : Nat, r[c]? = some x → t[c]? = some y → x = y ∨ ((x ∈ js ∨ x = 95) ∧ (y ∈ js ∨ y = 95))
  perm : r.Perm t
  one : r.count 95 = 1
def wrongB (r t : List Nat) (c : Nat) : Bool := decide (r[c]? ≠ t[c]?)
def wrongN (r t : List Nat) : Nat := cnt (wrongB r t) r.length
/-- a joint jumps into the hole -/
def jump (r : List Nat) (h q x : Nat) : List Nat := (r.set h x).set q 95
theorem jump_len (r : List Nat) (h q x : Nat) : (jump r h q x).length = r.length := by unfold jump; simp
theorem jump_at {r : List Nat} {h q x : Nat} (hh : h < r.length) (hq : q < r.length) (ne : h ≠ q) (c : Nat) : (jump r h q x)[c]? = if c = q then some 95 else if c = h then some x else r[c]? := by
  unfold jump
  by_cases z : c = q
  · subst z
    rw [if_pos rfl, List.getElem?_set_self (by rw [List.length_set]; exact hq)]
  · rw [if_neg z, List.getElem?_set_ne (fun e => z e.symm)]
    by_cases y : c = h
    · subst y
      rw [if_pos rfl, List.getElem?_set_self hh]
    · rw [if_neg y, List.getElem?_set_ne (fun e => y e.symm)]
theorem hole_one {r : List Nat} {h c : Nat} (h1 : r.count 95 = 1) (hh : r[h]? = some 95) (hc : r[c]? = some 95) : c = h := by
  refine Classical.byContradiction fun ne => ?_
  have hlt : h < r.length := (List.getElem?_eq_some_iff.mp hh).1
  have clt : c < r.length := (List.getElem?_eq_some_iff.mp hc).1
  rw [count_cnt] at h1
  have e := cnt_one (p := fun d => decide (r[d]? = some 95)) (q := fun d => decide (r[d]? = some 95) && decide (d ≠ h)) (a := h) hlt (fun d _ hd => by simp [hd])
  have e2 := cnt_one (p := fun d => decide (r[d]? = some 95) && decide (d ≠ h)) (q := fun d => decide (r[d]? = some 95) && decide (d ≠ h) && decide (d ≠ c)) (a := c) clt (fun d _ hd => by simp [hd])
  simp [hh] at e
  simp [hc, ne] at e2
  omega
theorem jump_perm {r : List Nat} {h q x : Nat} (hh : r[h]? = some 95) (hq : r[q]? = some x) (ne : h ≠ q) : (jump r h q x).Perm r := by
  have h1 : h < r.length := (List.getElem?_eq_some_iff.mp hh).1
  have q1 : q < r.length := (List.getElem?_eq_some_iff.mp hq).1
  rw [List.perm_iff_count]
  intro z
  rw [count_cnt, count_cnt, jump_len]
  have a1 := cnt_one (p := fun c => decide (r[c]? = some z)) (q := fun c => if c = h then decide (x = z) else decide (r[c]? = some z)) (a := h) h1 (fun c _ hc => by simp [hc])
  have a2 := cnt_one (p := fun c => if c = h then decide (x = z) else decide (r[c]? = some z)) (q := fun c => decide ((jump r h q x)[c]? = some z)) (a := q) q1 (fun c _ hc => by
    rw [jump_at h1 q1 ne, if_neg hc]
    by_cases y : c = h <;> simp [y])
  rw [jump_at h1 q1 ne] at a2
  simp only [if_true, if_neg (Ne.symm ne), hh, hq, Option.some.injEq] at a1 a2
  simp only [decide_eq_true_eq] at a1 a2
  omega
theorem Laid.jump {js r t : List Nat} {h q x y : Nat} (L : Laid js r t) (hh : r[h]? = some 95) (hq : r[q]? = some x) (hx : x ≠ 95) (hy : t[q]? = some y) (hne : x ≠ y) : Laid js (Sw.jump r h q x) t := by
  have h1 : h < r.length := (List.getElem?_eq_some_iff.mp hh).1
  have q1 : q < r.length := (List.getElem?_eq_some_iff.mp hq).1
  have ne : h ≠ q := fun e => by rw [e, hq] at hh; exact hx (Option.some.inj hh)
  have hxj : x ∈ js ∧ (y ∈ js ∨ y = 95) := by
    rcases L.cell q x y hq hy with e | ⟨a, b⟩
    · exact absurd e hne
    · exact ⟨a.resolve_right hx, b⟩
  refine ⟨by rw [jump_len]; exact L.len, fun c a b ha hb => ?_, (jump_perm hh hq ne).trans L.perm, by rw [(jump_perm hh hq ne).count_eq]; exact L.one⟩
  rw [jump_at h1 q1 ne] at ha
  by_cases z : c = q
  · subst z
    rw [if_pos rfl] at ha
    rw [hy] at hb
    rw [← Option.some.inj ha, ← Option.some.inj hb]
    exact .inr ⟨.inr rfl, hxj.2⟩
  · rw [if_neg z] at ha
    by_cases w : c = h
    · subst w
      rw [if_pos rfl] at ha
      rw [← Option.some.inj ha]
      rcases L.cell c 95 b hh hb with e | ⟨_, e⟩
      · exact .inr ⟨.inl hxj.1, .inr e.symm⟩
      · exact .inr ⟨.inl hxj.1, e⟩
    · rw [if_neg w] at ha
      exact L.cell c a b ha hb
/-- wrong cells behind a jump -/
theorem wrong_jump {js r t : List Nat} {h q x y w : Nat} (L : Laid js r t) (hh : r[h]? = some 95) (hq : r[q]? = some x) (hx : x ≠ 95) (hy : t[q]? = some y) (hne : x ≠ y) (hw : t[h]? = some w) :
    wrongN (Sw.jump r h q x) t + 1 + (if w = 95 then 0 else 1) = wrongN r t + (if x = w then 0 else 1) + (if y = 95 then 0 else 1) := by
  have h1 : h < r.length := (List.getElem?_eq_some_iff.mp hh).1
  have q1 : q < r.length := (List.getElem?_eq_some_iff.mp hq).1
  have ne : h ≠ q := fun e => by rw [e, hq] at hh; exact hx (Option.some.inj hh)
  unfold wrongN
  rw [jump_len]
  have a1 := cnt_one (p := wrongB r t) (q := fun c => if c = h then decide (some x ≠ t[c]?) else wrongB r t c) (a := h) h1 (fun c _ hc => by simp [hc])
  have a2 := cnt_one (p := fun c => if c = h then decide (some x ≠ t[c]?) else wrongB r t c) (q := wrongB (Sw.jump r h q x) t) (a := q) q1 (fun c _ hc => by
    show _ = decide _
    rw [jump_at h1 q1 ne, if_neg hc]
    by_cases z : c = h
    · subst z; simp
    · simp only [if_neg z]; rfl)
  have b1 : wrongB r t h = decide (w ≠ 95) := by
    unfold wrongB; rw [hh, hw]; exact decide_eq_decide.mpr ⟨fun e z => e (by rw [z]), fun e z => e (Option.some.inj z).symm⟩
  have b2 : wrongB r t q = true := by
    unfold wrongB; rw [hq, hy]; exact decide_eq_true (fun e => hne (Option.some.inj e))
  have b3 : wrongB (Sw.jump r h q x) t q = decide (y ≠ 95) := by
    unfold wrongB; rw [jump_at h1 q1 ne, if_pos rfl, hy]; exact decide_eq_decide.mpr ⟨fun e z => e (by rw [z]), fun e z => e (Option.some.inj z).symm⟩
  rw [b1] at a1
  rw [b3] at a2
  simp only [if_true, if_neg (Ne.symm ne), b2, hw, Option.some.injEq, ne_eq] at a1 a2
  by_cases c1 : w = 95 <;> by_cases c2 : x = w <;> by_cases c3 : y = 95 <;> simp [c1, c2, c3] at a1 a2 ⊢ <;> omega
/-- the word of a ring whose hole is the cell h -/
def wordAt (r : List Nat) (h : Nat) : List Nat := r.drop (h + 1) ++ r.take h
/-- the place of the deed that brings the cell q into the hole h -/
def placeAt (n h q : Nat) : Nat := if h < q then q - h - 1 else q + n - h - 1
theorem split_at {r : List Nat} {h x : Nat} (hh : r[h]? = some x) : r = r.take h ++ x :: r.drop (h + 1) := by
  obtain ⟨hl, e⟩ := List.getElem?_eq_some_iff.mp hh
  rw [← e, ← List.drop_eq_getElem_cons hl, List.take_append_drop]
theorem word_jump {r : List Nat} {h q x : Nat} (hh : r[h]? = some 95) (hq : r[q]? = some x) (ne : h ≠ q) :
    (wordAt r h)[placeAt r.length h q]? = some x ∧ swapL (wordAt r h) (placeAt r.length h q) = wordAt (Sw.jump r h q x) q := by
  have h1 : h < r.length := (List.getElem?_eq_some_iff.mp hh).1
  have q1 : q < r.length := (List.getElem?_eq_some_iff.mp hq).1
  by_cases hlt : h < q
  · -- r = A ++ 95 :: B ++ x :: C
    have e1 := split_at hq
    have e2 := split_at (r := r.take q) (h := h) (x := 95) (by rw [List.getElem?_take_of_lt hlt]; exact hh)
    generalize hA : (r.take q).take h = A at e2
    generalize hB : (r.take q).drop (h + 1) = B at e2
    generalize hC : r.drop (q + 1) = C at e1
    have hAl : A.length = h := by rw [← hA, List.length_take, List.length_take]; omega
    have hBl : B.length = q - h - 1 := by rw [← hB, List.length_drop, List.length_take]; omega
    have er : r = A ++ 95 :: (B ++ x :: C) := by rw [e2] at e1; rw [e1]; simp
    have ew : wordAt r h = B ++ x :: (C ++ A) := by
      unfold wordAt
      rw [er, show A ++ 95 :: (B ++ x :: C) = (A ++ [95]) ++ (B ++ x :: C) by simp, List.drop_left' (by simp [hAl]), show (A ++ [95]) ++ (B ++ x :: C) = A ++ (95 :: (B ++ x :: C)) by simp, List.take_left' hAl]
      simp
    have ep : placeAt r.length h q = B.length := by unfold placeAt; rw [if_pos hlt, hBl]
    have ej : Sw.jump r h q x = A ++ x :: (B ++ 95 :: C) := by
      unfold Sw.jump
      rw [er, List.set_append_right _ _ (by omega), hAl, Nat.sub_self, List.set_cons_zero, List.set_append_right _ _ (by omega), hAl, show q - h = (q - h - 1) + 1 by omega, List.set_cons_succ, List.set_append_right _ _ (by omega), hBl, Nat.sub_self, List.set_cons_zero]
    rw [ew, ep, ej]
    refine ⟨by rw [List.getElem?_append_right (Nat.le_refl _), Nat.sub_self]; rfl, ?_⟩
    rw [swap_mid]
    unfold wordAt
    have hx : (A ++ x :: B).length = q := by simp [hAl, hBl]; omega
    rw [show A ++ x :: (B ++ 95 :: C) = ((A ++ x :: B) ++ [95]) ++ C by simp, List.drop_left' (by rw [List.length_append, hx]; rfl), show ((A ++ x :: B) ++ [95]) ++ C = (A ++ x :: B) ++ (95 :: C) by simp, List.take_left' hx]
    simp
  · have hgt : q < h := by omega
    have e1 := split_at hh
    have e2 := split_at (r := r.take h) (h := q) (x := x) (by rw [List.getElem?_take_of_lt hgt]; exact hq)
    generalize hA : (r.take h).take q = A at e2
    generalize hB : (r.take h).drop (q + 1) = B at e2
    generalize hC : r.drop (h + 1) = C at e1
    have hAl : A.length = q := by rw [← hA, List.length_take, List.length_take]; omega
    have hBl : B.length = h - q - 1 := by rw [← hB, List.length_drop, List.length_take]; omega
    have hCl : C.length = r.length - h - 1 := by rw [← hC, List.length_drop]; omega
    have er : r = A ++ x :: (B ++ 95 :: C) := by rw [e2] at e1; rw [e1]; simp
    have hx : (A ++ x :: B).length = h := by simp [hAl, hBl]; omega
    have ew : wordAt r h = (C ++ A) ++ x :: B := by
      unfold wordAt
      rw [er, show A ++ x :: (B ++ 95 :: C) = ((A ++ x :: B) ++ [95]) ++ C by simp, List.drop_left' (by rw [List.length_append, hx]; rfl), show ((A ++ x :: B) ++ [95]) ++ C = (A ++ x :: B) ++ (95 :: C) by simp, List.take_left' hx]
      simp
    have ep : placeAt r.length h q = (C ++ A).length := by unfold placeAt; rw [if_neg hlt, List.length_append, hCl, hAl]; omega
    have ej : Sw.jump r h q x = A ++ 95 :: (B ++ x :: C) := by
      unfold Sw.jump
      rw [er, show A ++ x :: (B ++ 95 :: C) = (A ++ x :: B) ++ 95 :: C by simp, List.set_append_right _ _ (by omega), hx, Nat.sub_self, List.set_cons_zero, show (A ++ x :: B) ++ x :: C = A ++ x :: (B ++ x :: C) by simp, List.set_append_right _ _ (by omega), hAl, Nat.sub_self, List.set_cons_zero]
    rw [ew, ep, ej]
    refine ⟨by rw [List.getElem?_append_right (Nat.le_refl _), Nat.sub_self]; rfl, ?_⟩
    rw [swap_mid]
    unfold wordAt
    rw [show A ++ 95 :: (B ++ x :: C) = (A ++ [95]) ++ (B ++ x :: C) by simp, List.drop_left' (by simp [hAl]), show (A ++ [95]) ++ (B ++ x :: C) = A ++ (95 :: (B ++ x :: C)) by simp, List.take_left' hAl]
    simp
/-- there is a cell to take -/
theorem cell_there {js r t : List Nat} {h w : Nat} (L : Laid js r t) (hne : r ≠ t) (hh : r[h]? = some 95) (hw : t[h]? = some w) : ∃ q x y : Nat, r[q]? = some x ∧ t[q]? = some y ∧ x ≠ y ∧ x ≠ 95 ∧ (w = 95 ∨ x = w) := by
  have pair : ∀ c, c < r.length → ∃ x y, r[c]? = some x ∧ t[c]? = some y := fun c hc =>
    ⟨_, _, List.getElem?_eq_getElem hc, List.getElem?_eq_getElem (show c < t.length by rw [← L.len]; exact hc)⟩
  have h1 : h < r.length := (List.getElem?_eq_some_iff.mp hh).1
  by_cases z : w = 95
  · subst z
    refine Classical.byContradiction fun no => hne ?_
    refine list_ext_mod L.len fun c hc => ?_
    obtain ⟨x, y, hx, hy⟩ := pair c hc
    rw [hx, hy]
    refine congrArg some (Classical.byContradiction fun ne => no ⟨c, x, y, hx, hy, ne, fun e => ?_, .inl rfl⟩)
    subst e
    have := hole_one L.one hh hx
    subst this
    rw [hw] at hy
    exact ne (Option.some.inj hy)
  · refine Classical.byContradiction fun no => ?_
    have hc := L.perm.count_eq w
    rw [count_cnt, count_cnt, ← L.len] at hc
    have m1 : cnt (fun c => decide (r[c]? = some w)) r.length ≤ cnt (fun c => decide (t[c]? = some w) && decide (c ≠ h)) r.length := cnt_mono fun c hcl hcw => by
      have hcw' : r[c]? = some w := of_decide_eq_true hcw
      obtain ⟨x, y, hx, hy⟩ := pair c hcl
      rw [hcw'] at hx
      have hxw : w = x := Option.some.inj hx
      have hyw : y = w := Classical.byContradiction fun ne => no ⟨c, w, y, hcw', hy, fun e => ne e.symm, z, .inr rfl⟩
      have hch : c ≠ h := fun e => by rw [e, hh] at hcw'; exact z (Option.some.inj hcw').symm
      rw [hy, hyw]
      simp [hch]
    have m2 := cnt_one (p := fun c => decide (t[c]? = some w)) (q := fun c => decide (t[c]? = some w) && decide (c ≠ h)) (a := h) h1 (fun c _ hcn => by simp [hcn])
    simp [hw] at m2
    simp only [ne_eq, decide_not] at m1
    omega
/-- at least two cells are wrong if one is -/
theorem two_wrong {js r t : List Nat} {h w : Nat} (L : Laid js r t) (hh : r[h]? = some 95) (hw : t[h]? = some w) (hz : w ≠ 95) : 2 ≤ wrongN r t := by
  have hne : r ≠ t := fun e => by rw [e, hw] at hh; exact hz (Option.some.inj hh)
  obtain ⟨q, x, y, hq, hy, hxy, hx, _⟩ := cell_there L hne hh hw
  have h1 : h < r.length := (List.getElem?_eq_some_iff.mp hh).1
  have q1 : q < r.length := (List.getElem?_eq_some_iff.mp hq).1
  have ne : h ≠ q := fun e => by rw [e, hq] at hh; exact hx (Option.some.inj hh)
  unfold wrongN
  have a1 := cnt_one (p := wrongB r t) (q := fun c => wrongB r t c && decide (c ≠ h)) (a := h) h1 (fun c _ hc => by simp [hc])
  have a2 := cnt_one (p := fun c => wrongB r t c && decide (c ≠ h)) (q := fun c => wrongB r t c && decide (c ≠ h) && decide (c ≠ q)) (a := q) q1 (fun c _ hc => by simp [hc])
  have b1 : wrongB r t h = true := by unfold wrongB; rw [hh, hw]; exact decide_eq_true (fun e => hz (Option.some.inj e).symm)
  have b2 : wrongB r t q = true := by unfold wrongB; rw [hq, hy]; exact decide_eq_true (fun e => hxy (Option.some.inj e))
  simp [b1] at a1
  simp [b2, Ne.symm ne] at a2
  omega
theorem one_wrong {r t : List Nat} {q x y : Nat} (hq : r[q]? = some x) (hy : t[q]? = some y) (hxy : x ≠ y) : 1 ≤ wrongN r t := by
  have q1 : q < r.length := (List.getElem?_eq_some_iff.mp hq).1
  unfold wrongN
  have a1 := cnt_one (p := wrongB r t) (q := fun c => wrongB r t c && decide (c ≠ q)) (a := q) q1 (fun c _ hc => by simp [hc])
  have b1 : wrongB r t q = true := by unfold wrongB; rw [hq, hy]; exact decide_eq_true (fun e => hxy (Option.some.inj e))
  simp [b1] at a1
  omega
/-- what the deeds to come cost at most, twice -/
def PotAt (r t : List Nat) (h n : Nat) : Prop :=
  (t[h]? = some 95 ∧ n = 3 * wrongN r t) ∨ (∃ w : Nat, t[h]? = some w ∧ w ≠ 95 ∧ (n + 4 = 3 * wrongN r t ∨ (n + 5 = 3 * wrongN r t ∧ ∀ k : Nat, t[k]? = some 95 → r[k]? ≠ some w)))
theorem pot_jump {js r t : List Nat} {h q x y w n : Nat} (L : Laid js r t) (hh : r[h]? = some 95) (hw : t[h]? = some w) (hq : r[q]? = some x) (hy : t[q]? = some y) (hxy : x ≠ y) (hx : x ≠ 95) (hc : w = 95 ∨ x = w) (P : PotAt r t h n) :
    ∃ n', n' + 2 ≤ n ∧ PotAt (Sw.jump r h q x) t q n' := by
  have h1 : h < r.length := (List.getElem?_eq_some_iff.mp hh).1
  have q1 : q < r.length := (List.getElem?_eq_some_iff.mp hq).1
  have ne : h ≠ q := fun e => by rw [e, hq] at hh; exact hx (Option.some.inj hh)
  have W := wrong_jump L hh hq hx hy hxy hw
  have one : t.count 95 = 1 := by rw [← L.perm.count_eq]; exact L.one
  have L' := L.jump hh hq hx hy hxy
  have hq' : (Sw.jump r h q x)[q]? = some 95 := by rw [jump_at h1 q1 ne, if_pos rfl]
  rcases P with ⟨p1, p2⟩ | ⟨w', hw', hz, p⟩
  · rw [hw] at p1
    have hw95 : w = 95 := Option.some.inj p1
    subst hw95
    have hy95 : y ≠ 95 := fun e => by rw [e] at hy; exact ne (hole_one one hw hy).symm
    rw [if_pos rfl, if_neg hx, if_neg hy95] at W
    have ow := one_wrong hq hy hxy
    refine ⟨3 * wrongN r t - 2, by omega, .inr ⟨y, hy, hy95, .inr ⟨by omega, fun k hk => ?_⟩⟩⟩
    have := hole_one one hw hk
    subst this
    rw [jump_at h1 q1 ne, if_neg ne, if_pos rfl]
    exact fun e => hxy (Option.some.inj e)
  · rw [hw] at hw'
    have e := Option.some.inj hw'
    subst e
    have hxw : x = w := hc.resolve_left hz
    subst hxw
    rw [if_neg hz, if_pos rfl] at W
    by_cases hy95 : y = 95
    · subst hy95
      rw [if_pos rfl] at W
      refine ⟨3 * wrongN (Sw.jump r h q x) t, ?_, .inl ⟨hy, rfl⟩⟩
      rcases p with p | ⟨_, p⟩
      · omega
      · exact absurd hq (p q hy)
    · rw [if_neg hy95] at W
      have tw := two_wrong L' hq' hy hy95
      refine ⟨3 * wrongN (Sw.jump r h q x) t - 4, ?_, .inr ⟨y, hy, hy95, .inl (by omega)⟩⟩
      rcases p with p | ⟨p, _⟩ <;> omega
/-- all lies -/
def liesL (l m js : List Nat) : List Nat := if l.length = m.length then (List.range (l.length + 1)).filter fun k => decide (rotL (ringL l js) k = ringL m js) else []
theorem in_two (c y : Nat) : inV (V.str (S [c])) [V.str (S [y]), V.str (S [95])] = (decide (c = y) || decide (c = 95)) := by
  show (S [y] == S [c] || (S [95] == S [c] || false)) = _
  have e : ∀ a : Nat, (S [a] == S [c]) = decide (c = a) := fun a => by
    by_cases z : c = a
    · subst z; simp
    · have : ¬ S [a] = S [c] := fun e => z (by have := SX.S_inj e; simpa using this.symm)
      rw [beq_eq_false_iff_ne.mpr this, decide_eq_false z]
  rw [e, e, Bool.or_false]
/-- the wrong cells of joints -/
def wrongL (r t : List Nat) (n : Nat) : List Nat := (List.range n).filter fun q => decide (r[q]? ≠ t[q]?) && decide (r[q]? ≠ some 95)
theorem wrong_snoc {r t : List Nat} {i c y : Nat} (hc : r[i]? = some c) (hy : t[i]? = some y) : wrongL r t (i + 1) = wrongL r t i ++ (if c = y ∨ c = 95 then [] else [i]) := by
  unfold wrongL
  rw [List.range_succ, List.filter_append]
  congr 1
  rw [List.filter_cons, hc, hy]
  by_cases z : c = y <;> by_cases w : c = 95 <;> simp [z, w]
theorem words_eqv : ∀ (a b : List (List Nat)), PyData.eqvAll (wordsD a) (wordsD b) = decide (a = b)
  | [], [] => rfl
  | [], _ :: _ => rfl
  | _ :: _, [] => rfl
  | x :: a, y :: b => by
    show ((S x == S y) && PyData.eqvAll (wordsD a) (wordsD b)) = _
    rw [words_eqv a b]
    by_cases z : x = y
    · subst z; simp
    · have : ¬ S x = S y := fun e => z (SX.S_inj e)
      rw [beq_eq_false_iff_ne.mpr this]
      simp [z]
theorem singles_inj {a b : List Nat} : (a.map fun c => [c]) = (b.map fun c => [c]) ↔ a = b := List.map_inj_right fun x y e => by simpa using e
theorem signs_eqv (a b : List Nat) : PyData.eqv (.list (wordsD (a.map fun c => [c]))) (.list (wordsD (b.map fun c => [c]))) = decide (a = b) := by
  show PyData.eqvAll _ _ = _
  rw [words_eqv]
  exact decide_eq_decide.mpr singles_inj
theorem ix_nat {n j : Nat} (h : j < n) : ixN n (j : Int) = some j := by
  unfold ixN
  rw [if_pos (by omega), if_pos (by omega)]; rfl
/-- the sign of a cell: a star for a joint and the hole -/
def signF (js : List Nat) (x : Nat) : Nat := if x ∈ js ∨ x = 95 then 42 else x
theorem rot_map (f : Nat → Nat) (r : List Nat) (k : Nat) : rotL (r.map f) k = (rotL r k).map f := by
  unfold rotL; rw [List.map_append, List.map_drop, List.map_take]
theorem ring_sign {l js : List Nat} (hw : wordB l = true) : ringL l js = (l ++ [95]).map (signF js) := by
  unfold ringL starL
  rw [List.map_append]
  congr 1
  · refine List.map_congr_left fun c hc => ?_
    have := wordB_mem hw hc
    unfold signF
    by_cases z : c ∈ js
    · rw [if_pos z, if_pos (.inl z)]
    · rw [if_neg z, if_neg (fun q => q.elim z (fun e => by omega))]
  · show [42] = [signF js 95]
    unfold signF
    rw [if_pos (.inr rfl)]
theorem lie_comes {l m js : List Nat} {k : Nat} (h : k ∈ liesL l m js) (he : evenB l m js = true) : comesB l m js = true := by
  unfold liesL at h
  split at h
  · obtain ⟨h1, h2⟩ := List.mem_filter.mp h
    have h3 := List.mem_range.mp h1
    have h4 := of_decide_eq_true h2
    unfold comesB
    rw [he, Bool.and_true]
    refine decide_eq_true ?_
    rw [← h4, min_rot (by rw [ring_len]; omega)]
  · cases h
theorem hole_at {l : List Nat} {k : Nat} (hk : k ≤ l.length) : rotL (l ++ [95]) k = l.drop k ++ 95 :: l.take k := by
  unfold rotL
  rw [List.drop_append_of_le_length hk, List.take_append_of_le_length hk]
  simp
theorem lay_start {l m js : List Nat} {k : Nat} (hl : wordB l = true) (hm : wordB m = true) (h : k ∈ liesL l m js) (he : evenB l m js = true) :
    k ≤ l.length ∧ Laid js (rotL (l ++ [95]) k) (m ++ [95]) ∧ (rotL (l ++ [95]) k)[l.length - k]? = some 95 ∧ wordAt (rotL (l ++ [95]) k) (l.length - k) = l := by
  have hc := lie_comes h he
  have hp : m.Perm l := (comes_reach (word_star hl) (word_star hm) hc).perm
  unfold liesL at h
  split at h
  case isFalse => cases h
  case isTrue hlen =>
  obtain ⟨h1, h2⟩ := List.mem_filter.mp h
  have hk : k ≤ l.length := by have := List.mem_range.mp h1; omega
  have h4 := of_decide_eq_true h2
  rw [ring_sign hl, ring_sign hm, rot_map] at h4
  refine ⟨hk, ⟨by rw [rot_len, List.length_append, List.length_append, hlen], fun c x y hx hy => ?_, ?_, ?_⟩, ?_, ?_⟩
  · have hf : signF js x = signF js y := by
      have := congrArg (fun q => q[c]?) h4
      simp only [List.getElem?_map, hx, hy, Option.map_some] at this
      exact Option.some.inj this
    have hx42 : x ≠ 42 := fun e => by
      have hm2 := List.mem_of_getElem? hx
      rw [mem_rot] at hm2
      rcases List.mem_append.mp hm2 with q | q
      · have := wordB_mem hl q; omega
      · rw [List.mem_singleton.mp q] at e; omega
    have hy42 : y ≠ 42 := fun e => by
      rcases List.mem_append.mp (List.mem_of_getElem? hy) with q | q
      · have := wordB_mem hm q; omega
      · rw [List.mem_singleton.mp q] at e; omega
    unfold signF at hf
    by_cases zx : x ∈ js ∨ x = 95
    · by_cases zy : y ∈ js ∨ y = 95
      · exact .inr ⟨zx, zy⟩
      · rw [if_pos zx, if_neg zy] at hf; exact absurd hf.symm hy42
    · by_cases zy : y ∈ js ∨ y = 95
      · rw [if_neg zx, if_pos zy] at hf; exact absurd hf hx42
      · rw [if_neg zx, if_neg zy] at hf; exact .inl hf
  · rw [hole_at hk]
    have e1 : (l.drop k ++ 95 :: l.take k).Perm (95 :: (l.drop k ++ l.take k)) := List.perm_middle
    have e2 : (l.drop k ++ l.take k).Perm l := by
      have := List.perm_append_comm (l₁ := l.drop k) (l₂ := l.take k)
      rwa [List.take_append_drop] at this
    have e3 : (m ++ [95]).Perm (95 :: m) := List.perm_append_singleton _ _
    exact (e1.trans ((e2.trans hp.symm).cons 95)).trans e3.symm
  · rw [count_rot, List.count_append]
    have : l.count 95 = 0 := List.count_eq_zero.mpr fun q => by have := wordB_mem hl q; omega
    rw [this]; rfl
  · rw [hole_at hk, List.getElem?_append_right (by rw [List.length_drop]; omega), List.length_drop, Nat.sub_self]; rfl
  · rw [hole_at hk]
    unfold wordAt
    rw [show l.drop k ++ 95 :: l.take k = (l.drop k ++ [95]) ++ l.take k by simp, List.drop_left' (by simp), show (l.drop k ++ [95]) ++ l.take k = l.drop k ++ (95 :: l.take k) by simp, List.take_left' (by simp)]
    exact List.take_append_drop _ _
theorem lay_end {m : List Nat} {h : Nat} (hm : wordB m = true) (hh : (m ++ [95])[h]? = some 95) : wordAt (m ++ [95]) h = m := by
  have h1 : (m ++ [95]).count 95 = 1 := by
    rw [List.count_append]
    have : m.count 95 = 0 := List.count_eq_zero.mpr fun q => by have := wordB_mem hm q; omega
    rw [this]; rfl
  have h2 : (m ++ [95])[m.length]? = some 95 := by rw [List.getElem?_append_right (Nat.le_refl _), Nat.sub_self]; rfl
  have := hole_one h1 h2 hh
  subst this
  unfold wordAt
  rw [List.drop_eq_nil_of_le (by simp), List.take_left' rfl, List.nil_append]
def pot0 (r t : List Nat) (h : Nat) : Nat := if t[h]? = some 95 then 3 * wrongN r t else 3 * wrongN r t - 4
theorem pot_start {js r t : List Nat} {h : Nat} (L : Laid js r t) (hh : r[h]? = some 95) : PotAt r t h (pot0 r t h) := by
  have h1 : h < t.length := by rw [← L.len]; exact (List.getElem?_eq_some_iff.mp hh).1
  have hw : t[h]? = some t[h] := List.getElem?_eq_getElem h1
  unfold pot0
  by_cases z : t[h]? = some 95
  · rw [if_pos z]; exact .inl ⟨z, rfl⟩
  · rw [if_neg z]
    have z' : t[h] ≠ 95 := fun e => z (by rw [hw, e])
    have := two_wrong L hh hw z'
    exact .inr ⟨_, hw, z', .inl (by omega)⟩
theorem place_mod {n h q : Nat} (hh : h < n) (hq : q < n) (ne : h ≠ q) : ((q : Int) - (h : Int) - 1) % (n : Int) = (placeAt n h q : Nat) := by
  unfold placeAt
  by_cases z : h < q
  · rw [if_pos z, Int.emod_eq_of_lt (by omega) (by omega)]; omega
  · rw [if_neg z]
    have e : ((q : Int) - (h : Int) - 1) = (((q + n - h - 1 : Nat) : Int)) + (n : Int) * (-1) := by omega
    rw [e, Int.add_mul_emod_self_left, Int.emod_eq_of_lt (by omega) (by omega)]
theorem words_flat1 (l : List Nat) : (signsV l).all flatV = true := by rw [signs_words]; exact words_flat _
theorem eqV_refl (s : Str) : eqV (V.str s) (V.str s) = true := by show (s == s) = true; simp
theorem eqV_ne {c d : Nat} (h : c ≠ d) : eqV (V.str (S [c])) (V.str (S [d])) = false := by
  show (S [c] == S [d]) = false
  exact beq_eq_false_iff_ne.mpr fun e => h (by have := SX.S_inj e; simpa using this)
theorem signs_set (r : List Nat) (h x : Nat) : (signsV r).set h (V.str (S [x])) = signsV (r.set h x) := by show (((r.map fun c => S [c]).map V.str).set h _) = ((r.set h x).map fun c => S [c]).map V.str; rw [List.map_set, List.map_set]
theorem pot_le (r t : List Nat) (h : Nat) : pot0 r t h ≤ 3 * r.length := by
  have := cnt_le (p := wrongB r t) r.length
  unfold pot0 wrongN
  split <;> omega
theorem lies_some {l m js : List Nat} (h : comesB l m js = true) : ∃ k r, liesL l m js = k :: r := by
  unfold comesB at h
  rw [Bool.and_eq_true] at h
  obtain ⟨k, hk, e⟩ := rot_of_min (ring_ne _ _) (ring_ne _ _) (of_decide_eq_true h.1)
  have hlen : l.length = m.length := by
    have := congrArg List.length e
    rw [rot_len, ring_len, ring_len] at this
    omega
  rw [ring_len] at hk
  have hm : k ∈ liesL l m js := by
    unfold liesL
    rw [if_pos hlen]
    exact List.mem_filter.mpr ⟨List.mem_range.mpr hk, decide_eq_true e.symm⟩
  cases hl : liesL l m js with
  | nil => rw [hl] at hm; cases hm
  | cons k r => exact ⟨k, r, rfl⟩
theorem comes_even {l m js : List Nat} (h : comesB l m js = true) : evenB l m js = true := by
  unfold comesB at h
  rw [Bool.and_eq_true] at h
  exact h.2
theorem lead_nil {l m js : List Nat} (h : comesB l m js = false) : (if evenB l m js = true then liesL l m js else []) = [] := by
  cases he : evenB l m js with
  | false => rfl
  | true =>
    rw [if_pos rfl]
    cases hl : liesL l m js with
    | nil => rfl
    | cons k r =>
      have := lie_comes (k := k) (by rw [hl]; exact List.mem_cons_self) he
      rw [h] at this; cases this
end Sw
/-! Sorted lists of words of any length; search with a stack. -/
namespace Sw
open PySem PySem.W PySem.Spec PyProof.Rows L2
theorem perm_words {ys : List Str} {ws : List (List Nat)} (h : ys.Perm (ws.map S)) : ∃ vs : List (List Nat), ys = vs.map S ∧ vs.Perm ws := by
  have hm : ∀ y ∈ ys, ∃ l, y = S l := fun y hy => by
    obtain ⟨l, _, e⟩ := List.mem_map.mp (h.mem_iff.mp hy)
    exact ⟨l, e.symm⟩
  let f : Str → List Nat := fun y => y.cps.toList
  have hf : ∀ l : List Nat, f (S l) = l := fun l => by simp [f, SX.S]
  have e : ys = (ys.map f).map S := by
    rw [List.map_map]
    refine (List.map_id ys).symm.trans (List.map_congr_left fun y hy => ?_)
    obtain ⟨l, rfl⟩ := hm y hy
    show S l = S (f (S l))
    rw [hf]
  have hp : (ys.map f).Perm ws := by
    have := h.map f
    rw [List.map_map] at this
    have e2 : ws.map (f ∘ S) = ws := by
      refine (List.map_congr_left fun l _ => ?_).trans (List.map_id ws)
      exact hf l
    rw [e2] at this
    exact this
  exact ⟨_, e, hp⟩
/-- sorted of a list of words of any length -/
def rSortedW (K : PySem.W.Frag) : List V → Hp → VK → Prop := fun vs H Q => ∃ (a : Addr) (ws : List (List Nat)), vs = [V.ref a] ∧ SqL K H a (wordsV ws) ∧ ws.length ≤ sizeLine ∧
  ∀ (us : List (List Nat)) (p : Addr), us.Perm ws → sortedS (us.map S) = true → H p = none → Q (.ref p) (upd H p (.lst (wordsV us)))
theorem cr_sortedW {X : Cx} : CallR X (.builtin "sorted") (rSortedW X.K) := by
  intro pins s σ H vs us Q I r h
  obtain ⟨a, ws, rfl, hs, hz, q⟩ := h
  have ew : wordsV ws = (ws.map S).map V.str := by rw [List.map_map]; rfl
  rw [ew] at hs
  obtain ⟨its, rv, hl, _⟩ := I.list hs
  rw [Vals.ref1 r]
  have hlen0 := rv.length
  rw [List.length_map, List.length_map] at hlen0
  refine PyProof.Rows.sorted_strsAny hl.isList rv.strs (by rw [← hlen0]; exact hz) fun out ys h1 h2 h3 => ?_
  obtain ⟨vs, rfl, hp⟩ := perm_words h2
  obtain ⟨ep, he'⟩ := PyProof.Rows.sortedAll_at s.heap its out
  have hlen : (wordsV vs).length ≤ sizeLine := by rw [List.length_map, hp.length_eq]; exact hz
  have ev : (vs.map S).map V.str = wordsV vs := by rw [List.map_map]; rfl
  have hv := vals_of_strs h1
  rw [ev] at hv
  exact ⟨.ref _, upd H (s.heap.objs.size + 1) (.lst (wordsV vs)), I.laid (t' := s.toks) (fun _ _ => PyProof.Rows.sortedAll_old) (Nat.le_succ _) ⟨hlen, out.toList, ep, hv, he'⟩, rfl, q vs _ hp h3 (I.hok.fresh (Nat.le_succ _))⟩
theorem wordsK_keys (ws : List (List Nat)) : ((wordsK ws).map fun kv => kV kv.1) = wordsV ws := by
  unfold wordsK
  rw [List.map_map]
  rfl
theorem openL_mem {l js : List Nat} {i c : Nat} (h : l[i]? = some c) (hc : c ∈ js) : i ∈ openL l js := by
  unfold openL
  refine List.mem_filter.mpr ⟨List.mem_range.mpr (List.getElem?_eq_some_iff.mp h).1, ?_⟩
  rw [h]
  simp [hc]
theorem openL_at {l js : List Nat} {i c : Nat} (h : l[i]? = some c) (hc : c ∈ js) : ∃ j : Nat, j < (openL l js).length ∧ (openL l js)[j]? = some i := by
  obtain ⟨j, hj, e⟩ := List.mem_iff_getElem.mp (openL_mem h hc)
  exact ⟨j, hj, by rw [List.getElem?_eq_getElem hj, e]⟩
/-- a list of words equal to the empty list -/
theorem words_is_nil {K : PySem.W.Frag} {H : Hp} {a b : Addr} {ws : List (List Nat)} {Q : VK} (ha : SqL K H a (wordsV ws)) (hb : SqL K H b []) (q : Q (.bl ws.isEmpty) H) : rEqP K (.ref a) (.ref b) H Q := by
  refine ⟨.list (wordsD ws), .list [], .lst ha (words_dp ws), .lst hb .nil, words_plainL ws, rfl, words_depthL ws, ?_⟩
  rw [words_eqv_nil]
  exact q
/-- search with a stack: us are known, st wait, i were taken off, those of ex are under way -/
structure Srch (B w : List Nat) (us st : List (List Nat)) (i : Nat) (ex : List (List Nat)) : Prop where
  nd : us.Nodup
  start : w ∈ us
  reach : ∀ v ∈ us, Reach B w v
  sub : ∀ v ∈ st, v ∈ us
  cnt : us.length = st.length + i
  done : ∀ v ∈ us, ¬ v ∈ st → ¬ v ∈ ex → ∀ p c, v[p]? = some c → c ∈ B → swapL v p ∈ us
theorem Srch.one (B w : List Nat) : Srch B w [w] [w] 0 [] where
  nd := by simp
  start := by simp
  reach := fun v hv => by rw [List.mem_singleton.mp hv]; exact .refl
  sub := fun v hv => hv
  cnt := rfl
  done := fun v hv hn => absurd hv hn
theorem pow_self_le {n m : Nat} (h : n ≤ m) (hm : 1 ≤ m) : n ^ n ≤ m ^ m := Nat.le_trans (Nat.pow_le_pow_left h n) (Nat.pow_le_pow_right hm h)
theorem Srch.len {B w : List Nat} {us st ex : List (List Nat)} {i : Nat} (h : Srch B w us st i ex) (hw : w.length ≤ 5) : us.length ≤ 3125 := by
  have h1 := few_of_nodup (b := allW w w.length) h.nd fun v hv => mem_allW.mpr ⟨(h.reach v hv).len, (h.reach v hv).mem⟩
  rw [len_allW] at h1
  have h2 := pow_self_le hw (by decide)
  have h3 : (5 : Nat) ^ 5 = 3125 := by decide
  omega
theorem Srch.pop {B w v : List Nat} {us st : List (List Nat)} {i : Nat} (h : Srch B w us st i []) (hv : st[st.length - 1]? = some v) : Srch B w us st.dropLast (i + 1) [v] where
  nd := h.nd
  start := h.start
  reach := h.reach
  sub := fun u hu => h.sub u (List.dropLast_subset _ hu)
  cnt := by
    have := h.cnt
    have h0 : 0 < st.length := by
      cases st with
      | nil => simp at hv
      | cons _ _ => simp
    rw [List.length_dropLast]
    omega
  done := fun u hu hn he p c hc hb => h.done u hu (fun hs => by
    have hne : st ≠ [] := by
      rintro rfl
      simp at hv
    have e : st = st.dropLast ++ [st.getLast hne] := (List.dropLast_concat_getLast hne).symm
    have e2 : st.getLast hne = v := by
      rw [List.getLast_eq_getElem]
      have hlt : st.length - 1 < st.length := by
        have := List.length_pos_iff.mpr hne
        omega
      rw [List.getElem?_eq_getElem hlt] at hv
      exact Option.some.inj hv
    rw [e, e2] at hs
    rcases List.mem_append.mp hs with hs | hs
    · exact hn hs
    · exact he hs) (by simp) p c hc hb
theorem Srch.add {B w v : List Nat} {us st ex : List (List Nat)} {i p c : Nat} (h : Srch B w us st i ex) (hv : v ∈ us) (hc : v[p]? = some c) (hb : c ∈ B) (hn : ¬ swapL v p ∈ us) : Srch B w (us ++ [swapL v p]) (st ++ [swapL v p]) i ex where
  nd := by
    rw [List.nodup_append]
    exact ⟨h.nd, by simp, fun a ha b hb' e => hn (by rw [List.mem_singleton.mp hb'] at e; exact e ▸ ha)⟩
  start := List.mem_append.mpr (.inl h.start)
  reach := fun u hu => by
    rcases List.mem_append.mp hu with hu | hu
    · exact h.reach u hu
    · rw [List.mem_singleton.mp hu]; exact .step (h.reach v hv) hc hb
  sub := fun u hu => by
    rcases List.mem_append.mp hu with hu | hu
    · exact List.mem_append.mpr (.inl (h.sub u hu))
    · exact List.mem_append.mpr (.inr hu)
  cnt := by rw [List.length_append, List.length_append, h.cnt]; simp; omega
  done := fun u hu hs he q d hd hB => by
    rcases List.mem_append.mp hu with hu | hu
    · exact List.mem_append.mpr (.inl (h.done u hu (fun z => hs (List.mem_append.mpr (.inl z))) he q d hd hB))
    · exact absurd (List.mem_append.mpr (.inr hu)) hs
theorem Srch.fin {B w v : List Nat} {us st : List (List Nat)} {i : Nat} (h : Srch B w us st i [v]) (hd : ∀ p c, v[p]? = some c → c ∈ B → swapL v p ∈ us) : Srch B w us st i [] where
  nd := h.nd
  start := h.start
  reach := h.reach
  sub := h.sub
  cnt := h.cnt
  done := fun u hu hs _ p c hc hb => by
    by_cases z : u = v
    · subst z; exact hd p c hc hb
    · exact h.done u hu hs (by simpa using z) p c hc hb
theorem Srch.all {B w : List Nat} {us : List (List Nat)} {i : Nat} (h : Srch B w us [] i []) : ∀ v, v ∈ us ↔ Reach B w v :=
  reach_list h.start h.reach fun v hv p c hc hb => h.done v hv (by simp) (by simp) p c hc hb
theorem comes_len {l m js : List Nat} (hl : wordB l = true) (hm : wordB m = true) (h : comesB l m js = true) : m.length = l.length := ((reach_iff hl hm).mpr h).len
theorem Reach.word {js w v : List Nat} (h : Reach js w v) (hw : wordB w = true) : wordB v = true := wordB_of fun c hc => wordB_mem hw (h.mem c hc)
theorem bar_non {b : Bool} {v : V} (h : if b = true then v = V.non else ∃ T, v = V.ref T) : decide (v = V.non) = b := by
  cases b with
  | true => rw [if_pos rfl] at h; rw [h]; rfl
  | false =>
    rw [if_neg (by decide)] at h
    obtain ⟨T0, rfl⟩ := h
    exact decide_eq_false fun q => by cases q
theorem same_ne (b : Bool) : (!decide (V.bl b = V.bl b)) = false := by simp
theorem same_eq (b : Bool) : decide (V.bl b = V.bl b) = true := by simp
theorem asc_take : ∀ {l : List Nat} {n : Nat}, ascB l = true → ascB (l.take n) = true
  | [], n, _ => by simp [ascB]
  | [a], n, _ => by cases n <;> simp [ascB]
  | a :: b :: r, 0, _ => rfl
  | a :: b :: r, 1, _ => by simp [ascB]
  | a :: b :: r, n + 2, h => by
    have e1 : ascB (a :: b :: r) = (decide (a < b) && ascB (b :: r)) := rfl
    have e2 : ascB ((a :: b :: r).take (n + 2)) = (decide (a < b) && ascB ((b :: r).take (n + 1))) := rfl
    rw [e1, Bool.and_eq_true] at h
    rw [e2, h.1, asc_take h.2]
    rfl
theorem joints_word {js : List Nat} (h : jointsB js = true) : wordB js = true := by
  unfold jointsB at h
  rw [Bool.and_eq_true] at h
  exact h.1
theorem joints_take {js : List Nat} {n : Nat} (h : jointsB js = true) : jointsB (js.take n) = true := by
  have hw := joints_word h
  unfold jointsB at h ⊢
  rw [Bool.and_eq_true] at h ⊢
  exact ⟨wordB_of fun c hc => wordB_mem hw (List.mem_of_mem_take hc), asc_take h.2⟩
end Sw
/-! The first and the last word of a class. -/
namespace Sw
open PySem PySem.Spec PyProof.Rows L2
/-! ### max of a list of words -/
def maxL (x : List Nat) (xs : List (List Nat)) : List Nat := xs.foldl (fun a y => if a < y then y else a) x
theorem maxD_words (x : List Nat) (xs : List (List Nat)) : PySem.W.maxD (.str (S x)) (wordsD xs) = .str (S (maxL x xs)) := by
  unfold PySem.W.maxD maxL wordsD
  induction xs generalizing x with
  | nil => rfl
  | cons y r ih =>
    rw [List.map_cons, List.foldl_cons, List.foldl_cons, ← ih]
    (try dsimp only)
    rw [PySem.W.dataLt_str]
    have e : (if decide ((S x).cps.toList < (S y).cps.toList) = true then PyData.str (S y) else PyData.str (S x)) = .str (S (if x < y then y else x)) := by
      by_cases h : x < y
      · rw [if_pos (decide_eq_true h), if_pos h]
      · rw [if_neg (fun z => h (of_decide_eq_true z)), if_neg h]
    rw [e]
def rMaxS (K : PySem.W.Frag) : List V → Hp → VK → Prop := fun vs H Q => ∃ (a : Addr) (x : List Nat) (xs : List (List Nat)), vs = [V.ref a] ∧ SqL K H a (wordsV (x :: xs)) ∧ Q (.str (S (maxL x xs))) H
theorem cr_maxS {X : Cx} (hc : X.calm = true) (hu : X.A.units + 64 < cLine) : CallR X (.builtin "max") (rMaxS X.K) := by
  intro pins s σ H vs us Q I r h
  obtain ⟨a, x, xs, rfl, hs, q⟩ := h
  obtain ⟨its, rv, hl, _⟩ := I.list hs
  rw [Vals.ref1 r]
  obtain ⟨as, hr⟩ := Dp.readsAll I _ _ _ (words_dp (K := X.K) (H := H) (x :: xs)) rv
  have hd : PyData.depthAll (wordsD (x :: xs)) = 0 := words_depth (x :: xs)
  refine PySem.W.max_list_data (I.ok.hd hc) hl.isList (x := .str (S x)) (xs := wordsD xs) (by rw [List.toList_toArray]; exact hr) (words_alike (x :: xs)) (by show X.A.units + 1 + PyData.depthAll (wordsD (x :: xs)) < cLine; rw [hd]; omega) fun i v h' tk bs _ rd hk => ?_
  rw [maxD_words] at rd
  cases rd
  exact ⟨.str _, H, I.kept hk, ⟨_, rfl⟩, q⟩
theorem lt_irr (a : List Nat) : ¬ a < a := List.lt_irrefl a
theorem lt_tr {a b c : List Nat} (h : a < b) (g : b < c) : a < c := List.lt_trans h g
theorem lt_tot {a b : List Nat} (h : ¬ a < b) (g : ¬ b < a) : a = b := List.le_antisymm (List.not_lt.mp g) (List.not_lt.mp h)
theorem lt_neg {a b c : List Nat} (h : ¬ b < a) (g : ¬ c < b) : ¬ c < a := fun q => by
  have h1 : a ≤ b := List.not_lt.mp h
  have h2 : b ≤ c := List.not_lt.mp g
  exact List.not_lt.mpr (List.le_trans h1 h2) q
theorem maxL_ge (x : List Nat) (xs : List (List Nat)) : (∀ y ∈ x :: xs, ¬ maxL x xs < y) ∧ maxL x xs ∈ x :: xs := by
  unfold maxL
  induction xs generalizing x with
  | nil => exact ⟨fun y hy => by rw [List.mem_singleton.mp hy]; exact lt_irr _, by simp⟩
  | cons z r ih =>
    rw [List.foldl_cons]
    by_cases h : x < z
    · rw [if_pos h]
      obtain ⟨h1, h2⟩ := ih z
      refine ⟨fun y hy => ?_, List.mem_cons_of_mem _ h2⟩
      rcases List.mem_cons.mp hy with rfl | hy
      · exact fun q => h1 z List.mem_cons_self (lt_tr q h)
      · exact h1 y hy
    · rw [if_neg h]
      obtain ⟨h1, h2⟩ := ih x
      refine ⟨fun y hy => ?_, ?_⟩
      · rcases List.mem_cons.mp hy with rfl | hy
        · exact h1 y List.mem_cons_self
        · rcases List.mem_cons.mp hy with rfl | hy
          · exact lt_neg h (h1 x List.mem_cons_self)
          · exact h1 y (List.mem_cons_of_mem _ hy)
      · rcases List.mem_cons.mp h2 with e | e
        · rw [e]; exact List.mem_cons_self
        · exact List.mem_cons_of_mem _ (List.mem_cons_of_mem _ e)
def maxW : List (List Nat) → List Nat
  | [] => []
  | x :: xs => maxL x xs
theorem maxW_spec {ws : List (List Nat)} (h : ws ≠ []) : (∀ y ∈ ws, ¬ maxW ws < y) ∧ maxW ws ∈ ws := by
  cases ws with
  | nil => exact absurd rfl h
  | cons x xs => exact maxL_ge x xs
/-! ### parts between stars -/
def splL : List Nat → List (List Nat)
  | [] => [[]]
  | c :: r => if c = 42 then [] :: splL r else (match splL r with | h :: t => (c :: h) :: t | [] => [[c]])
theorem splL_ne : ∀ l, splL l ≠ []
  | [] => by simp [splL]
  | c :: r => by
    show (if c = 42 then [] :: splL r else (match splL r with | h :: t => (c :: h) :: t | [] => [[c]])) ≠ []
    by_cases z : c = 42
    · rw [if_pos z]; simp
    · rw [if_neg z]
      cases splL r <;> simp
theorem pre_one (c : Nat) (r : List Nat) : TL.pre [42] (c :: r) = decide (c = 42) := by
  show ([c] == [42]) = _
  by_cases z : c = 42
  · subst z; rfl
  · rw [decide_eq_false z]; simp [z]
theorem spl_one : ∀ (l acc : List Nat), TL.spl [42] 0 acc l = (match splL l with | h :: t => (acc ++ h) :: t | [] => [])
  | [], acc => by rw [TL.spl_nil]; simp [splL]
  | c :: r, acc => by
    have e : splL (c :: r) = if c = 42 then [] :: splL r else (match splL r with | h :: t => (c :: h) :: t | [] => [[c]]) := rfl
    by_cases z : c = 42
    · rw [TL.spl_hit (by rw [pre_one]; exact decide_eq_true z), e, if_pos z]
      have ih := spl_one r []
      show acc :: TL.spl [42] 0 [] r = _
      rw [ih]
      cases h : splL r with
      | nil => exact absurd h (splL_ne r)
      | cons h t => simp
    · rw [TL.spl_miss (by rw [pre_one]; exact decide_eq_false z), e, if_neg z, spl_one r (acc ++ [c])]
      cases h : splL r with
      | nil => exact absurd h (splL_ne r)
      | cons h t => simp
theorem split_star (l : List Nat) : Txt.split (S l) (S [42]) = (splL l).map S := by
  rw [SX.split_S (by simp) (by decide), spl_one]
  cases h : splL l with
  | nil => exact absurd h (splL_ne l)
  | cons h t => simp
theorem splL_len : ∀ l : List Nat, (splL l).length = l.count 42 + 1
  | [] => rfl
  | c :: r => by
    have e : splL (c :: r) = if c = 42 then [] :: splL r else (match splL r with | h :: t => (c :: h) :: t | [] => [[c]]) := rfl
    have ih := splL_len r
    by_cases z : c = 42
    · rw [e, if_pos z, List.length_cons, ih, z, List.count_cons_self]
    · rw [e, if_neg z, List.count_cons_of_ne (fun q => z q)]
      cases h : splL r with
      | nil => exact absurd h (splL_ne r)
      | cons h t => rw [h] at ih; simpa using ih
theorem fill_unf (d : Nat) (r J : List Nat) : fillL (d :: r) J = if d = 42 then (match J with | [] => [] | x :: J => x :: fillL r J) else d :: fillL r J := rfl
/-- the parts with letters between them -/
def zipJ (ps : List (List Nat)) (J : List Nat) : List Nat := ((ps.zip (J.map (fun c => [c]) ++ [[]])).map fun p => p.1 ++ p.2).flatten
theorem zip_fill : ∀ {p J : List Nat}, p.count 42 = J.length → zipJ (splL p) J = fillL p J
  | [], [], _ => rfl
  | [], _ :: _, h => by simp at h
  | c :: r, J, h => by
    have e : splL (c :: r) = if c = 42 then [] :: splL r else (match splL r with | h :: t => (c :: h) :: t | [] => [[c]]) := rfl
    have ef := fill_unf c r J
    by_cases z : c = 42
    · rw [z, List.count_cons_self] at h
      cases J with
      | nil => simp at h
      | cons x J =>
        have ih := zip_fill (p := r) (J := J) (by simpa using h)
        rw [e, if_pos z, ef, if_pos z]
        show _ = x :: fillL r J
        rw [← ih]
        rfl
    · rw [List.count_cons_of_ne (fun q => z q)] at h
      have ih := zip_fill (p := r) (J := J) h
      rw [e, if_neg z, ef, if_neg z, ← ih]
      cases hs : splL r with
      | nil => exact absurd hs (splL_ne r)
      | cons u t =>
        cases J with
        | nil => rfl
        | cons x J => rfl
/-! ### fillings -/
theorem fill_len : ∀ {p J : List Nat}, p.count 42 = J.length → (fillL p J).length = p.length
  | [], _, _ => rfl
  | c :: r, J, h => by
    have ef := fill_unf c r J
    by_cases z : c = 42
    · rw [z, List.count_cons_self] at h
      cases J with
      | nil => simp at h
      | cons x J => rw [ef, if_pos z]; show (x :: fillL r J).length = _; rw [List.length_cons, fill_len (by simpa using h)]; rfl
    · rw [List.count_cons_of_ne (fun q => z q)] at h
      rw [ef, if_neg z, List.length_cons, fill_len h]; rfl
theorem fill_mem : ∀ {p J : List Nat} {c : Nat}, c ∈ fillL p J → (c ∈ p ∧ c ≠ 42) ∨ c ∈ J
  | [], J, c, h => by cases h
  | d :: r, J, c, h => by
    have ef := fill_unf d r J
    rw [ef] at h
    by_cases z : d = 42
    · rw [if_pos z] at h
      cases J with
      | nil => cases h
      | cons x J =>
        rcases List.mem_cons.mp h with rfl | h
        · exact .inr List.mem_cons_self
        · rcases fill_mem h with ⟨h1, h2⟩ | h
          · exact .inl ⟨List.mem_cons_of_mem _ h1, h2⟩
          · exact .inr (List.mem_cons_of_mem _ h)
    · rw [if_neg z] at h
      rcases List.mem_cons.mp h with rfl | h
      · exact .inl ⟨List.mem_cons_self, z⟩
      · rcases fill_mem h with ⟨h1, h2⟩ | h
        · exact .inl ⟨List.mem_cons_of_mem _ h1, h2⟩
        · exact .inr h
theorem fill_back {js : List Nat} : ∀ {p J : List Nat}, (∀ c ∈ p, c = 42 ∨ ¬ c ∈ js) → (∀ c ∈ J, c ∈ js) → p.count 42 = J.length → starL (fillL p J) js = p ∧ (fillL p J).filter (fun c => decide (c ∈ js)) = J
  | [], [], _, _, _ => ⟨rfl, rfl⟩
  | [], _ :: _, _, _, h => by simp at h
  | d :: r, J, hp, hJ, h => by
    have ef := fill_unf d r J
    have hp' : ∀ c ∈ r, c = 42 ∨ ¬ c ∈ js := fun c hc => hp c (List.mem_cons_of_mem _ hc)
    rw [ef]
    by_cases z : d = 42
    · rw [z, List.count_cons_self] at h
      rw [if_pos z]
      cases J with
      | nil => simp at h
      | cons x J =>
        obtain ⟨h1, h2⟩ := fill_back (J := J) hp' (fun c hc => hJ c (List.mem_cons_of_mem _ hc)) (by simpa using h)
        have hx := hJ x List.mem_cons_self
        refine ⟨?_, ?_⟩
        · show (if x ∈ js then 42 else x) :: starL (fillL r J) js = _
          rw [if_pos hx, h1, z]
        · show (x :: fillL r J).filter _ = _
          rw [List.filter_cons, if_pos (decide_eq_true hx), h2]
    · rw [List.count_cons_of_ne (fun q => z q)] at h
      rw [if_neg z]
      obtain ⟨h1, h2⟩ := fill_back hp' hJ h
      have hd : ¬ d ∈ js := (hp d List.mem_cons_self).resolve_left z
      refine ⟨?_, ?_⟩
      · show (if d ∈ js then 42 else d) :: starL (fillL r J) js = _
        rw [if_neg hd, h1]
      · rw [List.filter_cons, if_neg (fun q => hd (of_decide_eq_true q)), h2]
theorem fill_least : ∀ {p A J : List Nat}, A.Perm J → A.Pairwise (· ≤ ·) → p.count 42 = J.length → ¬ fillL p J < fillL p A
  | [], _, _, _, _, _ => lt_irr _
  | d :: r, A, J, hp, hs, h => by
    have ef : ∀ J, fillL (d :: r) J = if d = 42 then (match J with | [] => [] | x :: J => x :: fillL r J) else d :: fillL r J := fun _ => rfl
    rw [ef, ef]
    by_cases z : d = 42
    · rw [z, List.count_cons_self] at h
      rw [if_pos z, if_pos z]
      cases J with
      | nil => simp at h
      | cons x J =>
        cases A with
        | nil => have := hp.length_eq; simp at this
        | cons a A =>
          show ¬ x :: fillL r J < a :: fillL r A
          rw [List.cons_lt_cons_iff]
          obtain ⟨ha, hs'⟩ := List.pairwise_cons.mp hs
          have hax : a ≤ x := by
            rcases List.mem_cons.mp (hp.mem_iff.mpr (List.mem_cons_self : x ∈ x :: J)) with e | e
            · omega
            · exact ha x e
          rintro (q | ⟨e, q⟩)
          · omega
          · subst e
            exact fill_least (List.Perm.cons_inv hp) hs' (by simpa using h) q
    · rw [List.count_cons_of_ne (fun q => z q)] at h
      rw [if_neg z, if_neg z, List.cons_lt_cons_iff]
      rintro (q | ⟨_, q⟩)
      · omega
      · exact fill_least hp hs h q
theorem fill_most : ∀ {p A J : List Nat}, A.Perm J → A.Pairwise (· ≥ ·) → p.count 42 = J.length → ¬ fillL p A < fillL p J
  | [], _, _, _, _, _ => lt_irr _
  | d :: r, A, J, hp, hs, h => by
    have ef : ∀ J, fillL (d :: r) J = if d = 42 then (match J with | [] => [] | x :: J => x :: fillL r J) else d :: fillL r J := fun _ => rfl
    rw [ef, ef]
    by_cases z : d = 42
    · rw [z, List.count_cons_self] at h
      rw [if_pos z, if_pos z]
      cases J with
      | nil => simp at h
      | cons x J =>
        cases A with
        | nil => have := hp.length_eq; simp at this
        | cons a A =>
          show ¬ a :: fillL r A < x :: fillL r J
          rw [List.cons_lt_cons_iff]
          obtain ⟨ha, hs'⟩ := List.pairwise_cons.mp hs
          have hax : x ≤ a := by
            rcases List.mem_cons.mp (hp.mem_iff.mpr (List.mem_cons_self : x ∈ x :: J)) with e | e
            · omega
            · exact ha x e
          rintro (q | ⟨e, q⟩)
          · omega
          · subst e
            exact fill_most (List.Perm.cons_inv hp) hs' (by simpa using h) q
    · rw [List.count_cons_of_ne (fun q => z q)] at h
      rw [if_neg z, if_neg z, List.cons_lt_cons_iff]
      rintro (q | ⟨_, q⟩)
      · omega
      · exact fill_most hp hs h q
/-! ### rows behind the stars of a ring -/
def rowAt (r : List Nat) (c : Nat) : List Nat := r.drop (c + 1) ++ r.take c
def perN (r : List Nat) : Nat := r.length / keepN r
def rowsTo (r : List Nat) (n : Nat) : List (List Nat) := ((List.range n).filter fun c => decide (r[c]? = some 42)).map (rowAt r)
def rowsL (r : List Nat) : List (List Nat) := rowsTo r (perN r)
theorem rows_succ {r : List Nat} {i c : Nat} (h : r[i]? = some c) : rowsTo r (i + 1) = rowsTo r i ++ (if c = 42 then [rowAt r i] else []) := by
  unfold rowsTo
  rw [List.range_succ, List.filter_append, List.map_append]
  congr 1
  by_cases z : c = 42
  · rw [if_pos z]; simp [h, z]
  · rw [if_neg z]; simp [h, z]
theorem rows_len (r : List Nat) (n : Nat) : (rowsTo r n).length ≤ n := by
  unfold rowsTo
  rw [List.length_map]
  exact Nat.le_trans (List.length_filter_le _ _) (by rw [List.length_range]; exact Nat.le_refl _)
theorem rot_row {r : List Nat} {c x : Nat} (h : r[c]? = some x) : rotL r c = x :: rowAt r c := by
  unfold rotL rowAt
  have hc : c < r.length := (List.getElem?_eq_some_iff.mp h).1
  have e : r[c] = x := (List.getElem?_eq_some_iff.mp h).2
  rw [List.drop_eq_getElem_cons hc, e]
  rfl
theorem rot_row1 {r : List Nat} {c x : Nat} (h : r[c]? = some x) : rotL r (c + 1) = rowAt r c ++ [x] := by
  unfold rotL rowAt
  have hc : c < r.length := (List.getElem?_eq_some_iff.mp h).1
  have e : r[c] = x := (List.getElem?_eq_some_iff.mp h).2
  rw [List.take_succ_eq_append_getElem hc, e, List.append_assoc]
theorem per_le (r : List Nat) : perN r ≤ r.length := Nat.div_le_self _ _
/-- each star has a star ahead of the period with the same row -/
theorem row_ahead {r : List Nat} {c x : Nat} (h : r[c]? = some x) : ∃ c', c' < perN r ∧ r[c']? = some x ∧ rowAt r c' = rowAt r c := by
  have hc : c < r.length := (List.getElem?_eq_some_iff.mp h).1
  have hr : r ≠ [] := by rintro rfl; simp at h
  obtain ⟨d, d0, d1, d2⟩ := keep_count hr
  have hk := keep_pos hr
  have hper : perN r = d := by unfold perN; rw [← d1]; exact Nat.mul_div_cancel_left d hk
  have hdl : d ≤ r.length := by rw [← d1]; exact Nat.le_mul_of_pos_left d hk
  have hm : c / d * d ≤ r.length := Nat.le_trans (Nat.div_mul_le_self c d) (by omega)
  have h1 := per_mul hdl d2 (c / d) hm
  have hlt : c % d < d := Nat.mod_lt _ d0
  have hcd : c / d * d + c % d = c := by rw [Nat.mul_comm]; exact Nat.div_add_mod c d
  have h2 := rot_add (i := c / d * d) (j := c % d) hm (by omega) h1
  rw [hcd, Nat.mod_eq_of_lt hc] at h2
  have hlt2 : c % d < r.length := by omega
  have h3 : r[c % d]? = some r[c % d] := List.getElem?_eq_getElem hlt2
  rw [rot_row h, rot_row h3] at h2
  injection h2 with e1 e2
  exact ⟨c % d, by omega, by rw [h3, e1], e2.symm⟩
theorem row_star {w js : List Nat} {c : Nat} (h : (ringL w js)[c]? = some 42) : ∀ x ∈ rowAt (ringL w js) c, x = 42 ∨ (x ∈ w ∧ ¬ x ∈ js) := by
  intro x hx
  have hx' : x ∈ ringL w js := by
    unfold rowAt at hx
    exact (List.mem_append.mp hx).elim List.mem_of_mem_drop List.mem_of_mem_take
  unfold ringL starL at hx'
  rcases List.mem_append.mp hx' with h1 | h1
  · obtain ⟨y, hy, rfl⟩ := List.mem_map.mp h1
    by_cases z : y ∈ js
    · rw [if_pos z]; exact .inl rfl
    · rw [if_neg z]; exact .inr ⟨hy, z⟩
  · exact .inl (List.mem_singleton.mp h1)
def heldL (w js : List Nat) : List Nat := w.filter fun c => decide (c ∈ js)
theorem row_count {w js : List Nat} (hw : ¬ 42 ∈ w) {c : Nat} (h : (ringL w js)[c]? = some 42) : (rowAt (ringL w js) c).count 42 = (heldL w js).length := by
  have h1 : (rotL (ringL w js) c).count 42 = (ringL w js).count 42 := count_rot
  rw [rot_row h, List.count_cons_self] at h1
  have h2 : (ringL w js).count 42 = (starL w js).count 42 + 1 := by unfold ringL; rw [List.count_append]; rfl
  have h3 := star_count (js := js) hw
  unfold heldL
  omega
theorem row_len {w js : List Nat} {c : Nat} (h : (ringL w js)[c]? = some 42) : (rowAt (ringL w js) c).length = w.length := by
  have h1 := rot_len (ringL w js) c
  rw [rot_row h, ring_len, List.length_cons] at h1
  omega
/-- a filled row is a word of the class -/
theorem row_comes {w js A : List Nat} (hw : ¬ 42 ∈ w) {c : Nat} (h : (ringL w js)[c]? = some 42) (hA : A.Perm (heldL w js)) : comesB w (fillL (rowAt (ringL w js) c) A) js = true := by
  have hn := row_count hw h
  have hs := row_star h
  obtain ⟨h1, h2⟩ := fill_back (js := js) (p := rowAt (ringL w js) c) (J := A) (fun x hx => (hs x hx).imp id And.right) (fun x hx => of_decide_eq_true (List.mem_filter.mp (hA.mem_iff.mp hx)).2) (by rw [hn, hA.length_eq])
  refine comes_yes ?_ fun x hx => ?_
  · have e : ringL (fillL (rowAt (ringL w js) c) A) js = rotL (ringL w js) (c + 1) := by
      rw [rot_row1 h]; show starL (fillL (rowAt (ringL w js) c) A) js ++ [42] = _; rw [h1]
    have hc : c < (ringL w js).length := (List.getElem?_eq_some_iff.mp h).1
    rw [e, min_rot (by omega)]
  · have e1 : ∀ l : List Nat, (l.filter fun c => decide (c ∈ js)).count x = l.count x := fun l => List.count_filter (p := fun c => decide (c ∈ js)) (decide_eq_true hx)
    rw [← e1 w, ← e1 (fillL _ A), h2]
    exact (hA.count_eq x).symm
theorem row_word {w js A : List Nat} (hw : wordB w = true) {c : Nat} (h : (ringL w js)[c]? = some 42) (hA : A.Perm (heldL w js)) : wordB (fillL (rowAt (ringL w js) c) A) = true := wordB_of fun x hx => by
  rcases fill_mem hx with ⟨h1, h2⟩ | h1
  · exact wordB_mem hw ((row_star h x h1).resolve_left h2).1
  · exact wordB_mem hw (List.mem_filter.mp (hA.mem_iff.mp h1)).1
/-- each word of the class is a filled row -/
theorem comes_row {w v js : List Nat} (hv : ¬ 42 ∈ v) (h : comesB w v js = true) : ∃ c, c < perN (ringL w js) ∧ (ringL w js)[c]? = some 42 ∧ starL v js = rowAt (ringL w js) c ∧ (heldL v js).Perm (heldL w js) ∧ v = fillL (rowAt (ringL w js) c) (heldL v js) := by
  unfold comesB at h
  rw [Bool.and_eq_true] at h
  obtain ⟨h1, h2⟩ := h
  obtain ⟨k, hk, e⟩ := rot_of_min (ring_ne w js) (ring_ne v js) (of_decide_eq_true h1)
  have hrl := ring_len w js
  have key : ∃ c0, (ringL w js)[c0]? = some 42 ∧ starL v js = rowAt (ringL w js) c0 := by
    cases k with
    | zero =>
      rw [rot_zero] at e
      have hl : v.length = w.length := by have := congrArg List.length e; rw [ring_len, ring_len] at this; omega
      refine ⟨w.length, ?_, ?_⟩
      · unfold ringL; rw [List.getElem?_append_right (by rw [star_len]; omega), star_len]; simp
      · unfold rowAt
        rw [List.drop_eq_nil_of_le (by omega), List.nil_append]
        have : starL v js ++ [42] = starL w js ++ [42] := e
        have e2 : starL v js = starL w js := List.append_cancel_right this
        rw [e2]
        unfold ringL
        rw [List.take_append_of_le_length (by rw [star_len]; exact Nat.le_refl _), List.take_of_length_le (by rw [star_len]; exact Nat.le_refl _)]
    | succ c0 =>
      have hc0 : c0 < (ringL w js).length := by omega
      have hx : (ringL w js)[c0]? = some (ringL w js)[c0] := List.getElem?_eq_getElem hc0
      rw [rot_row1 hx] at e
      have e' : starL v js ++ [42] = rowAt (ringL w js) c0 ++ [(ringL w js)[c0]] := e
      obtain ⟨e1, e2⟩ := List.append_inj' e' rfl
      injection e2 with e3
      exact ⟨c0, by rw [hx, ← e3], e1⟩
  obtain ⟨c0, hc0, es⟩ := key
  obtain ⟨c, hc, hx, er⟩ := row_ahead hc0
  have he : (heldL v js).Perm (heldL w js) := (held_perm h2).symm
  refine ⟨c, hc, hx, by rw [es, er], he, ?_⟩
  rw [er, ← es]
  exact (fill_star hv).symm
/-! ### the first and the last word -/
def upL (w js A : List Nat) : List Nat := minW ((rowsL (ringL w js)).map fun p => fillL p A)
def downL (w js A : List Nat) : List Nat := maxW ((rowsL (ringL w js)).map fun p => fillL p A)
theorem rows_ne (w js : List Nat) : rowsL (ringL w js) ≠ [] := by
  have h : (ringL w js)[w.length]? = some 42 := by unfold ringL; rw [List.getElem?_append_right (by rw [star_len]; omega), star_len]; simp
  obtain ⟨c', h1, h2, _⟩ := row_ahead h
  unfold rowsL rowsTo
  intro e
  rw [List.map_eq_nil_iff] at e
  have : c' ∈ (List.range (perN (ringL w js))).filter fun c => decide ((ringL w js)[c]? = some 42) := List.mem_filter.mpr ⟨List.mem_range.mpr h1, decide_eq_true h2⟩
  rw [e] at this
  cases this
theorem mem_rows {r p : List Nat} : p ∈ rowsL r ↔ ∃ c, c < perN r ∧ r[c]? = some 42 ∧ p = rowAt r c := by
  unfold rowsL rowsTo
  rw [List.mem_map]
  constructor
  · rintro ⟨c, hc, rfl⟩
    obtain ⟨h1, h2⟩ := List.mem_filter.mp hc
    exact ⟨c, List.mem_range.mp h1, of_decide_eq_true h2, rfl⟩
  · rintro ⟨c, h1, h2, rfl⟩
    exact ⟨c, List.mem_filter.mpr ⟨List.mem_range.mpr h1, decide_eq_true h2⟩, rfl⟩
/-- u is the least word of the class of w -/
structure Least (w js u : List Nat) : Prop where
  word : wordB u = true
  cls : comesB w u js = true
  le : ∀ v, wordB v = true → comesB w v js = true → ¬ v < u
structure Most (w js u : List Nat) : Prop where
  word : wordB u = true
  cls : comesB w u js = true
  ge : ∀ v, wordB v = true → comesB w v js = true → ¬ u < v
theorem up_least {w js A : List Nat} (hw : wordB w = true) (hA : A.Perm (heldL w js)) (hs : A.Pairwise (· ≤ ·)) : Least w js (upL w js A) := by
  have h42 := word_star hw
  have hne : ((rowsL (ringL w js)).map fun p => fillL p A) ≠ [] := fun e => rows_ne w js (List.map_eq_nil_iff.mp e)
  obtain ⟨h1, h2⟩ := minW_spec hne
  obtain ⟨p, hp, e⟩ := List.mem_map.mp h2
  obtain ⟨c, _, hc, rfl⟩ := mem_rows.mp hp
  refine ⟨?_, ?_, fun v hv hcv => ?_⟩
  · show wordB (minW _) = true
    rw [← e]; exact row_word hw hc hA
  · show comesB w (minW _) js = true
    rw [← e]; exact row_comes h42 hc hA
  · obtain ⟨c', h3, h4, _, h5, h6⟩ := comes_row (word_star hv) hcv
    have h7 := h1 (fillL (rowAt (ringL w js) c') A) (List.mem_map.mpr ⟨_, mem_rows.mpr ⟨c', h3, h4, rfl⟩, rfl⟩)
    have h8 := fill_least (p := rowAt (ringL w js) c') (hA.trans h5.symm) hs (by rw [row_count h42 h4]; exact h5.length_eq.symm)
    rw [← h6] at h8
    exact lt_neg h7 h8
theorem down_most {w js A : List Nat} (hw : wordB w = true) (hA : A.Perm (heldL w js)) (hs : A.Pairwise (· ≥ ·)) : Most w js (downL w js A) := by
  have h42 := word_star hw
  have hne : ((rowsL (ringL w js)).map fun p => fillL p A) ≠ [] := fun e => rows_ne w js (List.map_eq_nil_iff.mp e)
  obtain ⟨h1, h2⟩ := maxW_spec hne
  obtain ⟨p, hp, e⟩ := List.mem_map.mp h2
  obtain ⟨c, _, hc, rfl⟩ := mem_rows.mp hp
  refine ⟨?_, ?_, fun v hv hcv => ?_⟩
  · show wordB (maxW _) = true
    rw [← e]; exact row_word hw hc hA
  · show comesB w (maxW _) js = true
    rw [← e]; exact row_comes h42 hc hA
  · obtain ⟨c', h3, h4, _, h5, h6⟩ := comes_row (word_star hv) hcv
    have h7 := h1 (fillL (rowAt (ringL w js) c') A) (List.mem_map.mpr ⟨_, mem_rows.mpr ⟨c', h3, h4, rfl⟩, rfl⟩)
    have h8 := fill_most (p := rowAt (ringL w js) c') (hA.trans h5.symm) hs (by rw [row_count h42 h4]; exact h5.length_eq.symm)
    rw [← h6] at h8
    exact lt_neg h8 h7
theorem comes_trans {w v u js : List Nat} (h : comesB w v js = true) (g : comesB v u js = true) : comesB w u js = true := by
  unfold comesB at *
  rw [Bool.and_eq_true] at *
  refine ⟨decide_eq_true ((of_decide_eq_true h.1).trans (of_decide_eq_true g.1)), ?_⟩
  have h2 := h.2
  have g2 := g.2
  unfold evenB at *
  rw [List.all_eq_true] at *
  exact fun c hc => decide_eq_true ((of_decide_eq_true (h2 c hc)).trans (of_decide_eq_true (g2 c hc)))
theorem comes_refl (w js : List Nat) : comesB w w js = true := comes_yes rfl fun _ _ => rfl
theorem Least.same {w v js u u' : List Nat} (h : Least w js u) (g : Least v js u') (c : comesB w v js = true) : u = u' :=
  lt_tot (g.le u h.word (comes_trans (by rw [comes_symm]; exact c) h.cls)) (h.le u' g.word (comes_trans c g.cls))
theorem Most.same {w v js u u' : List Nat} (h : Most w js u) (g : Most v js u') (c : comesB w v js = true) : u = u' :=
  lt_tot (h.ge u' g.word (comes_trans c g.cls)) (g.ge u h.word (comes_trans (by rw [comes_symm]; exact c) h.cls))
/-! ### repr of words -/
theorem Short.word {l : List Nat} (h : wordB l = true) : Short 0 l.length (.str (S l)) := by
  have e1 : (S l).cps.toList = l := by simp [SX.S]
  refine ⟨rfl, rfl, Nat.le_refl _, ?_, ?_⟩
  · show (S l).cps.size ≤ l.length
    rw [size_S]; exact Nat.le_refl _
  · show ((S l).cps.toList.all fun c => decide (c < 16 ^ 8)) = true
    rw [e1, List.all_eq_true]
    intro c hc
    have := wordB_mem h hc
    exact decide_eq_true (Nat.lt_of_le_of_lt this.2 (by decide))
theorem Rp.words {K : PySem.W.Frag} {H : Hp} {a : Addr} {ws : List (List Nat)} {n : Nat} (h : H a = some (.lst (wordsV ws))) (hw : ∀ l ∈ ws, wordB l = true ∧ l.length ≤ n) (hn : ws.length * (n + 1) ≤ 2 ^ 20) : Rp K H (.ref a) (PyData.list (wordsD ws)).shown := by
  have hs : Short 1 ((wordsD ws).length * (n + 1)) (.list (wordsD ws)) := Short.list fun d hd => by
    obtain ⟨l, hl, rfl⟩ := List.mem_map.mp hd
    exact (Short.word (hw l hl).1).mono (Nat.le_refl _) (hw l hl).2
  refine (hs.mono (by decide) ?_).rp (.lst (SqL.of h) (words_dp ws))
  have : (wordsD ws).length = ws.length := List.length_map _
  rw [this]; exact hn
theorem joinL_flat : ∀ ws : List (List Nat), TL.joinL [] ws = ws.flatten
  | [] => rfl
  | [p] => by simp [TL.joinL]
  | p :: q :: r => by
    show p ++ ([] ++ TL.joinL [] (q :: r)) = _
    rw [joinL_flat (q :: r)]
    simp
theorem join_words (ws : List (List Nat)) : Txt.join (Str.ofString "") (ws.map S) = S ws.flatten := by
  have e0 : Str.ofString "" = S [] := by decide +kernel
  rw [e0, SX.join_S, joinL_flat]
theorem sum_words (ws : List (List Nat)) : ((ws.map S).map (·.length)).sum = ws.flatten.length := by
  induction ws with
  | nil => rfl
  | cons w r ih =>
    rw [List.map_cons, List.map_cons, List.sum_cons, ih, List.flatten_cons, List.length_append, len_S]
theorem join_wbound {ws : List (List Nat)} (h : ws.flatten.length ≤ 1000000) : ((ws.map S).map (·.length)).sum + (ws.map S).length * (Str.ofString "").length ≤ 16777216 := by
  have e0 : (Str.ofString "").length = 0 := by decide +kernel
  rw [e0, sum_words]
  omega
theorem splL_mem : ∀ {l p : List Nat}, p ∈ splL l → p.length ≤ l.length
  | [], p, h => by
    have : p = [] := by simpa [splL] using h
    rw [this]; exact Nat.le_refl _
  | c :: r, p, h => by
    have e : splL (c :: r) = if c = 42 then [] :: splL r else (match splL r with | h :: t => (c :: h) :: t | [] => [[c]]) := rfl
    rw [e] at h
    by_cases z : c = 42
    · rw [if_pos z] at h
      rcases List.mem_cons.mp h with rfl | h
      · exact Nat.zero_le _
      · have := splL_mem h; rw [List.length_cons]; omega
    · rw [if_neg z] at h
      cases hs : splL r with
      | nil => exact absurd hs (splL_ne r)
      | cons u t =>
        rw [hs] at h
        rcases List.mem_cons.mp h with rfl | h
        · have := splL_mem (l := r) (p := u) (by rw [hs]; exact List.mem_cons_self)
          rw [List.length_cons, List.length_cons]; omega
        · have := splL_mem (l := r) (p := p) (by rw [hs]; exact List.mem_cons_of_mem _ h)
          rw [List.length_cons]; omega
/-! ### sorted lists of words -/
theorem rising_words : ∀ (ws : List (List Nat)) (c : List Nat), risingS (S c) (ws.map S) = true → (c :: ws).Pairwise fun a b => ¬ b < a
  | [], c, _ => List.pairwise_singleton _ _
  | d :: ws, c, h => by
    have h' : (!ltCps (S d).cps.toList (S c).cps.toList && risingS (S d) (ws.map S)) = true := h
    rw [Bool.and_eq_true] at h'
    have ih := rising_words ws d h'.2
    have e1 : ∀ l : List Nat, (S l).cps.toList = l := fun l => by simp [SX.S]
    have hcd : ¬ d < c := by
      have := h'.1
      rw [e1, e1, ltCps_eq] at this
      intro z
      rw [decide_eq_true z] at this
      cases this
    refine List.pairwise_cons.mpr ⟨fun e he => ?_, ih⟩
    rcases List.mem_cons.mp he with rfl | he
    · exact hcd
    · exact lt_neg hcd ((List.pairwise_cons.mp ih).1 e he)
theorem sorted_words {ws : List (List Nat)} (h : sortedS (ws.map S) = true) : ws.Pairwise fun a b => ¬ b < a := by
  cases ws with
  | nil => exact .nil
  | cons c r => exact rising_words r c h
theorem first_least {us : List (List Nat)} {w js u : List Nat} (hs : us.Pairwise fun a b => ¬ b < a) (hu : ∀ v, v ∈ us ↔ Reach js w v) (hw : wordB w = true) (h : us[0]? = some u) : Least w js u := by
  have hm := (hu u).mp (List.mem_of_getElem? h)
  refine ⟨hm.word hw, reach_comes hm, fun v hv hc => ?_⟩
  have hvm := (hu v).mpr ((reach_iff hw hv).mpr hc)
  cases us with
  | nil => cases hvm
  | cons x r =>
    obtain rfl : x = u := Option.some.inj h
    rcases List.mem_cons.mp hvm with rfl | hvm
    · exact lt_irr _
    · exact (List.pairwise_cons.mp hs).1 v hvm
theorem last_most {us : List (List Nat)} {w js u : List Nat} (hs : us.Pairwise fun a b => ¬ b < a) (hu : ∀ v, v ∈ us ↔ Reach js w v) (hw : wordB w = true) (h : us[us.length - 1]? = some u) : Most w js u := by
  have hm := (hu u).mp (List.mem_of_getElem? h)
  refine ⟨hm.word hw, reach_comes hm, fun v hv hc => ?_⟩
  have hvm := (hu v).mpr ((reach_iff hw hv).mpr hc)
  have hne : us ≠ [] := by rintro rfl; cases hvm
  have e : us = us.dropLast ++ [us.getLast hne] := (List.dropLast_concat_getLast hne).symm
  have e2 : us.getLast hne = u := by
    rw [List.getLast_eq_getElem]
    have hlt : us.length - 1 < us.length := by
      have := List.length_pos_iff.mpr hne
      omega
    rw [List.getElem?_eq_getElem hlt] at h
    exact Option.some.inj h
  rw [e2] at e
  rw [e] at hs hvm
  rcases List.mem_append.mp hvm with hvm | hvm
  · exact (List.pairwise_append.mp hs).2.2 v hvm u (List.mem_singleton.mpr rfl)
  · rw [List.mem_singleton.mp hvm]; exact lt_irr _
theorem lt_S {a b : List Nat} : decide ((S a).cps.toList < (S b).cps.toList) = decide (a < b) := by
  have e1 : ∀ l : List Nat, (S l).cps.toList = l := fun l => by simp [SX.S]
  rw [e1, e1]
/-- a method with arguments, K named (for the body of a comprehension) -/
theorem pe_bmK (K : PySem.W.Frag) {X : Cx} {o e : Expr} {es : List Expr} {to : TE} {t : TA} {name : Str} {apos cpos : Pos} {T id : String} {r : V → List V → Hp → VK → Prop} (pa : PlainAttrs T) (slot : Slot T name id) (hty : typeOf (.builtin id) = pure (.type "method_descriptor")) (hm : MtR X id r) (ho : PE X o to) (ha : PA X (e :: es) t)
    (hK : X.K = K := by rfl)
    (hbase : attributeBase o name X.env (eval o X.env) = eval o X.env := by rfl)
    (hfew : ((backTo cpos (starEach (e :: es) X.env)).all (fun x => !x.1) && (backToKw cpos (keywordEach [] X.env)).all (fun x => x.1.isSome)
      && decide ((e :: es).length + ([] : List Keyword).length + (if ([] : List Keyword).isEmpty then 0 else 1) < 30)) = true := by rfl)
    (hline : (apos.endLine == cpos.line) = true := by rfl) (hs : starEach (e :: es) X.env = (false, eval e X.env) :: starEach es X.env := by rfl) (hplain : (backTo cpos (starEach es X.env)).any (·.1) = false := by rfl) :
    PE X (.Call (.Attribute o name apos) (e :: es) [] cpos) (tBM K T r to t) := hK ▸ pe_bm pa slot hty hm ho ha hbase hfew hline hs hplain
theorem Rp.word {K : PySem.W.Frag} {H : Hp} {l : List Nat} (h : wordB l = true) (n : l.length ≤ 100000) : Rp K H (.str (S l)) (reprText (S l)) :=
  Rp.signs (fun c hc => Nat.lt_of_le_of_lt (wordB_mem h hc).2 (by decide)) n
theorem reach_none {w v : List Nat} (h : Reach [] w v) : v = w := by
  cases h with
  | refl => rfl
  | step _ _ hc => cases hc
theorem Least.none {w u : List Nat} (hw : wordB w = true) (h : Least w [] u) : u = w := reach_none ((reach_iff hw h.word).mpr h.cls)
theorem Most.none {w u : List Nat} (hw : wordB w = true) (h : Most w [] u) : u = w := reach_none ((reach_iff hw h.word).mpr h.cls)
theorem Most.rep {n c : Nat} {js u : List Nat} (hw : wordB (List.replicate n c) = true) (h : Most (List.replicate n c) js u) : u = List.replicate n c :=
  List.perm_replicate.mp ((reach_iff hw h.word).mpr h.cls).perm
end Sw
/-! The one road that is told; lists of any items judged to lead. -/
namespace Sw
open PySem PySem.Spec PyProof.Rows L2
/-- the cell that is taken: the first wrong one whose sign the hole's cell wants -/
def takeW (r t : List Nat) (w : Nat) : Option Nat := ((wrongL r t r.length).filter fun q => decide (w = 95 ∨ r[q]? = some w)).head?
inductive RoadOf (t : List Nat) : List Nat → Nat → List Nat → Prop
  | nil {h : Nat} : RoadOf t t h []
  | cons {r : List Nat} {h w q x : Nat} {rs : List Nat} : r ≠ t → t[h]? = some w → takeW r t w = some q → r[q]? = some x → RoadOf t (jump r h q x) q rs → RoadOf t r h (placeAt r.length h q :: rs)
theorem RoadOf.one {t r : List Nat} {h : Nat} {rs : List Nat} (g : RoadOf t r h rs) : ∀ {rs' : List Nat}, RoadOf t r h rs' → rs' = rs := by
  induction g with
  | nil =>
    intro rs' g'
    cases g' with
    | nil => rfl
    | cons ne _ _ _ _ => exact absurd rfl ne
  | cons ne h1 h2 h3 _ ih =>
    intro rs' g'
    cases g' with
    | nil => exact absurd rfl ne
    | cons ne' k1 k2 k3 k4 =>
      rw [h1] at k1
      cases k1
      rw [h2] at k2
      cases k2
      rw [h3] at k3
      cases k3
      rw [ih k4]
/-- the end of a walk along items, if they are a road -/
def ledO (js : List Nat) : List Nat → List (Option Int) → Option (List Nat)
  | l, [] => some l
  | l, o :: os => match placeO l js o with | some p => ledO js (swapL l p) os | none => none
theorem ledO_walk {js : List Nat} : ∀ {l : List Nat} {os : List (Option Int)}, walkO js l os = (ledO js l os).isSome
  | _, [] => rfl
  | l, o :: os => by
    show (match placeO l js o with | some p => walkO js (swapL l p) os | none => false) = (match placeO l js o with | some p => ledO js (swapL l p) os | none => none).isSome
    cases placeO l js o with
    | none => rfl
    | some p => exact ledO_walk
theorem ledO_step {js l : List Nat} {os : List (Option Int)} {i p : Nat} {o : Option Int} (h : os[i]? = some o) (hp : placeO l js o = some p) : ledO js l (os.drop i) = ledO js (swapL l p) (os.drop (i + 1)) := by
  obtain ⟨hi, rfl⟩ := List.getElem?_eq_some_iff.mp h
  rw [List.drop_eq_getElem_cons hi]
  show (match placeO l js os[i] with | some p => ledO js (swapL l p) (os.drop (i + 1)) | none => none) = _
  rw [hp]
theorem ledO_stop {js l : List Nat} {os : List (Option Int)} {i : Nat} {o : Option Int} (h : os[i]? = some o) (hp : placeO l js o = none) : ledO js l (os.drop i) = none := by
  obtain ⟨hi, rfl⟩ := List.getElem?_eq_some_iff.mp h
  rw [List.drop_eq_getElem_cons hi]
  show (match placeO l js os[i] with | some p => ledO js (swapL l p) (os.drop (i + 1)) | none => none) = _
  rw [hp]
theorem ledO_end {js l : List Nat} {os : List (Option Int)} : ledO js l (os.drop os.length) = some l := by
  rw [List.drop_length]
  rfl
theorem ledO_road {js : List Nat} : ∀ {l rs : List Nat}, IsRoad js l rs → ledO js l (rs.map fun p : Nat => some (p : Int)) = some (ends l rs)
  | l, [], _ => rfl
  | l, p :: rs, h => by
    obtain ⟨⟨c, hc, hj⟩, h2⟩ := h
    show (match placeO l js (some (p : Int)) with | some p => ledO js (swapL l p) (rs.map fun p : Nat => some (p : Int)) | none => none) = _
    rw [placeO_yes hc hj]
    exact ledO_road h2
/-- items that are a road are places -/
theorem ledO_places {js : List Nat} : ∀ {l : List Nat} {os : List (Option Int)} {m : List Nat}, ledO js l os = some m → ∃ rs : List Nat, os = (rs.map fun p : Nat => some (p : Int)) ∧ IsRoad js l rs ∧ ends l rs = m
  | l, [], m, h => ⟨[], rfl, trivial, Option.some.inj h⟩
  | l, o :: os, m, h => by
    replace h : (match placeO l js o with | some p => ledO js (swapL l p) os | none => none) = some m := h
    cases hp : placeO l js o with
    | none => rw [hp] at h; cases h
    | some p =>
      rw [hp] at h
      obtain ⟨c, rfl, hc, hj⟩ := placeO_lt hp
      obtain ⟨rs, rfl, h1, h2⟩ := ledO_places h
      exact ⟨p :: rs, rfl, ⟨⟨c, hc, hj⟩, h1⟩, h2⟩
theorem items_places {H : Hp} {xs : List V} {rs : List Nat} (h : Items H xs (rs.map fun p : Nat => some (p : Int))) : xs = placesV rs := by
  refine List.ext_getElem? fun i => ?_
  by_cases hi : i < xs.length
  · have hx : xs[i]? = some xs[i] := List.getElem?_eq_getElem hi
    obtain ⟨o, h1, h2⟩ := h.2 i _ hx
    rw [List.getElem?_map] at h1
    obtain ⟨p, hp, rfl⟩ := Option.map_eq_some_iff.mp h1
    rw [hx, List.getElem?_map, hp]
    generalize xs[i] = v at h2
    cases h2
    rfl
  · have hl := h.1
    rw [List.length_map] at hl
    rw [List.getElem?_eq_none (by omega), List.getElem?_eq_none (by rw [List.length_map]; omega)]
/-- whether a value leads -/
def leadB (js l m : List Nat) : Option (List (Option Int)) → Bool
  | some os => decide (ledO js l os = some m)
  | none => false
theorem countP_take (f : Nat → Bool) (r : List Nat) : ∀ n, n ≤ r.length → (r.take n).countP f = cnt (fun c => (r[c]?).any f) n
  | 0, _ => rfl
  | n + 1, h => by
    have hn : n < r.length := by omega
    have hc : r[n]? = some r[n] := List.getElem?_eq_getElem hn
    rw [take_snoc hc, List.countP_append, countP_take f r n (by omega)]
    show _ = cnt _ n + (if (r[n]?).any f = true then 1 else 0)
    rw [hc]
    simp [List.countP_cons]
theorem countP_cnt (f : Nat → Bool) (r : List Nat) : r.countP f = cnt (fun c => (r[c]?).any f) r.length := by
  have := countP_take f r r.length (Nat.le_refl _)
  rwa [List.take_length] at this
theorem openL_count (js : List Nat) (l : List Nat) : ∀ n, n ≤ l.length → (openL (l.take n) js).length = (l.take n).countP fun c => decide (c ∈ js)
  | 0, _ => rfl
  | n + 1, h => by
    have hn : n < l.length := by omega
    have hc : l[n]? = some l[n] := List.getElem?_eq_getElem hn
    rw [openL_snoc js hc, List.length_append, openL_count js l n (by omega), take_snoc hc, List.countP_append]
    congr 1
    by_cases z : l[n] ∈ js
    · rw [if_pos z]; simp [List.countP_cons, z]
    · rw [if_neg z]; simp [List.countP_cons, z]
/-- no more deeds than the joints and half as many -/
theorem road_short {l m js rs : List Nat} {k : Nat} (hl : wordB l = true) (hm : wordB m = true) (h : k ∈ liesL l m js) (he : evenB l m js = true) (hb : 2 * rs.length ≤ pot0 (rotL (l ++ [95]) k) (m ++ [95]) (l.length - k)) : rs.length ≤ (openL l js).length + (openL l js).length / 2 := by
  obtain ⟨hk, L, hh, _⟩ := lay_start hl hm h he
  have hn := openL_count js l l.length (Nat.le_refl _)
  rw [List.take_length] at hn
  have h95 : ¬ 95 ∈ js ∨ True := .inr trivial
  have hP : (rotL (l ++ [95]) k).countP (fun c => decide (c ∈ js ∨ c = 95)) = (openL l js).length + 1 := by
    have hp : (rotL (l ++ [95]) k).Perm (l ++ [95]) := by
      unfold rotL
      exact List.perm_append_comm.trans (by rw [List.take_append_drop])
    rw [hp.countP_eq, List.countP_append, hn]
    congr 1
    · refine List.countP_congr fun c hc => ?_
      have := wordB_mem hl hc
      have hne : c ≠ 95 := by omega
      simp [hne]
    · simp [List.countP_cons]
  generalize rotL (l ++ [95]) k = r at L hh hb hP
  generalize m ++ [95] = t at L hb
  generalize l.length - k = hc at hh hb
  rw [countP_cnt] at hP
  have hw : ∀ c, c < r.length → wrongB r t c = true → (r[c]?).any (fun c => decide (c ∈ js ∨ c = 95)) = true := fun c hc hw => by
    have h1 : r[c]? = some r[c] := List.getElem?_eq_getElem hc
    have hct : c < t.length := by rw [← L.len]; exact hc
    have h2 : t[c]? = some t[c] := List.getElem?_eq_getElem hct
    unfold wrongB at hw
    have hw' := of_decide_eq_true hw
    rw [h1]
    rcases L.cell c _ _ h1 h2 with e | ⟨e, _⟩
    · rw [h1, h2, e] at hw'; exact absurd rfl hw'
    · exact decide_eq_true e
  have hr : hc < r.length := (List.getElem?_eq_some_iff.mp hh).1
  unfold pot0 at hb
  by_cases z : t[hc]? = some 95
  · rw [if_pos z] at hb
    have h1 : wrongN r t ≤ cnt (fun c => if c = hc then false else (r[c]?).any (fun c => decide (c ∈ js ∨ c = 95))) r.length := cnt_mono fun c hcl hw' => by
      have ne : c ≠ hc := by
        rintro rfl
        unfold wrongB at hw'
        rw [hh, z] at hw'
        exact absurd rfl (of_decide_eq_true hw')
      rw [if_neg ne]
      exact hw c hcl hw'
    have h2 := cnt_one (p := fun c => (r[c]?).any (fun c => decide (c ∈ js ∨ c = 95))) (q := fun c => if c = hc then false else (r[c]?).any (fun c => decide (c ∈ js ∨ c = 95))) hr (fun c _ hn => by rw [if_neg hn])
    rw [if_pos (by rw [hh]; exact decide_eq_true (.inr rfl)), if_neg (by simp)] at h2
    omega
  · rw [if_neg z] at hb
    have h1 : wrongN r t ≤ cnt (fun c => (r[c]?).any (fun c => decide (c ∈ js ∨ c = 95))) r.length := cnt_mono hw
    omega
/-- equal words have the empty road -/
theorem road_same {l js rs : List Nat} {k : Nat} {ks : List Nat} (h : liesL l l js = k :: ks) (g : RoadOf (l ++ [95]) (rotL (l ++ [95]) k) (l.length - k) rs) : rs = [] := by
  have hk : k = 0 := by
    unfold liesL at h
    rw [if_pos rfl, List.range_succ_eq_map, List.filter_cons, if_pos (decide_eq_true (rot_zero _))] at h
    injection h with h1 _
    exact h1.symm
  subst hk
  rw [rot_zero] at g
  exact g.one .nil |>.symm
theorem Rp.places {K : PySem.W.Frag} {H : Hp} {a : Addr} {rs : List Nat} (h : H a = some (.lst (placesV rs))) (b : ∀ p ∈ rs, p ≤ 99999) (n : rs.length ≤ 20000) : Rp K H (.ref a) (PyData.list (rs.map fun p : Nat => PyData.int (p : Int))).shown := by
  have s := Short.list (D := 0) (W := 17) (ds := rs.map fun p : Nat => PyData.int (p : Int)) fun d hd => by
    obtain ⟨p, hp, rfl⟩ := List.mem_map.mp hd
    exact Short.int (by have := b p hp; omega)
  rw [List.length_map] at s
  exact Short.rp (s.mono (by decide) (by omega)) (.lst (SqL.of h) (placesDp rs))
theorem items_nat {H : Hp} : ∀ ns : List Nat, Items H (placesV ns) (ns.map fun p : Nat => some (p : Int))
  | [] => .nil
  | n :: ns => .cons (.int n) (items_nat ns)
/-! ### rows of a list that grows, apart from it and from the generator -/
def hide (t g : Addr) (H : Hp) : Hp := fun b => if b = t ∨ b = g then none else H b
theorem hide_at {t g a : Addr} {H : Hp} {u : HO} (h : H a = some u) (h1 : a ≠ t) (h2 : a ≠ g) : hide t g H a = some u := by
  unfold hide
  rw [if_neg (fun e => e.elim h1 h2)]
  exact h
theorem hide_of {t g a : Addr} {H : Hp} {u : HO} (h : hide t g H a = some u) : H a = some u ∧ a ≠ t ∧ a ≠ g := by
  unfold hide at h
  by_cases z : a = t ∨ a = g
  · rw [if_pos z] at h; cases h
  · rw [if_neg z] at h
    exact ⟨h, fun e => z (.inl e), fun e => z (.inr e)⟩
theorem hide_le {t g : Addr} {H : Hp} : Same (hide t g H) H := fun _ _ h => (hide_of h).1
theorem hide_same {t g : Addr} {H H' : Hp} (s : Same H H') : Same (hide t g H) (hide t g H') := fun b u h => by
  obtain ⟨h1, h2, h3⟩ := hide_of h
  exact hide_at (s _ _ h1) h2 h3
theorem hide_but {t g : Addr} {H H' : Hp} (s : But g H H') : Same (hide t g H) (hide t g H') := fun b u h => by
  obtain ⟨h1, h2, h3⟩ := hide_of h
  exact hide_at (s _ _ h3 h1) h2 h3
theorem hide_upd {t g : Addr} {H : Hp} {o : HO} : Same (hide t g H) (hide t g (L2.upd H t o)) := fun b u h => by
  obtain ⟨h1, h2, h3⟩ := hide_of h
  exact hide_at (by rw [upd_ne h2]; exact h1) h2 h3
theorem hide_new {t t' g : Addr} {H H' : Hp} (s : Same H H') (hn : H t' = none) : Same (hide t g H) (hide t' g H') := fun b u h => by
  obtain ⟨h1, h2, h3⟩ := hide_of h
  exact hide_at (s _ _ h1) (fun e => by rw [e] at h1; rw [h1] at hn; cases hn) h3
/-- a list of items -/
def Row (t g : Addr) (H : Hp) (v : V) : Prop := ∃ (a : Addr) (xs : List V) (os : List (Option Int)), v = .ref a ∧ hide t g H a = some (.lst xs) ∧ Items (hide t g H) xs os ∧ os.length ≤ 5000
theorem Row.keep {t t' g : Addr} {H H' : Hp} {v : V} (s : Same (hide t g H) (hide t' g H')) (h : Row t g H v) : Row t' g H' v := by
  obtain ⟨a, xs, os, h1, h2, h3, h4⟩ := h
  exact ⟨a, xs, os, h1, s _ _ h2, h3.same s, h4⟩
theorem Row.places {t g a : Addr} {H : Hp} {ns : List Nat} (h : H a = some (.lst (placesV ns))) (h1 : a ≠ t) (h2 : a ≠ g) (n : ns.length ≤ 5000) : Row t g H (.ref a) :=
  ⟨a, _, _, rfl, hide_at h h1 h2, items_nat ns, by rw [List.length_map]; exact n⟩
structure Rows (t g : Addr) (H : Hp) (vs : List V) : Prop where
  self : H t = some (.lst vs)
  all : ∀ v ∈ vs, Row t g H v
theorem Rows.same {t g : Addr} {H H' : Hp} {vs : List V} (h : Rows t g H vs) (s : Same H H') : Rows t g H' vs := ⟨s _ _ h.self, fun v hv => (h.all v hv).keep (hide_same s)⟩
theorem Rows.but {t g : Addr} {H H' : Hp} {vs : List V} (h : Rows t g H vs) (s : But g H H') (n : t ≠ g) : Rows t g H' vs := ⟨s.at n h.self, fun v hv => (h.all v hv).keep (hide_but s)⟩
theorem Rows.push {t g : Addr} {H : Hp} {vs : List V} {v : V} (h : Rows t g H vs) (r : Row t g H v) : Rows t g (L2.upd H t (.lst (vs ++ [v]))) (vs ++ [v]) :=
  ⟨upd_same, fun u hu => by
    rcases List.mem_append.mp hu with hu | hu
    · exact (h.all u hu).keep hide_upd
    · rw [List.mem_singleton.mp hu]; exact r.keep hide_upd⟩
/-- the rows and some more, in a new list -/
theorem Rows.more {t t' g : Addr} {H H' : Hp} {vs us : List V} (h : Rows t g H vs) (s : Same H H') (hn : H t' = none) (d : H' t' = some (.lst (vs ++ us))) (r : ∀ v ∈ us, Row t' g H' v) : Rows t' g H' (vs ++ us) :=
  ⟨d, fun u hu => by
    rcases List.mem_append.mp hu with hu | hu
    · exact (h.all u hu).keep (hide_new s hn)
    · exact r u hu⟩
theorem Row.val {t g : Addr} {H : Hp} {v : V} (h : Row t g H v) : ∃ (a : Addr) (xs : List V) (os : List (Option Int)), v = .ref a ∧ H a = some (.lst xs) ∧ Items H xs os ∧ os.length ≤ 5000 := by
  obtain ⟨a, xs, os, h1, h2, h3, h4⟩ := h
  exact ⟨a, xs, os, h1, hide_le _ _ h2, h3.same hide_le, h4⟩
theorem rep_zero (n : Nat) : (List.replicate n [V.int 0]).flatten = placesV (List.replicate n 0) := by
  induction n with
  | zero => rfl
  | succ n ih => rw [List.replicate_succ, List.flatten_cons, ih, List.replicate_succ]; rfl
theorem cut_part (ns : List Nat) (lo hi : Option Int) : ∃ ms : List Nat, cutV (placesV ns) lo hi = placesV ms ∧ ms.length ≤ ns.length := by
  refine ⟨(ns.drop (HT.sIx (placesV ns).length 0 lo)).take (HT.sIx (placesV ns).length (placesV ns).length hi - HT.sIx (placesV ns).length 0 lo), ?_, ?_⟩
  · unfold cutV placesV
    rw [List.map_take, List.map_drop]
  · rw [List.length_take, List.length_drop]; omega
theorem hide_butT {t g : Addr} {H H' : Hp} (s : But t H H') : Same (hide t g H) (hide t g H') := fun b u h => by
  obtain ⟨h1, h2, h3⟩ := hide_of h
  exact hide_at (s _ _ h2 h1) h2 h3
theorem Row.list {t g a : Addr} {H : Hp} {xs : List V} {os : List (Option Int)} (h : H a = some (.lst xs)) (h1 : a ≠ t) (h2 : a ≠ g) (i : Items (hide t g H) xs os) (n : xs.length ≤ 5000) : Row t g H (.ref a) :=
  ⟨a, xs, os, rfl, hide_at h h1 h2, i, by rw [← i.1]; exact n⟩
theorem But.self {t : Addr} {H0 H : Hp} {o : HO} (b : But t H0 H) : But t H0 (L2.upd H t o) := fun a u n e => by rw [upd_ne n]; exact b a u n e
theorem GenAt.butT {H H' : Hp} {g t : Addr} {n : Nat} (h : GenAt H g n) (b : But t H H') (ne : g ≠ t) : GenAt H' g n := by
  obtain ⟨x, y, z, h0, r⟩ := h
  exact ⟨x, y, z, b _ _ ne h0, r⟩
theorem places_lastD {rs : List Nat} (h : rs ≠ []) : ∃ x : Nat, atI (placesV rs) (-1) = some (V.int (x : Nat)) := by
  have h0 := List.length_pos_iff.mpr h
  have hlt : rs.length - 1 < rs.length := by omega
  refine ⟨rs[rs.length - 1], at_last ?_⟩
  rw [List.length_map, List.getElem?_map, List.getElem?_eq_getElem hlt]
  rfl
theorem Same.own' {v : Addr} {H H1 : Hp} {o : HO} (b : Same H H1) (hv : H v = none) : Same H (L2.upd H1 v o) := Same.own b hv
theorem lead_none {js l m : List Nat} {o : Option Int} (h : placeO l js o = none) : leadB js l m (some [o]) = false := by
  have e : ledO js l [o] = none := by
    show (match placeO l js o with | some p => ledO js (swapL l p) [] | none => none) = none
    rw [h]
  show decide (ledO js l [o] = some m) = false
  rw [e]
  exact decide_eq_false fun z => by cases z
theorem placeO_big {l js : List Nat} {i : Int} (h : l.length ≤ i.toNat) : placeO l js (some i) = none := by
  show (if 0 ≤ i then (match l[i.toNat]? with | some c => if c ∈ js then some i.toNat else none | none => none) else none) = none
  rw [List.getElem?_eq_none h]
  split <;> rfl
theorem led_eq {js l m : List Nat} {os : List (Option Int)} {H : Hp} {Q : VK} (q : Q (.bl (leadB js l m (some os))) H) : rEq (match ledO js l os with | some e => V.str (S e) | none => V.non) (V.str (S m)) H Q := by
  have e0 : leadB js l m (some os) = decide (ledO js l os = some m) := rfl
  rw [e0] at q
  cases he : ledO js l os with
  | none =>
    rw [he, decide_eq_false (fun z => by cases z)] at q
    refine ⟨rfl, ?_⟩
    rw [decide_eq_false (fun z => by cases z)]
    exact q
  | some e =>
    rw [he] at q
    refine ⟨rfl, ?_⟩
    rw [dec_signs]
    have e1 : decide (some e = some m) = decide (e = m) := decide_eq_decide.mpr ⟨fun z => Option.some.inj z, fun z => by rw [z]⟩
    rw [e1] at q
    exact q
end Sw
/-! Values of any kind where words, joints and prices are asked for. -/
namespace Sw
open PySem PySem.Spec PyProof.Rows L2
/-! ### tuples of a number and a text, the one less than the other -/
def ltISB (i j : Int) (x y : Str) : Bool := Ob.lexAt (fun k => if k = 0 then decide (i = j) else decide (x = y)) (fun k => if k = 0 then decide (i < j) else decide (x.cps.toList < y.cps.toList)) false 0 2
def rLtIS (K : PySem.W.Frag) : R2 := fun p q H Q => ∃ (a b : Addr) (i j : Int) (x y : Str), p = .ref a ∧ q = .ref b ∧ SqT K H a [.int i, .str x] ∧ SqT K H b [.int j, .str y] ∧ Q (.bl (ltISB i j x y)) H
theorem rcop_str {A : Around} {s : Shared} (x y : Str) (t u : Tok) : Ob.RcOp .Lt A s (.str x t) (.str y u) (decide (x.cps.toList < y.cps.toList)) := fun _ _ _ _ h => PyProof.Rows.lt_str h
theorem op_ltIS {X : Cx} (hu : X.A.units < cLine) : OpR X (compareOp .Lt) (rLtIS X.K) := by
  intro pins s σ H p q v u Q I rx ry h
  obtain ⟨a, b, i, j, x, y, rfl, rfl, ha, hb, k⟩ := h
  cases rx
  cases ry
  obtain ⟨its, r1, p1, _⟩ := I.tuple ha
  obtain ⟨its2, r2, p2, _⟩ := I.tuple hb
  cases r1 with
  | cons h1 t1 =>
    obtain ⟨w1, rfl⟩ := h1
    cases t1 with
    | cons h2 t2 =>
      obtain ⟨w2, rfl⟩ := h2
      cases t2
      cases r2 with
      | cons g1 u1 =>
        obtain ⟨w3, rfl⟩ := g1
        cases u1 with
        | cons g2 u2 =>
          obtain ⟨w4, rfl⟩ := g2
          cases u2
          have R := Ob.RcOp.tuples_lt (A := X.A) (s := s) (e := fun k => if k = 0 then decide (i = j) else decide (x = y)) (r := fun k => if k = 0 then decide (i < j) else decide (x.cps.toList < y.cps.toList)) p1 p2 hu (fun k h1 h2 => by
            have hk : k = 0 ∨ k = 1 := by
              have : k < 2 := h1
              omega
            rcases hk with rfl | rfl
            · show SeqAt.EqAt X.A.in1 s (.int i w1) (.int j w3) (decide (i = j))
              have z : (i == j) = decide (i = j) := by
                by_cases q : i = j
                · rw [decide_eq_true q]; exact beq_iff_eq.mpr q
                · rw [decide_eq_false q]; exact beq_eq_false_iff_ne.mpr q
              rw [← z]
              exact SeqAt.EqAt.int_int _ _ _ _
            · show SeqAt.EqAt X.A.in1 s (.str x w2) (.str y w4) (decide (x = y))
              have z : (x == y) = decide (x = y) := by
                by_cases q : x = y
                · rw [decide_eq_true q]; exact beq_iff_eq.mpr q
                · rw [decide_eq_false q]; exact beq_eq_false_iff_ne.mpr q
              rw [← z]
              exact SeqAt.EqAt.str_str _ _ _ _) (fun k h1 h2 _ => by
            have hk : k = 0 ∨ k = 1 := by
              have : k < 2 := h1
              omega
            rcases hk with rfl | rfl
            · exact Ob.RcOp.lt_int _ _ _ _
            · exact rcop_str _ _ _ _)
          have z : wpAny (model X.prog X.w) X.A (compareOp .Lt (.ref a) (.ref b)) (EP X pins σ Q) X.xe s := R X.prog X.w X.xe (EP X pins σ Q) ⟨.bl _, H, I, rfl, k⟩
          exact z
/-! ### values by kinds -/
def AllR {κ : Type} (R : V → κ → Prop) (xs : List V) (ks : List κ) : Prop := xs.length = ks.length ∧ ∀ (i : Nat) (x : V), xs[i]? = some x → ∃ k, ks[i]? = some k ∧ R x k
theorem AllR.imp {κ : Type} {R R' : V → κ → Prop} {xs : List V} {ks : List κ} (f : ∀ x k, R x k → R' x k) (h : AllR R xs ks) : AllR R' xs ks :=
  ⟨h.1, fun i x e => by obtain ⟨k, h1, h2⟩ := h.2 i x e; exact ⟨k, h1, f _ _ h2⟩⟩
theorem AllR.nil {κ : Type} {R : V → κ → Prop} : AllR R [] [] := ⟨rfl, fun i x e => by cases e⟩
theorem AllR.cons {κ : Type} {R : V → κ → Prop} {x : V} {k : κ} {xs : List V} {ks : List κ} (h : R x k) (t : AllR R xs ks) : AllR R (x :: xs) (k :: ks) := by
  refine ⟨by rw [List.length_cons, List.length_cons, t.1], fun i y e => ?_⟩
  cases i with
  | zero => cases e; exact ⟨k, rfl, h⟩
  | succ i => exact t.2 i y e
theorem AllR.head {κ : Type} {R : V → κ → Prop} {x : V} {k : κ} {xs : List V} {ks : List κ} (h : AllR R (x :: xs) (k :: ks)) : R x k := by
  obtain ⟨k', h1, h2⟩ := h.2 0 x rfl
  cases h1
  exact h2
theorem AllR.tail {κ : Type} {R : V → κ → Prop} {x : V} {k : κ} {xs : List V} {ks : List κ} (h : AllR R (x :: xs) (k :: ks)) : AllR R xs ks :=
  ⟨Nat.succ.inj h.1, fun i y e => h.2 (i + 1) y e⟩
theorem AllR.append {κ : Type} {R : V → κ → Prop} : ∀ {xs ys : List V} {ks us : List κ}, AllR R xs ks → AllR R ys us → AllR R (xs ++ ys) (ks ++ us)
  | [], ys, [], us, _, h => h
  | [], ys, k :: ks, us, h, _ => by cases h.1
  | x :: xs, ys, [], us, h, _ => by cases h.1
  | x :: xs, ys, k :: ks, us, h, g => .cons h.head (AllR.append h.tail g)
theorem AllR.reverse {κ : Type} {R : V → κ → Prop} : ∀ {xs : List V} {ks : List κ}, AllR R xs ks → AllR R xs.reverse ks.reverse
  | [], [], _ => .nil
  | [], k :: ks, h => by cases h.1
  | x :: xs, [], h => by cases h.1
  | x :: xs, k :: ks, h => by
    rw [List.reverse_cons, List.reverse_cons]
    exact (AllR.reverse h.tail).append (.cons h.head .nil)
theorem AllR.take {κ : Type} {R : V → κ → Prop} {xs : List V} {ks : List κ} (n : Nat) (h : AllR R xs ks) : AllR R (xs.take n) (ks.take n) :=
  ⟨by rw [List.length_take, List.length_take, h.1], fun i x e => by
    rw [List.getElem?_take] at e
    split at e
    · rename_i hi
      obtain ⟨k, h1, h2⟩ := h.2 i x e
      exact ⟨k, by rw [List.getElem?_take, if_pos hi]; exact h1, h2⟩
    · cases e⟩
theorem AllR.drop {κ : Type} {R : V → κ → Prop} {xs : List V} {ks : List κ} (n : Nat) (h : AllR R xs ks) : AllR R (xs.drop n) (ks.drop n) :=
  ⟨by rw [List.length_drop, List.length_drop, h.1], fun i x e => by
    rw [List.getElem?_drop] at e
    obtain ⟨k, h1, h2⟩ := h.2 _ x e
    exact ⟨k, by rw [List.getElem?_drop]; exact h1, h2⟩⟩
/-- a text, or something that is none -/
inductive WV (H : Hp) : V → Option (List Nat) → Prop
  | str (l : List Nat) : WV H (.str (S l)) (some l)
  | int (i : Int) : WV H (.int i) none
  | bl (b : Bool) : WV H (.bl b) none
  | non : WV H .non none
  | lst {a : Addr} {xs : List V} : H a = some (.lst xs) → WV H (.ref a) none
  | tup {a : Addr} {xs : List V} : H a = some (.tup xs) → WV H (.ref a) none
  | dic {a : Addr} {kvs : List (Key × V)} : H a = some (.dK kvs) → WV H (.ref a) none
theorem WV.same {H H' : Hp} {v : V} {o : Option (List Nat)} (s : Same H H') (h : WV H v o) : WV H' v o := by
  cases h with
  | str l => exact .str l
  | int i => exact .int i
  | bl b => exact .bl b
  | non => exact .non
  | lst h => exact .lst (s _ _ h)
  | tup h => exact .tup (s _ _ h)
  | dic h => exact .dic (s _ _ h)
def wordO : Option (List Nat) → Bool
  | some l => wordB l
  | none => false
def jointsO : Option (List Nat) → Bool
  | some l => jointsB l
  | none => false
def letO : Option (List Nat) → Bool
  | some l => wordB l && decide (l.length = 1)
  | none => false
/-- what stands in a tuple -/
inductive AtK where
  | str (l : List Nat) | int (i : Int) | oth
inductive Atm (H : Hp) : V → AtK → Prop
  | str (l : List Nat) : Atm H (.str (S l)) (.str l)
  | int (i : Int) : Atm H (.int i) (.int i)
  | bl (b : Bool) : Atm H (.bl b) .oth
  | non : Atm H .non .oth
  | lst {a : Addr} {xs : List V} : H a = some (.lst xs) → Atm H (.ref a) .oth
theorem Atm.same {H H' : Hp} {v : V} {o : AtK} (s : Same H H') (h : Atm H v o) : Atm H' v o := by
  cases h with
  | str l => exact .str l
  | int i => exact .int i
  | bl b => exact .bl b
  | non => exact .non
  | lst h => exact .lst (s _ _ h)
def AtK.text : AtK → Option (List Nat)
  | .str l => some l
  | _ => none
theorem Atm.wv {H : Hp} {v : V} {o : AtK} (h : Atm H v o) : WV H v o.text := by
  cases h with
  | str l => exact .str l
  | int i => exact .int i
  | bl b => exact .bl b
  | non => exact .non
  | lst h => exact .lst h
def cntK : AtK → Bool
  | .int i => decide (0 ≤ i)
  | _ => false
def oneK : AtK → Bool
  | .int i => decide (1 ≤ i)
  | _ => false
inductive ItK where
  | tup (ks : List AtK) | oth
inductive PIt (H : Hp) : V → ItK → Prop
  | tup {a : Addr} {ys : List V} {ks : List AtK} : H a = some (.tup ys) → AllR (Atm H) ys ks → PIt H (.ref a) (.tup ks)
  | lst {a : Addr} {ys : List V} : H a = some (.lst ys) → PIt H (.ref a) .oth
  | str (x : Str) : PIt H (.str x) .oth
  | non : PIt H .non .oth
theorem PIt.same {H H' : Hp} {v : V} {o : ItK} (s : Same H H') (h : PIt H v o) : PIt H' v o := by
  cases h with
  | tup h g => exact .tup (s _ _ h) (g.imp fun _ _ z => z.same s)
  | lst h => exact .lst (s _ _ h)
  | str x => exact .str x
  | non => exact .non
def itB : ItK → Bool
  | .tup [k, p] => letO k.text && oneK p
  | _ => false
def letK : ItK → Nat
  | .tup (.str (c :: _) :: _) => c
  | _ => 0
inductive PVal (H : Hp) : V → Option (List ItK) → Prop
  | lst {a : Addr} {xs : List V} {ks : List ItK} : H a = some (.lst xs) → AllR (PIt H) xs ks → PVal H (.ref a) (some ks)
  | tup {a : Addr} {xs : List V} : H a = some (.tup xs) → PVal H (.ref a) none
  | dic {a : Addr} {kvs : List (Key × V)} : H a = some (.dK kvs) → PVal H (.ref a) none
  | int (i : Int) : PVal H (.int i) none
  | str (x : Str) : PVal H (.str x) none
  | non : PVal H .non none
theorem PVal.same {H H' : Hp} {v : V} {o : Option (List ItK)} (s : Same H H') (h : PVal H v o) : PVal H' v o := by
  cases h with
  | lst h g => exact .lst (s _ _ h) (g.imp fun _ _ z => z.same s)
  | tup h => exact .tup (s _ _ h)
  | dic h => exact .dic (s _ _ h)
  | int i => exact .int i
  | str x => exact .str x
  | non => exact .non
def pricesB : Option (List ItK) → Bool
  | some ks => ks.all itB && ascB (ks.map letK)
  | none => false
theorem itB_of {k : ItK} (h : itB k = true) : ∃ (c : Nat) (p : Int), k = .tup [.str [c], .int p] ∧ (97 ≤ c ∧ c ≤ 122) ∧ 1 ≤ p := by
  cases k with
  | oth => cases h
  | tup ks =>
    cases ks with
    | nil => cases h
    | cons k1 ks =>
      cases ks with
      | nil => cases h
      | cons k2 ks =>
        cases ks with
        | cons k3 ks => cases h
        | nil =>
          obtain ⟨h1, h2⟩ := Bool.and_eq_true_iff.mp (show (letO k1.text && oneK k2) = true from h)
          cases k1 with
          | int i => cases h1
          | oth => cases h1
          | str l =>
            obtain ⟨h3, h4⟩ := Bool.and_eq_true_iff.mp (show (wordB l && decide (l.length = 1)) = true from h1)
            have hl := of_decide_eq_true h4
            cases k2 with
            | str l => cases h2
            | oth => cases h2
            | int p =>
              cases l with
              | nil => cases hl
              | cons c l =>
                cases l with
                | cons d l => simp at hl
                | nil => exact ⟨c, p, rfl, wordB_mem h3 List.mem_cons_self, of_decide_eq_true h2⟩
/-! ### repr of them -/
structure ShW (D W : Nat) (d : PyData) : Prop where
  sh : d.showable = true
  nd : d.hasDict = false
  dp : d.depth ≤ D
  wt : d.weight ≤ W
  lv : PyData.leavesShort 40 d = true
structure ShWAll (D W : Nat) (ds : List PyData) : Prop where
  sh : PyData.showableAll ds = true
  nd : PyData.hasDictAll ds = false
  dp : PyData.depthAll ds ≤ D
  wt : PyData.weightAll ds ≤ ds.length * (W + 1)
  lv : PyData.leavesShortAll 40 ds = true
theorem ShW.all {D W : Nat} : ∀ {ds : List PyData}, (∀ d ∈ ds, ShW D W d) → ShWAll D W ds
  | [], _ => ⟨rfl, rfl, Nat.zero_le _, Nat.zero_le _, rfl⟩
  | d :: ds, h => by
    have a := h d List.mem_cons_self
    have b := ShW.all (ds := ds) fun y hy => h y (List.mem_cons_of_mem _ hy)
    refine ⟨?_, ?_, ?_, ?_, ?_⟩
    · show (d.showable && PyData.showableAll ds) = true
      rw [a.sh, b.sh]; rfl
    · show (d.hasDict || PyData.hasDictAll ds) = false
      rw [a.nd, b.nd]; rfl
    · exact Nat.max_le.mpr ⟨a.dp, b.dp⟩
    · show d.weight + 1 + PyData.weightAll ds ≤ (ds.length + 1) * (W + 1)
      have := a.wt
      have := b.wt
      rw [Nat.add_mul, Nat.one_mul]
      omega
    · show (PyData.leavesShort 40 d && PyData.leavesShortAll 40 ds) = true
      rw [a.lv, b.lv]; rfl
theorem ShW.list {D W : Nat} {ds : List PyData} (h : ∀ d ∈ ds, ShW D W d) : ShW (D + 1) (ds.length * (W + 1)) (.list ds) :=
  have a := ShW.all h
  ⟨a.sh, a.nd, Nat.succ_le_succ a.dp, a.wt, a.lv⟩
theorem ShW.tup {D W : Nat} {ds : List PyData} (h : ∀ d ∈ ds, ShW D W d) : ShW (D + 1) (ds.length * (W + 1)) (.tuple ds) :=
  have a := ShW.all h
  ⟨a.sh, a.nd, Nat.succ_le_succ a.dp, a.wt, a.lv⟩
theorem ShW.mono {D W E X : Nat} {d : PyData} (h : ShW D W d) (e : D ≤ E) (x : W ≤ X) : ShW E X d := ⟨h.sh, h.nd, Nat.le_trans h.dp e, Nat.le_trans h.wt x, h.lv⟩
theorem ShW.non : ShW 0 0 .none := ⟨rfl, rfl, Nat.le_refl _, Nat.le_refl _, by decide +kernel⟩
theorem ShW.bl (b : Bool) : ShW 0 0 (.bool b) := by cases b <;> exact ⟨rfl, rfl, Nat.le_refl _, Nat.le_refl _, by decide +kernel⟩
theorem ShW.int {i : Int} (h : i.natAbs < 10 ^ 36) : ShW 0 130 (.int i) := by
  have hl : i.natAbs.log2 < 129 := by
    by_cases z : i.natAbs = 0
    · rw [z]; decide
    · exact (Nat.log2_lt z (k := 129)).mpr (Nat.lt_trans h (by decide))
  refine ⟨decide_eq_true (Nat.lt_trans hl (by decide)), rfl, Nat.le_refl _, ?_, ?_⟩
  · show (if (i == 0) = true then 0 else i.natAbs.log2 + 1) ≤ 130
    split <;> omega
  · refine decide_eq_true ?_
    have e := int_text_length_le10 (k := 36) (by decide) h
    show (Str.ofString (toString i)).length ≤ 40
    rw [PySem.ofString_length]
    omega
theorem ShW.str {l : List Nat} (h : ∀ c ∈ l, c ≤ 50000) : ShW 0 l.length (.str (S l)) :=
  ⟨rfl, rfl, Nat.le_refl _, Nat.le_refl _, List.all_eq_true.mpr fun c hc => decide_eq_true (Nat.lt_of_le_of_lt (h c hc) (by decide))⟩
theorem ShW.fits {d : PyData} (h : ShW 60 (2 ^ 18) d) : d.shown.length ≤ sizeLine := by
  have e := PyData.shown_le 40 (by decide) d h.lv
  have := h.wt
  have e2 : (40 + 2) * d.weight ≤ (40 + 2) * 2 ^ 18 := Nat.mul_le_mul_left _ this
  exact Nat.le_trans e (Nat.le_trans (Nat.add_le_add_right e2 40) (by decide))
theorem ShW.rp {K : PySem.W.Frag} {H : Hp} {a : Addr} {d : PyData} (h : ShW 60 (2 ^ 18) d) (p : Dp K H (.ref a) d) : Rp K H (.ref a) d.shown :=
  .seq p h.sh h.nd (Nat.le_trans h.dp (by decide)) h.fits
theorem ShW.rpS {K : PySem.W.Frag} {H : Hp} {l : List Nat} (h : ∀ c ∈ l, c ≤ 50000) (n : l.length ≤ 1000) : Rp K H (.str (S l)) (reprText (S l)) :=
  .str _ (ShW.fits ((ShW.str h).mono (by decide) (by omega)))
theorem kv_facts : ∀ {ps : List (Nat × Int)}, (∀ p ∈ ps, p.1 ≤ 50000 ∧ p.2.natAbs < 10 ^ 36) →
    PyData.showableKv ((ps.map fun p => (S [p.1], p.2)).map fun p => (PyData.str p.1, PyData.int p.2)) = true ∧ PyData.depthKv ((ps.map fun p => (S [p.1], p.2)).map fun p => (PyData.str p.1, PyData.int p.2)) = 0 ∧
    PyData.leavesShortKv 40 ((ps.map fun p => (S [p.1], p.2)).map fun p => (PyData.str p.1, PyData.int p.2)) = true ∧ PyData.weightKv ((ps.map fun p => (S [p.1], p.2)).map fun p => (PyData.str p.1, PyData.int p.2)) ≤ ps.length * 140
  | [], _ => ⟨rfl, rfl, rfl, Nat.zero_le _⟩
  | p :: ps, h => by
    obtain ⟨h1, h2⟩ := h p List.mem_cons_self
    obtain ⟨a1, a2, a3, a4⟩ := kv_facts (ps := ps) fun y hy => h y (List.mem_cons_of_mem _ hy)
    have s1 := ShW.str (l := [p.1]) fun c hc => by rw [List.mem_singleton.mp hc]; exact h1
    have s2 := ShW.int h2
    rw [List.map_cons, List.map_cons]
    refine ⟨?_, ?_, ?_, ?_⟩
    · show ((PyData.str (S [p.1])).showable && (PyData.int p.2).showable && PyData.showableKv _) = true
      rw [s1.sh, s2.sh, a1]; rfl
    · show max (max 0 0) (PyData.depthKv _) = 0
      rw [a2]; rfl
    · show (PyData.leavesShort 40 (PyData.str (S [p.1])) && PyData.leavesShort 40 (PyData.int p.2) && PyData.leavesShortKv 40 _) = true
      rw [s1.lv, s2.lv, a3]; rfl
    · show (PyData.str (S [p.1])).weight + (PyData.int p.2).weight + 2 + PyData.weightKv _ ≤ (ps.length + 1) * 140
      have w1 := s1.wt
      have w2 := s2.wt
      rw [List.length_singleton] at w1
      rw [Nat.add_mul, Nat.one_mul]
      omega
/-- a dict of letters with numbers, told by repr -/
theorem Rp.dict {K : PySem.W.Frag} {H : Hp} {a : Addr} {ps : List (Nat × Int)} (h : H a = some (.dK (ps.map fun p => ((Sum.inr (S [p.1]) : Key), V.int p.2)))) (hc : ∀ p ∈ ps, p.1 ≤ 50000 ∧ p.2.natAbs < 10 ^ 36) (n : ps.length ≤ 100) : ∃ t, Rp K H (.ref a) t := by
  have h' : H a = some (.dK ((ps.map fun p => (S [p.1], p.2)).map fun p => ((Sum.inr p.1 : Key), V.int p.2))) := by rw [h, List.map_map]; rfl
  obtain ⟨a1, a2, a3, a4⟩ := kv_facts hc
  refine ⟨_, .dk h' a1 ?_ ?_⟩
  · show PyData.depthKv _ + 1 ≤ 2
    rw [a2]; decide
  · have e := PyData.shown_le 40 (by decide) (PyData.dict ((ps.map fun p : Nat × Int => (S [p.1], p.2)).map fun p : Str × Int => (PyData.str p.1, PyData.int p.2))) a3
    have a5 : (PyData.dict ((ps.map fun p : Nat × Int => (S [p.1], p.2)).map fun p : Str × Int => (PyData.str p.1, PyData.int p.2))).weight ≤ 14000 := Nat.le_trans a4 (by omega)
    exact Nat.le_trans e (Nat.le_trans (Nat.add_le_add_right (Nat.mul_le_mul_left _ a5) 40) (by decide))
/-- sizes of what is asked for prices -/
def okO (o : Option (List ItK)) : Prop := ∀ ks, o = some ks → ks.length ≤ 50000 ∧ (∀ k ∈ ks, ∀ ys l, k = .tup ys → AtK.str l ∈ ys → l.length ≤ 50000) ∧ ∀ k ∈ ks, ∀ ys, k = .tup ys → ys.length ≤ 100
theorem PIt.price {H : Hp} {v : V} {c : Nat} {p : Int} (h : PIt H v (.tup [.str [c], .int p])) : ∃ t, v = .ref t ∧ H t = some (.tup [.str (S [c]), .int p]) := by
  cases h with
  | @tup a ys ks ht hy =>
    match ys, hy with
    | [y1, y2], hy =>
      have a1 := hy.head
      have a2 := hy.tail.head
      cases a1
      cases a2
      exact ⟨a, rfl, ht⟩
    | [], hy => cases hy.1
    | [y], hy => cases hy.1
    | y1 :: y2 :: y3 :: ys, hy => have := hy.1; simp at this
def priceK (q : Nat × Int) : ItK := .tup [.str [q.1], .int q.2]
theorem PriceT.pit {H : Hp} {t : V} {q : Nat × Int} (h : PriceT H t q) : PIt H t (priceK q) := by
  obtain ⟨a, rfl, h⟩ := h
  exact .tup h (.cons (.str [q.1]) (.cons (.int _) .nil))
theorem paired_all {H : Hp} : ∀ {ts : List V} {ps : List (Nat × Int)}, Paired (PriceT H) ts ps → AllR (PIt H) ts (ps.map priceK)
  | _, _, .nil => .nil
  | _, _, .cons h t => .cons h.pit (paired_all t)
theorem PricesAt.val {H : Hp} {a : Addr} {ps : List (Nat × Int)} (h : PricesAt H a ps) : PVal H (.ref a) (some (ps.map priceK)) := by
  obtain ⟨ts, h1, h2⟩ := h
  exact .lst h1 (paired_all h2)
theorem prices_okO {ps : List (Nat × Int)} (h : ps.length ≤ 50000) : okO (some (ps.map priceK)) := fun ks e => by
  cases e
  refine ⟨by rw [List.length_map]; exact h, fun k hk ys l e hm => ?_, fun k hk ys e => ?_⟩
  · obtain ⟨q, _, rfl⟩ := List.mem_map.mp hk
    cases e
    simp only [List.mem_cons, List.not_mem_nil, or_false] at hm
    rcases hm with e | e
    · cases e; show 1 ≤ 50000; decide
    · cases e
  · obtain ⟨q, _, rfl⟩ := List.mem_map.mp hk
    cases e
    show 2 ≤ 100
    decide
theorem PricesOk.yes {ps : List (Nat × Int)} (h : PricesOk ps) : pricesB (some (ps.map priceK)) = true := by
  refine Bool.and_eq_true_iff.mpr ⟨List.all_eq_true.mpr fun k hk => ?_, ?_⟩
  · obtain ⟨q, hq, rfl⟩ := List.mem_map.mp hk
    obtain ⟨h1, h2⟩ := h.1 q hq
    refine Bool.and_eq_true_iff.mpr ⟨Bool.and_eq_true_iff.mpr ⟨wordB_of fun c hc => ?_, rfl⟩, decide_eq_true h2⟩
    rw [List.mem_singleton.mp hc]
    exact h1
  · have e : (ps.map priceK).map letK = ps.map (·.1) := by rw [List.map_map]; rfl
    rw [e]
    exact ascB_of h.2
/-! ### what the law itself looks at -/
def abcL : List Nat := (Str.ofString "abcdefghijklmnopqrstuvwxyz").cps.toList
theorem mem_alpha {c : Nat} : c ∈ abcL ↔ 97 ≤ c ∧ c ≤ 122 := by
  rw [show abcL = List.range' 97 26 by decide +kernel, List.mem_range']
  exact ⟨fun ⟨i, h, e⟩ => by omega, fun h => ⟨c - 97, by omega, by omega⟩⟩
def oddL (l : List Nat) : List Nat := l.filter fun c => !decide (c ∈ abcL)
theorem odd_empty (l : List Nat) : ((oddL l).map fun c => [c]).isEmpty = wordB l := by
  rw [Bool.eq_iff_iff, List.isEmpty_iff, List.map_eq_nil_iff]
  unfold oddL
  rw [List.filter_eq_nil_iff]
  refine ⟨fun h => wordB_of fun c hc => ?_, fun h c hc => ?_⟩
  · have := h c hc
    refine mem_alpha.mp ?_
    by_cases z : c ∈ abcL
    · exact z
    · exact absurd (by rw [decide_eq_false z]; rfl) this
  · rw [decide_eq_true (mem_alpha.mpr (wordB_mem h hc))]
    decide
def fallB (l : List Nat) (j : Nat) : Bool := match l[j]?, l[j + 1]? with
  | some c, some d => !decide (c < d)
  | _, _ => false
theorem fallB_at {l : List Nat} {j c d : Nat} (h1 : l[j]? = some c) (h2 : l[j + 1]? = some d) : fallB l j = !decide (c < d) := by
  unfold fallB
  rw [h1, h2]
def fallsL (l : List Nat) (n : Nat) : List Int := ((List.range n).filter (fallB l)).map fun j => (1 : Int) + (j : Nat)
theorem falls_len (l : List Nat) (n : Nat) : (fallsL l n).length ≤ n := by
  unfold fallsL
  rw [List.length_map]
  exact Nat.le_trans (List.length_filter_le _ _) (by rw [List.length_range]; exact Nat.le_refl _)
theorem falls_yes {l : List Nat} {n : Nat} (h : fallB l n = true) : fallsL l (n + 1) = fallsL l n ++ [(1 : Int) + (n : Nat)] := by
  unfold fallsL
  rw [List.range_succ, List.filter_append, List.map_append, List.filter_cons, if_pos h]
  rfl
theorem falls_no {l : List Nat} {n : Nat} (h : fallB l n = false) : fallsL l (n + 1) = fallsL l n := by
  unfold fallsL
  rw [List.range_succ, List.filter_append, List.filter_cons, if_neg (by rw [h]; decide)]
  simp
theorem falls_empty (l : List Nat) : (fallsL l (l.length - 1)).isEmpty = ascB l := by
  rw [Bool.eq_iff_iff, List.isEmpty_iff]
  unfold fallsL ascB
  rw [List.map_eq_nil_iff, List.filter_eq_nil_iff, List.all_eq_true]
  refine ⟨fun h p hp => ?_, fun h j hj => ?_⟩
  · obtain ⟨i, hi⟩ := List.getElem?_of_mem hp
    obtain ⟨h1, h2⟩ := List.getElem?_zip_eq_some.mp hi
    rw [List.getElem?_tail] at h2
    have hl := (List.getElem?_eq_some_iff.mp h2).1
    have := h i (List.mem_range.mpr (by omega))
    rw [fallB_at h1 h2] at this
    cases z : decide (p.1 < p.2) with
    | true => rfl
    | false => rw [z] at this; exact absurd rfl this
  · have hj' := List.mem_range.mp hj
    have h1 : l[j]? = some l[j] := List.getElem?_eq_getElem (by omega)
    have h2 : l[j + 1]? = some l[j + 1] := List.getElem?_eq_getElem (by omega)
    have := h (l[j], l[j + 1]) (List.mem_of_getElem? (i := j) (List.getElem?_zip_eq_some.mpr ⟨h1, by rw [List.getElem?_tail]; exact h2⟩))
    rw [fallB_at h1 h2, show decide (l[j] < l[j + 1]) = true from this]
    decide
theorem ints_dp {K : PySem.W.Frag} {H : Hp} : ∀ ns : List Int, DpAll K H (ns.map V.int) (ns.map PyData.int)
  | [] => .nil
  | n :: ns => .cons (.int n) (ints_dp ns)
theorem ints_plain : ∀ ns : List Int, PyData.plainAll (ns.map PyData.int) = true
  | [] => rfl
  | n :: ns => by
    show (PyData.plain (.int n) && PyData.plainAll (ns.map PyData.int)) = true
    rw [ints_plain ns]; rfl
theorem ints_depth : ∀ ns : List Int, PyData.depthAll (ns.map PyData.int) = 0
  | [] => rfl
  | n :: ns => by
    show max 0 (PyData.depthAll (ns.map PyData.int)) = 0
    rw [ints_depth ns]; rfl
theorem ints_is_nil {K : PySem.W.Frag} {H : Hp} {a b : Addr} {ns : List Int} {Q : VK} (ha : SqL K H a (ns.map V.int)) (hb : SqL K H b []) (q : Q (.bl ns.isEmpty) H) : rEqP K (.ref a) (.ref b) H Q := by
  refine ⟨.list (ns.map PyData.int), .list [], .lst ha (ints_dp ns), .lst hb .nil, ints_plain ns, rfl, ?_, ?_⟩
  · show PyData.depthAll (ns.map PyData.int) + 1 ≤ 64
    rw [ints_depth]; decide
  · have e : PyData.eqv (.list (ns.map PyData.int)) (.list []) = ns.isEmpty := by cases ns <;> rfl
    rw [e]
    exact q
theorem letters_all {ks : List ItK} (h : ks.all itB = true) : wordB (ks.map letK) = true := wordB_of fun c hc => by
  obtain ⟨k, hk, rfl⟩ := List.mem_map.mp hc
  obtain ⟨c, p, rfl, h1, _⟩ := itB_of (List.all_eq_true.mp h k hk)
  exact h1
theorem pricesB_joints {ks : List ItK} (h : ks.all itB = true) : pricesB (some ks) = jointsB (ks.map letK) := by
  show (ks.all itB && ascB (ks.map letK)) = (wordB (ks.map letK) && ascB (ks.map letK))
  rw [h, letters_all h]
/-! ### bent prices -/
def AtmD (K : PySem.W.Frag) (H : Hp) (x : V) : Prop := ∃ (k : AtK) (d : PyData), Atm H x k ∧ Dp K H x d ∧ ShW 1 300 d ∧ ∀ l, k = .str l → l.length ≤ 300
theorem AtmD.same {K : PySem.W.Frag} {H H' : Hp} {x : V} (s : Same H H') (h : AtmD K H x) : AtmD K H' x := by
  obtain ⟨k, d, h1, h2, h3, h4⟩ := h
  exact ⟨k, d, h1.same s, dp_same s h2, h3, h4⟩
theorem AtmD.str {K : PySem.W.Frag} {H : Hp} {l : List Nat} (h : ∀ c ∈ l, c ≤ 50000) (n : l.length ≤ 300) : AtmD K H (.str (S l)) :=
  ⟨_, _, .str l, .str _, (ShW.str h).mono (by decide) n, fun l' e => by cases e; exact n⟩
theorem AtmD.int {K : PySem.W.Frag} {H : Hp} {i : Int} (h : i.natAbs < 10 ^ 36) : AtmD K H (.int i) :=
  ⟨_, _, .int i, .int i, (ShW.int h).mono (by decide) (by decide), fun l' e => by cases e⟩
theorem AtmD.bl {K : PySem.W.Frag} {H : Hp} (b : Bool) : AtmD K H (.bl b) := ⟨_, _, .bl b, .bl b, (ShW.bl b).mono (by decide) (by decide), fun l' e => by cases e⟩
theorem AtmD.non {K : PySem.W.Frag} {H : Hp} : AtmD K H .non := ⟨_, _, .non, .non, ShW.non.mono (by decide) (by decide), fun l' e => by cases e⟩
theorem AtmD.nil {K : PySem.W.Frag} {H : Hp} {a : Addr} (h : H a = some (.lst [])) : AtmD K H (.ref a) :=
  ⟨_, _, .lst h, .lst (SqL.of h) .nil, (ShW.list (D := 0) (W := 0) (ds := []) (fun d hd => nomatch hd)).mono (by decide) (by decide), fun l' e => by cases e⟩
theorem atms {K : PySem.W.Frag} {H : Hp} : ∀ {xs : List V}, (∀ x ∈ xs, AtmD K H x) → ∃ ks ds, AllR (Atm H) xs ks ∧ DpAll K H xs ds ∧ ds.length = xs.length ∧ (∀ d ∈ ds, ShW 1 300 d) ∧ ∀ l, AtK.str l ∈ ks → l.length ≤ 300
  | [], _ => ⟨[], [], .nil, .nil, rfl, fun d hd => (nomatch hd), fun l hl => (nomatch hl)⟩
  | x :: xs, h => by
    obtain ⟨k, d, h1, h2, h3, h4⟩ := h x List.mem_cons_self
    obtain ⟨ks, ds, a1, a2, a3, a4, a5⟩ := atms fun y hy => h y (List.mem_cons_of_mem _ hy)
    refine ⟨k :: ks, d :: ds, .cons h1 a1, .cons h2 a2, by rw [List.length_cons, List.length_cons, a3], fun y hy => ?_, fun l hl => ?_⟩
    · rcases List.mem_cons.mp hy with rfl | hy
      · exact h3
      · exact a4 y hy
    · rcases List.mem_cons.mp hl with e | hl
      · exact h4 l e.symm
      · exact a5 l hl
/-- an item of a list of prices, or an odd one -/
def OddV (K : PySem.W.Frag) (H : Hp) (x : V) : Prop := ∃ (k : ItK) (d : PyData), PIt H x k ∧ Dp K H x d ∧ ShW 3 2000 d ∧ (∀ ys l, k = .tup ys → AtK.str l ∈ ys → l.length ≤ 50000) ∧ ∀ ys, k = .tup ys → ys.length ≤ 100
theorem OddV.same {K : PySem.W.Frag} {H H' : Hp} {x : V} (s : Same H H') (h : OddV K H x) : OddV K H' x := by
  obtain ⟨k, d, h1, h2, h3, h4, h5⟩ := h
  exact ⟨k, d, h1.same s, dp_same s h2, h3, h4, h5⟩
theorem OddV.tup {K : PySem.W.Frag} {H : Hp} {a : Addr} {xs : List V} (h : H a = some (.tup xs)) (hx : ∀ x ∈ xs, AtmD K H x) (n : xs.length ≤ 5) : OddV K H (.ref a) := by
  obtain ⟨ks, ds, a1, a2, a3, a4, a5⟩ := atms hx
  have s := ShW.tup a4
  refine ⟨.tup ks, _, .tup h a1, .tup (SqT.of h) a2, s.mono (by decide) (by rw [a3]; omega), fun ys l e hl => ?_, fun ys e => ?_⟩
  · cases e
    have := a5 l hl
    omega
  · cases e
    rw [← a1.1]
    omega
theorem OddV.lst {K : PySem.W.Frag} {H : Hp} {a : Addr} {xs : List V} (h : H a = some (.lst xs)) (hx : ∀ x ∈ xs, AtmD K H x) (n : xs.length ≤ 5) : OddV K H (.ref a) := by
  obtain ⟨ks, ds, a1, a2, a3, a4, a5⟩ := atms hx
  have s := ShW.list a4
  exact ⟨.oth, _, .lst h, .lst (SqL.of h) a2, s.mono (by decide) (by rw [a3]; omega), (fun ys l e _ => by cases e), (fun ys e => by cases e)⟩
theorem OddV.non {K : PySem.W.Frag} {H : Hp} : OddV K H .non := ⟨.oth, _, .non, .non, ShW.non.mono (by decide) (by decide), (fun ys l e _ => by cases e), (fun ys e => by cases e)⟩
theorem OddV.str {K : PySem.W.Frag} {H : Hp} {l : List Nat} (h : ∀ c ∈ l, c ≤ 50000) (n : l.length ≤ 300) : OddV K H (.str (S l)) := ⟨.oth, _, .str _, .str _, (ShW.str h).mono (by decide) (by omega), (fun ys l e _ => by cases e), (fun ys e => by cases e)⟩
theorem PriceT.odd {K : PySem.W.Frag} {H : Hp} {t : V} {q : Nat × Int} (h : PriceT H t q) (h1 : q.1 ≤ 122) (h2 : q.2.natAbs < 10 ^ 36) : OddV K H t := by
  obtain ⟨a, rfl, h⟩ := h
  refine .tup h (fun x hx => ?_) (by show 2 ≤ 5; decide)
  simp only [List.mem_cons, List.not_mem_nil, or_false] at hx
  rcases hx with rfl | rfl
  · exact .str (fun c hc => by rw [List.mem_singleton.mp hc]; omega) (by show 1 ≤ 300; decide)
  · exact .int h2
theorem odds {K : PySem.W.Frag} {H : Hp} : ∀ {xs : List V}, (∀ x ∈ xs, OddV K H x) → ∃ ks ds, AllR (PIt H) xs ks ∧ DpAll K H xs ds ∧ ds.length = xs.length ∧ (∀ d ∈ ds, ShW 3 2000 d) ∧
    (∀ k ∈ ks, ∀ ys l, k = ItK.tup ys → AtK.str l ∈ ys → l.length ≤ 50000) ∧ ∀ k ∈ ks, ∀ ys, k = ItK.tup ys → ys.length ≤ 100
  | [], _ => ⟨[], [], .nil, .nil, rfl, fun d hd => (nomatch hd), fun k hk => (nomatch hk), fun k hk => (nomatch hk)⟩
  | x :: xs, h => by
    obtain ⟨k, d, h1, h2, h3, h4, h5⟩ := h x List.mem_cons_self
    obtain ⟨ks, ds, a1, a2, a3, a4, a5, a6⟩ := odds fun y hy => h y (List.mem_cons_of_mem _ hy)
    refine ⟨k :: ks, d :: ds, .cons h1 a1, .cons h2 a2, by rw [List.length_cons, List.length_cons, a3], fun y hy => ?_, fun y hy => ?_, fun y hy => ?_⟩
    · rcases List.mem_cons.mp hy with rfl | hy
      · exact h3
      · exact a4 y hy
    · rcases List.mem_cons.mp hy with rfl | hy
      · exact h4
      · exact a5 y hy
    · rcases List.mem_cons.mp hy with rfl | hy
      · exact h5
      · exact a6 y hy
/-- a value that is judged, with what repr tells of it -/
def Bent (K : PySem.W.Frag) (H : Hp) (v : V) : Prop := ∃ (o : Option (List ItK)) (t : Str), PVal H v o ∧ okO o ∧ Rp K H v t
theorem Bent.same {K : PySem.W.Frag} {H H' : Hp} {v : V} (s : Same H H') (h : Bent K H v) : Bent K H' v := by
  obtain ⟨o, t, h1, h2, h3⟩ := h
  exact ⟨o, t, h1.same s, h2, h3.same s⟩
theorem okN : okO none := fun ks e => by cases e
theorem Bent.lst {K : PySem.W.Frag} {H : Hp} {a : Addr} {xs : List V} (h : H a = some (.lst xs)) (hx : ∀ x ∈ xs, OddV K H x) (n : xs.length ≤ 100) : Bent K H (.ref a) := by
  obtain ⟨ks, ds, a1, a2, a3, a4, a5, a6⟩ := odds hx
  have s := ShW.list a4
  refine ⟨some ks, _, .lst h a1, fun ks' e => ?_, ShW.rp (s.mono (by decide) (by rw [a3]; omega)) (.lst (SqL.of h) a2)⟩
  cases e
  exact ⟨by rw [← a1.1]; omega, a5, a6⟩
theorem Bent.tup {K : PySem.W.Frag} {H : Hp} {a : Addr} {xs : List V} (h : H a = some (.tup xs)) (hx : ∀ x ∈ xs, OddV K H x) (n : xs.length ≤ 100) : Bent K H (.ref a) := by
  obtain ⟨ks, ds, a1, a2, a3, a4, a5, a6⟩ := odds hx
  have s := ShW.tup a4
  exact ⟨none, _, .tup h, okN, ShW.rp (s.mono (by decide) (by rw [a3]; omega)) (.tup (SqT.of h) a2)⟩
theorem Bent.dic {K : PySem.W.Frag} {H : Hp} {a : Addr} {ps : List (Nat × Int)} (h : H a = some (.dK (ps.map fun p => ((Sum.inr (S [p.1]) : Key), V.int p.2)))) (hc : ∀ p ∈ ps, p.1 ≤ 50000 ∧ p.2.natAbs < 10 ^ 36) (n : ps.length ≤ 100) : Bent K H (.ref a) := by
  obtain ⟨t, ht⟩ := Rp.dict (K := K) h hc n
  exact ⟨none, t, .dic h, okN, ht⟩
theorem Bent.non {K : PySem.W.Frag} {H : Hp} : Bent K H .non := ⟨none, _, .non, okN, .non⟩
theorem Bent.str {K : PySem.W.Frag} {H : Hp} {l : List Nat} (h : ∀ c ∈ l, c ≤ 50000) (n : l.length ≤ 300) : Bent K H (.str (S l)) := ⟨none, _, .str _, okN, ShW.rpS h (by omega)⟩
theorem Bent.int {K : PySem.W.Frag} {H : Hp} {i : Int} (h : i.natAbs.log2 < 1920) : Bent K H (.int i) := ⟨none, _, .int i, okN, .int i h⟩
/-! ### dict(prices) -/
theorem merge_app : ∀ {kvs acc : List (Key × V)}, ((acc ++ kvs).map (·.1)).Nodup → mergeK acc kvs = acc ++ kvs
  | [], acc, _ => (List.append_nil acc).symm
  | kv :: kvs, acc, h => by
    have hn : ¬ (acc.any fun q => decide (q.1 = kv.1)) = true := fun z => by
      obtain ⟨q, hq, e⟩ := List.any_eq_true.mp z
      rw [List.map_append, List.map_cons] at h
      have := (List.nodup_append.mp h).2.2 q.1 (List.mem_map_of_mem hq) kv.1 List.mem_cons_self
      exact this (of_decide_eq_true e)
    have e1 : putK acc kv.1 kv.2 = acc ++ [kv] := by
      unfold putK
      rw [if_neg hn]
    show mergeK (putK acc kv.1 kv.2) kvs = _
    rw [e1, merge_app (by rw [List.append_assoc]; exact h), List.append_assoc]
    rfl
def pairK (q : Nat × Int) : Key × V := (Sum.inr (S [q.1]), V.int q.2)
theorem prices_pairs {K : PySem.W.Frag} {H : Hp} : ∀ {ts : List V} {ps : List (Nat × Int)}, Paired (PriceT H) ts ps → ∃ as : List Addr, ts = as.map V.ref ∧ Paired (fun p (kv : Key × V) => SqT K H p [kV kv.1, kv.2]) as (ps.map pairK)
  | _, _, .nil => ⟨[], rfl, .nil⟩
  | _, _, .cons h t => by
    obtain ⟨a, rfl, ha⟩ := h
    obtain ⟨as, rfl, hp⟩ := prices_pairs (K := K) t
    exact ⟨a :: as, rfl, .cons (SqT.of ha) hp⟩
theorem pairs_nodup {ps : List (Nat × Int)} (h : (ps.map (·.1)).Pairwise (· < ·)) : ((([] : List (Key × V)) ++ ps.map pairK).map fun x : Key × V => x.1).Nodup := by
  rw [List.nil_append, List.map_map]
  have e : ps.map ((fun x : Key × V => x.1) ∘ pairK) = (ps.map fun q : Nat × Int => q.1).map fun c => (Sum.inr (S [c]) : Key) := by rw [List.map_map]; rfl
  rw [e]
  refine List.pairwise_map.mpr (h.imp fun {a b} hab z => ?_)
  injection z with z
  have := congrArg (fun s : Str => s.cps.toList) z
  simp [SX.S] at this
  omega
theorem fc {P : V → Prop} {x : V} {xs : List V} (h : P x) (t : ∀ z ∈ xs, P z) : ∀ z ∈ x :: xs, P z := fun z hz => by
  rcases List.mem_cons.mp hz with rfl | hz
  · exact h
  · exact t z hz
theorem fn {P : V → Prop} : ∀ z ∈ ([] : List V), P z := fun z hz => nomatch hz
theorem fa {P : V → Prop} {xs ys : List V} (h : ∀ z ∈ xs, P z) (t : ∀ z ∈ ys, P z) : ∀ z ∈ xs ++ ys, P z := fun z hz => (List.mem_append.mp hz).elim (h z) (t z)
theorem mem_cutV {xs : List V} {lo hi : Option Int} {x : V} (h : x ∈ cutV xs lo hi) : x ∈ xs := List.mem_of_mem_drop (List.mem_of_mem_take h)
theorem fcut {P : V → Prop} {xs : List V} {lo hi : Option Int} (h : ∀ z ∈ xs, P z) : ∀ z ∈ cutV xs lo hi, P z := fun z hz => h z (mem_cutV hz)
theorem prices_odd {K : PySem.W.Frag} {H : Hp} : ∀ {ts : List V} {ps : List (Nat × Int)}, Paired (PriceT H) ts ps → (∀ q ∈ ps, q.1 ≤ 122 ∧ q.2.natAbs < 10 ^ 36) → ∀ x ∈ ts, OddV K H x
  | _, _, .nil, _ => fn
  | _, _, .cons h t, b => fc (h.odd (b _ List.mem_cons_self).1 (b _ List.mem_cons_self).2) (prices_odd t fun q hq => b q (List.mem_cons_of_mem _ hq))
theorem GenAt.tup_ne {H : Hp} {g x : Addr} {n : Nat} {ys : List V} (G : GenAt H g n) (h : H x = some (.tup ys)) : x ≠ g := fun e => by
  obtain ⟨a, b, c, h0, _⟩ := G
  rw [e, h0] at h
  cases h
theorem hide_drop {t g : Addr} {H : Hp} : Same (hide t g H) (hide g g H) := fun b u h => by
  obtain ⟨h1, _, h3⟩ := hide_of h
  exact hide_at h1 h3 h3
def TextV (x : V) : Prop := ∃ u : List Nat, x = .str (S u) ∧ u.length ≤ 1000
theorem textV (s : Str) (h : s.cps.toList.length ≤ 1000) : TextV (.str s) := ⟨s.cps.toList, by obtain ⟨c⟩ := s; simp [SX.S], h⟩
def WordV (H : Hp) (x : V) : Prop := ∃ o : Option (List Nat), WV H x o ∧ ∀ l, o = some l → l.length ≤ 50000
theorem TextV.word {H : Hp} {x : V} (h : TextV x) : WordV H x := by
  obtain ⟨u, rfl, h⟩ := h
  exact ⟨_, .str u, fun l e => by cases e; omega⟩
theorem WordV.same {H H' : Hp} {x : V} (s : Same H H') (h : WordV H x) : WordV H' x := by
  obtain ⟨o, h1, h2⟩ := h
  exact ⟨o, h1.same s, h2⟩
theorem WordV.oth {H : Hp} {x : V} (h : WV H x none) : WordV H x := ⟨none, h, fun l e => by cases e⟩
theorem words_text {ws : List (List Nat)} (h : ∀ w ∈ ws, w.length ≤ 1000) : ∀ x ∈ wordsV ws, TextV x := fun x hx => by
  obtain ⟨w, hw, rfl⟩ := List.mem_map.mp hx
  exact ⟨w, rfl, h w hw⟩
end Sw
/-! Exceptions as values: made by a call of their class, asked for a field, for their kind. -/
namespace Sw
open PySem PySem.Spec PyProof.Rows L2
/-- C(e, ..) as a value: the new exception is known -/
def tMkV (C : Addr) (sp : Sp) (dvs : List V) (ta : TA) : TE := fun σ H Q => ta σ H fun vs H1 => vs.length ≤ 1000 ∧ ∀ a, H1 a = none → sp (.ref a :: (vs ++ dvs)) (upd H1 a (exo a C none)) (fun v H2 => v = .non ∧ Q (.ref a) H2) (fun _ _ _ => False)
section
variable {X : Cx} {e : Expr} {es : List Expr} {ta : TA} {p pos : Pos}
theorem mkV_run {CX : CXT} {C fI : Addr} {k : Nat} {fd : FuncData} {ps : List Str} {sp : Sp} {ds us : List Value} {dvs vs : List V} {pins : List (Addr × Obj)} {σ : L2.St} {H1 : Hp} {s1 : Shared} {Q : VK} (T : OexC X.K C) (iC : PySem.W.findIn X.K (.ref C) "__init__" = some (some (.ref fI))) (tI : PySem.W.typeIn X.K (.ref fI) = some (.type "function"))
    (F1 : FnOk X.prog X.w X.K X.mg X.base CX k fI fd ps sp) (hr : Room (k + 1) X.A) (hb : Binds X.K fd ps ds) (hd : Vals dvs ds) (hx : Passes CX X (fun _ _ _ => False)) (I1 : Inv X pins σ H1 s1) (r1 : Vals vs us) (hz : vs.length ≤ 1000)
    (q1 : ∀ a, H1 a = none → sp (.ref a :: (vs ++ dvs)) (upd H1 a (exo a C none)) (fun v H2 => v = .non ∧ Q (.ref a) H2) (fun _ _ _ => False)) :
    wpAny (model X.prog X.w) X.A (call (.ref C) us) (EP X pins σ Q) X.xe s1 := by
  obtain ⟨nm, q, N, bs, bm, sn, sub, ab, col, dd, k0, k1, k2, k3, k5, hC, hbm⟩ := T.cls
  obtain ⟨hp, g, dr, tk, os⟩ := s1
  have hsz : hp.objs.size ≤ hp.objs.size + 1 := Nat.le_succ _
  have hn : H1 (hp.objs.size + 1) = none := I1.hok.fresh hsz
  have hq := q1 (hp.objs.size + 1) hn
  have kk : ∀ b o, hp.get? b = some o → ((hp.push (PySem.W.kdv_tup us)).push (PySem.HandSPX.excO C hp.objs.size)).get? b = some o := fun b o e => Heap.get?_push_of_some _ (Heap.get?_push_of_some _ e)
  have hget : ((hp.push (PySem.W.kdv_tup us)).push (PySem.HandSPX.excO C hp.objs.size)).get? (hp.objs.size + 1) = some (PySem.HandSPX.excO C hp.objs.size) := by heap_get
  have I2 : Inv X pins σ (upd H1 (hp.objs.size + 1) (exo (hp.objs.size + 1) C none)) ⟨(hp.push (PySem.W.kdv_tup us)).push (PySem.HandSPX.excO C hp.objs.size), g, dr, tk, os⟩ :=
    I1.laid (t' := tk) (a := hp.objs.size + 1) (o := exo (hp.objs.size + 1) C none) (h' := (hp.push (PySem.W.kdv_tup us)).push (PySem.HandSPX.excO C hp.objs.size)) kk hsz (exo_ok hget)
  have r2 : Vals (V.ref (hp.objs.size + 1) :: (vs ++ dvs)) (Value.ref (hp.objs.size + 1) :: (us ++ ds)) := .cons rfl (r1.append hd)
  have hl : (Value.ref (hp.objs.size + 1) :: us ++ ds).length = ps.length := by
    have e := r2.length
    rw [F1.len _ _ _ _ hq] at e
    exact e.symm
  have hus : us.length ≤ sizeLine := by
    rw [← Paired.length r1, sizeLine_eq]
    omega
  refine wpAny_call (PySem.HandSPX.call_own F.excBase_ValueError (fun Y => PySem.HandSPX.refsVE_contains Y bm hbm) (I1.kIn _ _ hC) (PySem.W.looks_findIn I1.kIn iC) (fun self => PySem.W.bind_fn I1.kIn self tI) hus
    (codeAny_mono (F1.run _ X.stack _ _ ⟨Value.ref (hp.objs.size + 1) :: us, []⟩ (Value.ref (hp.objs.size + 1) :: (us ++ ds)) _ _ (fun _ _ _ => False) (hr.make C us []) (I2.env0.make C us []) (hb _ (Value.ref (hp.objs.size + 1) :: us) I2.kIn hl) r2 hq) fun r s' hq' => ?_))
  cases r with
  | error er => exact hx pins σ _ _ er s' I2 hq'
  | ok fl =>
    cases fl with
    | ret u =>
      obtain ⟨v, H2, os2, bare2, un2, hok2, rv, ev, q2⟩ := hq'
      subst ev
      obtain ⟨h2, g2, d2, t2, os'⟩ := s'
      exact ⟨rv, .ref (hp.objs.size + 1), H2, I2.call' (ch := []) os2 un2 hok2 bare2 (fun b z => absurd z (by simp)), rfl, q2⟩
    | next => exact False.elim hq'
    | brk => exact False.elim hq'
    | cont => exact False.elim hq'
theorem pe_mkV {CX : CXT} {x : Str} {C fI : Addr} {k : Nat} {fd : FuncData} {ps : List Str} {sp : Sp} {ds : List Value} {dvs : List V} (T : OexC X.K C) (iC : PySem.W.findIn X.K (.ref C) "__init__" = some (some (.ref fI))) (tI : PySem.W.typeIn X.K (.ref fI) = some (.type "function"))
    (F1 : FnOk X.prog X.w X.K X.mg X.base CX k fI fd ps sp) (hr : Room (k + 1) X.A) (hb : Binds X.K fd ps ds) (hd : Vals dvs ds) (hx : Passes CX X (fun _ _ _ => False)) (hg : Gl X x) (hm : X.mg x = some (.ref C)) (ha : PA X (e :: es) ta)
    (hdb : (x == ("__debug__" : Str)) = false := by decide) (he : starEach (e :: es) X.env = (false, eval e X.env) :: starEach es X.env := by rfl) (hpl : (backTo pos (starEach es X.env)).any (·.1) = false := by rfl) :
    PE X (.Call (.Name x p) (e :: es) [] pos) (tMkV C sp dvs ta) := by
  refine ⟨fun pins s σ H Q I h => ?_⟩
  refine wpAny_Call_Name_kw (ld_glob I hg hm ?_ hdb)
  exact PySem.W.callWith_K (h₀ := X.base) I.ok.mod.kin T.kC (thn (ha.run pos pins s σ H _ I h) fun us s1 ⟨vs, H1, I1, r1, hz, q1⟩ => ⟨I1.kIn, mkV_run T iC tI F1 hr hb hd hx I1 r1 hz q1⟩) he hpl
theorem pe_mkV0 {CX : CXT} {x : Str} {C fI : Addr} {k : Nat} {fd : FuncData} {ps : List Str} {sp : Sp} {ds : List Value} {dvs : List V} (T : OexC X.K C) (iC : PySem.W.findIn X.K (.ref C) "__init__" = some (some (.ref fI))) (tI : PySem.W.typeIn X.K (.ref fI) = some (.type "function"))
    (F1 : FnOk X.prog X.w X.K X.mg X.base CX k fI fd ps sp) (hr : Room (k + 1) X.A) (hb : Binds X.K fd ps ds) (hd : Vals dvs ds) (hx : Passes CX X (fun _ _ _ => False)) (hg : Gl X x) (hm : X.mg x = some (.ref C))
    (hdb : (x == ("__debug__" : Str)) = false := by decide) : PE X (.Call (.Name x p) [] [] pos) (tMkV C sp dvs tNil) := by
  refine ⟨fun pins s σ H Q I h => ?_⟩
  refine wpAny_Call_Name_kw (ld_glob I hg hm ?_ hdb)
  exact PySem.W.callWith_K0 I.kIn T.kC (mkV_run (us := []) T iC tI F1 hr hb hd hx I .nil h.1 h.2)
/-- x.f, x a known exception with a dict -/
def tXv (K : PySem.W.Frag) (f : Str) (te : TE) : TE := fun σ H Q => te σ H fun x H1 => ∃ (a C dd : Addr) (fs : List (Str × V)) (v : V), x = .ref a ∧ XfC K C ∧ PySem.W.findIn K (.ref C) f = some none ∧ H1 a = some (exo a C (some dd)) ∧ H1 dd = some (exd dd fs) ∧ fs.lookup f = some v ∧ Q v H1
theorem pe_xv {n : Str} {te : TE} (he : PE X e te) (hb : attributeBase e n X.env (eval e X.env) = eval e X.env := by rfl) : PE X (.Attribute e n pos) (tXv X.K n te) := by
  refine ⟨fun pins s σ H Q I h => ?_⟩
  refine attr_of hb (thn (he.run pins s σ H _ I h) fun u s1 hh => ?_)
  obtain ⟨x, H1, I1, rx, a, C, dd, fs, v, ex, T, hno, ea, ed, l, q⟩ := hh
  subst ex
  obtain rfl : u = Value.ref a := rx
  obtain ⟨t0, hoe⟩ := exo_at I1.hok ea
  obtain ⟨mA, hns, hr⟩ := exd_at I1.hok ed
  obtain ⟨od, ho, hl⟩ := lookIn_ns hns
  obtain ⟨u, hu, ru⟩ := RelO.some_of (v := v) (o := mA n) (by rw [← l]; exact hr n)
  have J : PySem.W.InstAt s1.heap a _ C (some od) := ⟨hoe, rfl, rfl, ho⟩
  exact HandSPX.exc_get I1.kIn J T.ga T.gg T.exC (PySem.W.findObj_own T.hdC hno rfl (by rw [hl, hu])) (handed_of ru) ⟨v, H1, I1.tok _, ru, q⟩
/-- isinstance(x, c), x a known exception, c a class -/
def rIsX (K : PySem.W.Frag) : List V → Hp → VK → Prop := fun xs H Q => ∃ (a C : Addr) (d : Option Addr) (c : V) (u : Value) (b : Bool), xs = [.ref a, c] ∧ ExcC K C ∧ H a = some (exo a C d) ∧ (∀ dd, d = some dd → ∃ fs, H dd = some (exd dd fs)) ∧ (∀ v, RelV c v → v = u) ∧ PySem.W.kitOne K (.ref C) u = some b ∧ Q (.bl b) H
theorem cr_isX : CallR X (.builtin "isinstance") (rIsX X.K) := by
  intro pins s σ H xs us Q I r h
  obtain ⟨a, C, d, c, cv, b, rfl, T, ea, hd, hcv, e, q⟩ := h
  cases r with
  | cons rx rr =>
    cases rr with
    | cons rt rr =>
      cases rr
      cases rx
      have ec := hcv _ rt
      subst ec
      obtain ⟨t0, hoe⟩ := exo_at I.hok ea
      cases d with
      | none =>
        have J : PySem.W.InstAt s.heap a _ C none := ⟨hoe, rfl, rfl, trivial⟩
        exact PySem.W.kia_one (PySem.W.handS_kitx_exc T.hg T.hk T.hs T.hd T.ha T.hn T.ht T.hm) I.kIn J e (fun z => nomatch z) fun tk => ⟨.bl b, H, I.kept (t' := tk) fun _ _ z => z, rfl, q⟩
      | some dd =>
        obtain ⟨fs, ed⟩ := hd dd rfl
        obtain ⟨mA, hns, hr⟩ := exd_at I.hok ed
        obtain ⟨od, ho, hl⟩ := lookIn_ns hns
        have J : PySem.W.InstAt s.heap a _ C (some od) := ⟨hoe, rfl, rfl, ho⟩
        exact PySem.W.kia_one (PySem.W.kitx_exc (gt := none) (by obtain ⟨cd, hc, _⟩ := PySem.W.any_some T.hd; rw [hc]; rfl) T.hg T.hk T.hs T.ha T.hn T.ht T.hm) I.kIn J e (fun z => nomatch z) fun tk => ⟨.bl b, H, I.kept (t' := tk) fun _ _ z => z, rfl, q⟩
end
end Sw
namespace Sw
open PySem PySem.Spec PyProof.Rows L2
/-- what the written part says of a class of errors with an own __init__ -/
structure ErrC (K : PySem.W.Frag) (mg : Str → Option Value) (x : Str) (C fI : Addr) : Prop where
  m : mg x = some (.ref C)
  o : OexC K C
  e : ExcC K C
  i : PySem.W.findIn K (.ref C) "__init__" = some (some (.ref fI))
  t : PySem.W.typeIn K (.ref fI) = some (.type "function")
  v : PySem.W.findIn K (.ref C) "value" = some none
theorem ErrC.x {K : PySem.W.Frag} {mg : Str → Option Value} {x : Str} {C fI : Addr} (h : ErrC K mg x C fI) : XfC K C := ⟨h.e.hg, h.e.hk, h.e.hs, h.e.hd⟩
theorem err_mk {K : PySem.W.Frag} {h : Heap} {mg : Str → Option Value} {x : Str} {C fI : Addr} {nm q : Str} {N : Addr} {bs bm : List Value} {sn : List Str} {sub : List Value} {ab : Bool} {col : Option Bool} {dd : Option Addr} {k0 k1 k2 k3 k5 : Option Value} (X : K.In h) (G : h.Ns mainGlobals mg)
    (a : PySem.W.nsIn K mainGlobals x = some (some (.ref C))) (o : K.lookup C = some (excClassObj nm q C N bs bm true sn sub ab col dd k0 k1 k2 k3 k5 "ValueError.__new__")) (i : PySem.W.findIn K (.ref C) "__init__" = some (some (.ref fI))) (r : PySem.HandSPX.refsVE bm = true)
    (sa : PySem.W.findIn K (.ref C) "__setattr__" = some (some (.builtin "object.__setattr__"))) (ec : PySem.W.subIn K (.ref C) (.type "BaseException") = some true) (ty : PySem.W.typeIn K (.ref C) = some (.type "type")) (kc : PySem.W.keepIn K (.ref C) = true)
    (ti : PySem.W.typeIn K (.ref fI) = some (.type "function")) (v : PySem.W.findIn K (.ref C) "value" = some none)
    (hg : PySem.W.findIn K (.ref C) "__getattribute__" = some (some (.builtin "BaseException.__getattribute__"))) (hk : PySem.W.findIn K (.ref C) "__getattr__" = some none) (hd : PySem.W.hasDictIn K C = true) (ha : PySem.W.findIn K (.ref C) "__class__" = some (some (.builtin "object.__class__")))
    (hn : PySem.W.specialIn K (.builtin "object.__class__") "__get__" = some (some (.builtin "getset_descriptor.__get__"))) (ht : PySem.W.takesIn K (.builtin "object.__class__") = some true) (hm : PySem.W.mroIn K C (.type "object") = some true) : ErrC K mg x C fI :=
  ⟨PySem.W.mg_of X G a, ⟨⟨_, _, _, _, _, _, _, _, _, _, _, _, _, _, _, o, r⟩, sa, ec, ty, kc⟩, ⟨hg, hk, ec, hd, ha, hn, ht, hm⟩, i, ti, v⟩
end Sw
/-! A call of an exception class with names: what makes the object asks no names; only its __init__ has them. -/
namespace Sw
open PySem PySem.W PySem.Calls PySem.HandSPX PyProof.Rows
section
variable {prog : Program} {w : World} {A : Around} {E : Value → Shared → Prop} {R : Result → Shared → Prop} {h : Heap} {g : Array GenState} {d : Drawn} {t : Nat} {os : OsState}
variable {nm q : Str} {C N : Addr} {bs bm bmB : List Value} {hdct : Bool} {sn : List Str} {sub : List Value} {ab : Bool} {col : Option Bool} {dd : Option Addr} {k0 k1 k2 k3 k5 : Option Value} {B newId initId : String}
theorem check_names (F : ExcBaseFacts B newId initId bmB) {xs : List Value} {kw : List (Str × Value)} : checkBuiltinCall newId ⟨xs, kw⟩ = checkBuiltinCall newId ⟨xs, []⟩ := by
  simp only [checkBuiltinCall, F.newKind, F.newSplit, F.newRow, F.noStar]
  cases xs <;> rfl
theorem new_names (F : ExcBaseFacts B newId initId bmB) (hT : ∀ X : String, bm.contains (.type X) = bmB.contains (.type X)) {xs : List Value} {kw : List (Str × Value)}
    (hC : h.get? C = some (excClassObj nm q C N bs bm hdct sn sub ab col dd k0 k1 k2 k3 k5 newId)) (hx : xs.length ≤ sizeLine)
    (hq : R (.ok (.ret (.ref (h.objs.size + 1)))) ⟨(h.push (W.kdv_tup xs)).push (excO C h.objs.size), g, d, t, os⟩) : codeAny (model prog w) A (.builtin newId ⟨.ref C :: xs, kw⟩) R ⟨h, g, d, t, os⟩ := by
  have hends := F.ends
  have m1 : (Value.ref C :: bm).contains (.type B) = true := by rw [List.contains_cons, hT, F.hasB, Bool.or_true]
  have m2 : (Value.ref C :: bm).contains (.type "AttributeError") = false := by rw [List.contains_cons, hT, F.noAttr]; rfl
  have m3 : (Value.ref C :: bm).contains (.type "NameError") = false := by rw [List.contains_cons, hT, F.noName]; rfl
  refine PySem.codeAny_builtinAt F.entry ?_
  unfold Builtin.«BaseException.__new__»
  refine PySem.wpAt_bind ?_
  show PySem.wpAt _ _ _ (stack >>= _) _ _ _
  refine PySem.wpAt_bind (PySem.wpAt_stack fun p below => PySem.wpAt_of_wpAny ?_)
  wp_walk
  refine PySem.wpAt_of_wpAny ?_
  rw [F.owner]
  repeat (first | with_reducible refine wpAny_madeHere_exc F.canon hC ?_ | with_reducible refine wpAny_loadPart_at hC ?_ | (with_reducible refine wpAny_isSubtype_exc hC ?_; first | rw [m1] | rw [m2] | rw [m3]) | wp_step)
  show R _ _
  rw [Heap.size_push]
  exact hq
theorem type_names (F : ExcBaseFacts B newId initId bmB) (hT : ∀ X : String, bm.contains (.type X) = bmB.contains (.type X)) {xs : List Value} {kw : List (Str × Value)} {fI : Addr} {Q : Fin → Shared → Prop}
    (hC : h.get? C = some (excClassObj nm q C N bs bm hdct sn sub ab col dd k0 k1 k2 k3 k5 newId)) (hi : W.Looks (model prog w) h (typeLookup (.ref C) "__init__") (some (.ref fI)))
    (hb : ∀ self, W.Looks (model prog w) h (bindSpecial (.ref fI) self) (.ref fI, [self])) (hx : xs.length ≤ sizeLine)
    (hq : codeAny (model prog w) A (.call (.ref fI) ⟨.ref (h.objs.size + 1) :: xs, kw⟩) (fun r s' => match r with | .ok (.ret v) => v = .none ∧ Q (.done (.ret (.ref (h.objs.size + 1)))) s' | .ok _ => False | .error e => E e s')
      ⟨(h.push (W.kdv_tup xs)).push (excO C h.objs.size), g, d, t, os⟩) : wpAny (model prog w) A (Builtin.«type.__call__» ⟨.ref C :: xs, kw⟩) Q E ⟨h, g, d, t, os⟩ := by
  have kp : ∀ b o, h.get? b = some o → ((h.push (W.kdv_tup xs)).push (excO C h.objs.size)).get? b = some o := fun b o e => Heap.get?_push_of_some _ (Heap.get?_push_of_some _ e)
  have hN : ((h.push (W.kdv_tup xs)).push (excO C h.objs.size)).get? (h.objs.size + 1) = some (excO C h.objs.size) := by heap_get
  have hm : (Value.ref C :: bm).contains (.ref C) = true := by simp
  repeat (first | with_reducible refine wpAny_loadPart_at hC ?_ | with_reducible refine wpAny_madeBy_exc hC ?_ | wp_step)
  refine codeAny_call_builtin_code (Code.quiet_builtin _ F.quiet) ?_
  rw [check_names F]
  refine check_new_own F hT hC (new_names F hT hC hx ?_)
  show wpAny _ _ _ _ _ _
  unfold isInstance
  repeat (first | with_reducible refine wpAny_loadPart_at hN ?_ | (with_reducible refine wpAny_isSubtype_exc (kp _ _ hC) ?_; rw [hm]) | wp_step)
  refine (hi.keeps kp).at (wpAny_holding (wpAny_bind (((hb (.ref (h.objs.size + 1))).keeps kp).at (wpAny_bind (wpAny_call (codeAny_mono hq fun r s' z => ?_))))))
  rcases r with e | (v | _ | _ | _) <;> first | exact z | exact z.elim | skip
  obtain ⟨rfl, z⟩ := z
  first
    | exact wpAny_pure (wpAny_pure z)
    | (wp_walk; exact z)
theorem check_type_names {M : Model} {A : Around} {E : Value → Shared → Prop} {xs : List Value} {kw : List (Str × Value)} {Q : Unit → Shared → Prop} (hC : h.get? C = some (excClassObj nm q C N bs bm hdct sn sub ab col dd k0 k1 k2 k3 k5 newId))
    (hq : Q () ⟨h, g, d, t, os⟩) : wpAny M A (checkBuiltinCall "type.__call__" ⟨.ref C :: xs, kw⟩) Q E ⟨h, g, d, t, os⟩ := by
  have z := wpAny_check_type_call_sub (M := M) (A := A) (E := E) (rest := xs) (g := g) (d := d) (t := t) (os := os) (Q := Q) hC hq
  have f3 := tc_sub
  have hT : (⟨h, g, d, t, os⟩ : Shared).TypeIs (.ref C) "type" := ⟨_, hC, rfl⟩
  simp only [checkBuiltinCall, tc_kind, tc_split] at z ⊢
  repeat (any_goals (first | assumption | with_reducible refine wpAny_loadPart_at hC ?_ | with_reducible refine wpAny_onRaise ?_ | with_reducible refine wpAny_map ?_ | wp_step))
theorem call_names (F : ExcBaseFacts B newId initId bmB) (hT : ∀ X : String, bm.contains (.type X) = bmB.contains (.type X)) {xs : List Value} {kw : List (Str × Value)} {fI : Addr}
    (hC : h.get? C = some (excClassObj nm q C N bs bm hdct sn sub ab col dd k0 k1 k2 k3 k5 newId)) (hi : W.Looks (model prog w) h (typeLookup (.ref C) "__init__") (some (.ref fI)))
    (hb : ∀ self, W.Looks (model prog w) h (bindSpecial (.ref fI) self) (.ref fI, [self])) (hx : xs.length ≤ sizeLine)
    (hq : codeAny (model prog w) (A.under (.builtin "type.__call__" ⟨.ref C :: xs, kw⟩)) (.call (.ref fI) ⟨.ref (h.objs.size + 1) :: xs, kw⟩) (W.InitBack (h.objs.size + 1) R) ⟨(h.push (W.kdv_tup xs)).push (excO C h.objs.size), g, d, t, os⟩) :
    codeAny (model prog w) A (.call (.ref C) ⟨xs, kw⟩) R ⟨h, g, d, t, os⟩ := by
  have f1 := tc_lookup
  have f2 := tc_bind (.ref C)
  have hTy : (⟨h, g, d, t, os⟩ : Shared).TypeIs (.ref C) "type" := ⟨_, hC, rfl⟩
  refine codeAny_of_tree ?_
  show wpAny _ _ (callAny (.ref C) _) _ _ _
  repeat (any_goals (first | assumption | with_reducible refine wpAny_loadPart_at hC ?_ | wp_step))
  refine ⟨rfl, codeAny_call_builtin_at (Code.quiet_builtin _ (by decide +kernel)) entry_typeCall (check_type_names hC (type_names F hT hC hi hb hx (codeAny_mono hq fun r s' z => ?_)))⟩
  rcases r with e | (v | _ | _ | _) <;> exact z
end
end Sw
namespace Sw
open PySem PySem.Spec PyProof.Rows L2
/-- C(k = v, ..) as a value -/
def tMkVK (C : Addr) (m : Nat) (sp : Sp) (gV : List V → List V → List V) (tk : TA) : TE := fun σ H Q => tk σ H fun zs H1 => zs.length = m ∧ ∀ a, H1 a = none → sp (gV [.ref a] zs) (upd H1 a (exo a C none)) (fun v H2 => v = .non ∧ Q (.ref a) H2) (fun _ _ _ => False)
section
variable {X : Cx} {kws : List Keyword} {tk : TA} {p pos : Pos}
theorem mkVK_run {CX : CXT} {C fI : Addr} {k : Nat} {fd : FuncData} {ps ks : List Str} {sp : Sp} {g : List Value → List Value → List Value} {gV : List V → List V → List V} {pins : List (Addr × Obj)} {σ : L2.St} {H1 : Hp} {s1 : Shared} {Q : VK} {zs : List V} {ws : List Value} (T : OexC X.K C) (iC : PySem.W.findIn X.K (.ref C) "__init__" = some (some (.ref fI)))
    (tI : PySem.W.typeIn X.K (.ref fI) = some (.type "function")) (F1 : FnOk X.prog X.w X.K X.mg X.base CX k fI fd ps sp) (hr : Room (k + 1) X.A) (hb : KBn X.K fd ps 1 ks g gV) (hx : Passes CX X (fun _ _ _ => False)) (I1 : Inv X pins σ H1 s1) (rz : Vals zs ws) (hl : zs.length = ks.length)
    (q1 : ∀ a, H1 a = none → sp (gV [.ref a] zs) (upd H1 a (exo a C none)) (fun v H2 => v = .non ∧ Q (.ref a) H2) (fun _ _ _ => False)) : wpAny (model X.prog X.w) X.A (call (.ref C) [] (ks.zip ws)) (EP X pins σ Q) X.xe s1 := by
  obtain ⟨nm, q, N, bs, bm, sn, sub, ab, col, dd, k0, k1, k2, k3, k5, hC, hbm⟩ := T.cls
  obtain ⟨hp, gs, dr, tk, os⟩ := s1
  have hsz : hp.objs.size ≤ hp.objs.size + 1 := Nat.le_succ _
  have hq := q1 (hp.objs.size + 1) (I1.hok.fresh hsz)
  have I2 : Inv X pins σ (upd H1 (hp.objs.size + 1) (exo (hp.objs.size + 1) C none)) ⟨(hp.push (PySem.W.kdv_tup [])).push (PySem.HandSPX.excO C hp.objs.size), gs, dr, tk, os⟩ :=
    I1.laid (t' := tk) (fun b o e => Heap.get?_push_of_some _ (Heap.get?_push_of_some _ e)) hsz (exo_ok (t1 := hp.objs.size) (by heap_get))
  have r1 : Vals [V.ref (hp.objs.size + 1)] [Value.ref (hp.objs.size + 1)] := .cons rfl .nil
  refine wpAny_call (call_names F.excBase_ValueError (fun Y => PySem.HandSPX.refsVE_contains Y bm hbm) (I1.kIn _ _ hC) (PySem.W.looks_findIn I1.kIn iC) (fun self => PySem.W.bind_fn I1.kIn self tI) (Nat.zero_le _)
    (codeAny_mono (F1.run _ X.stack _ _ ⟨[Value.ref (hp.objs.size + 1)], ks.zip ws⟩ (g [Value.ref (hp.objs.size + 1)] ws) _ _ (fun _ _ _ => False) (hr.make C [] (ks.zip ws)) (I2.env0.make C [] (ks.zip ws)) (hb.to _ [Value.ref (hp.objs.size + 1)] ws I2.kIn rfl (rz.length.symm.trans hl)) (hb.rel r1 rz) hq) fun r s' hq' => ?_))
  cases r with
  | error er => exact hx pins σ _ _ er s' I2 hq'
  | ok fl =>
    cases fl with
    | ret u =>
      obtain ⟨v, H2, os2, bare2, un2, hok2, rv, ev, q2⟩ := hq'
      subst ev
      obtain ⟨h2, g2, d2, t2, os'⟩ := s'
      exact ⟨rv, .ref (hp.objs.size + 1), H2, I2.call' (ch := []) os2 un2 hok2 bare2 (fun b z => absurd z (by simp)), rfl, q2⟩
    | next => exact False.elim hq'
    | brk => exact False.elim hq'
    | cont => exact False.elim hq'
theorem pe_mkVK {CX : CXT} {x : Str} {C fI : Addr} {k : Nat} {fd : FuncData} {ps ks : List Str} {sp : Sp} {g : List Value → List Value → List Value} {gV : List V → List V → List V} (T : OexC X.K C) (iC : PySem.W.findIn X.K (.ref C) "__init__" = some (some (.ref fI)))
    (tI : PySem.W.typeIn X.K (.ref fI) = some (.type "function")) (F1 : FnOk X.prog X.w X.K X.mg X.base CX k fI fd ps sp) (hr : Room (k + 1) X.A) (hb : KBn X.K fd ps 1 ks g gV) (hx : Passes CX X (fun _ _ _ => False)) (hg : Gl X x) (hm : X.mg x = some (.ref C)) (hkw : PK X kws tk)
    (hall : (backToKw pos (keywordEach kws X.env)).all (·.1.isSome) = true := by rfl) (hks : (backToKw pos (keywordEach kws X.env)).filterMap (·.1) = ks := by rfl) (hdb : (x == ("__debug__" : Str)) = false := by decide)
    (hpl : ((backTo pos (starEach [] X.env)).any (·.1) || (backToKw pos (keywordEach kws X.env)).any (·.1.isNone)) = false := by rfl) : PE X (.Call (.Name x p) [] kws pos) (tMkVK C ks.length sp gV tk) := by
  refine ⟨fun pins s σ H Q I h => ?_⟩
  refine wpAny_Call_Name_kw (ld_glob I hg hm ?_ hdb)
  refine PySem.W.callWith_KW0 (h₀ := X.base) I.ok.mod.kin T.kC hall (thn (hkw.run pos pins s σ H _ I h) fun ws s1 ⟨zs, H1, I1, rz, hl, q1⟩ => ⟨I1.kIn, ?_⟩) hpl
  rw [hks]
  exact mkVK_run T iC tI F1 hr hb hx I1 rz hl q1
end
end Sw
/-! The __init__ of a class of errors: self.value = value, with a default None. -/
namespace Sw
open PySem PySem.Spec PyProof.Rows L2
def scI : Scope := { kind := .function, names := [("self", .local), ("value", .local)], isGenerator := false, isCoroutine := false }
def initBody (p1 p2 p3 pos : Pos) : List Stmt := [.Assign [.Attribute (.Name "self" p1) "value" p2] (.Name "value" p3) pos]
abbrev N_init : List Str := ["self", "value"]
theorem sc_init : FnScope N_init N_init scI := ⟨rfl, rfl, rfl, by decide +kernel, rfl, by decide +kernel, by decide +kernel⟩
def sp_init (K : PySem.W.Frag) : Sp := fun vs H Q _ => ∃ (a C : Addr) (v : V), vs = [.ref a, v] ∧ OexC K C ∧ PySem.W.findIn K (.ref C) "value" = some none ∧ H a = some (exo a C none) ∧ ∀ dx, H dx = none → dx ≠ a → Q .non (upd (upd H dx (exd dx [("value", v)])) a (exo a C (some dx)))
section
variable {P : Program} {w : World} {K : PySem.W.Frag} {mg : Str → Option Value} {base : Heap} {qual : Str} {params : Arguments} {p1 p2 p3 pos : Pos} {f : Addr} {fd : FuncData}
theorem ok_init (F : FunD K "__init__" qual params (initBody p1 p2 p3 pos) scI [.non] [] f fd) : FnOk P w K mg base CX0 1 f fd N_init (sp_init K) := by
  have nd : N_init.Nodup := sc_init.nd
  refine F.ok sc_init (fun vs H Q E h => ?_) (fun cdv A outer s H vs Q E hr h => ?_)
  · obtain ⟨a, C, v, rfl, _⟩ := h
    rfl
  · obtain ⟨a, C, v, rfl, T, hv, he, k⟩ := h
    refine ⟨_, pss_one (ps_ost (pv 0) (pv 1)), ?_⟩
    exact ⟨_, rfl, _, rfl, a, C, rfl, T, hv, .inl ⟨he, fun dx n ne => k dx n ne⟩⟩
def initPar (q1 q2 q3 : Pos) : Arguments := { posonlyargs := [], args := [{ arg := "self", annotation := none, pos := q1 }, { arg := "value", annotation := none, pos := q2 }], vararg := none, kwonlyargs := [], kw_defaults := [], kwarg := none, defaults := [.Constant .none 0 q3] }
variable {q1 q2 q3 : Pos} {body : List Stmt} {scope : Scope}
/-- C(v) -/
theorem init_b2 (F : FunD K "__init__" qual (initPar q1 q2 q3) body scope [.non] [] f fd) : Binds K fd N_init [] := by
  obtain ⟨ds, r, b⟩ := F.binds1 (ps := N_init) 2 1 (by simp) rfl fun T kV doc pm an cdv ct us its h1 h2 => match us, its, h1, h2 with | [_, _], [_], _, _ => ⟨_, rfl, rfl⟩
  cases r
  exact b
/-- C() -/
theorem init_b1 (F : FunD K "__init__" qual (initPar q1 q2 q3) body scope [.non] [] f fd) : Binds K fd N_init [.none] := by
  obtain ⟨ds, r, b⟩ := F.binds1 (ps := N_init) 1 0 (by simp) rfl fun T kV doc pm an cdv ct us its h1 h2 => match us, its, h1, h2 with | [_], [_], _, _ => ⟨_, rfl, rfl⟩
  cases r with
  | cons h t =>
    cases t
    have e := h
    cases e
    exact b
/-- C(value = v) -/
theorem init_bk (F : FunD K "__init__" qual (initPar q1 q2 q3) body scope [.non] [] f fd) : KBn K fd N_init 1 ["value"] (fun us ws => us ++ ws) (fun vs zs => vs ++ zs) := by
  obtain ⟨oc, od, dV, kV, doc, pm, an, cdv, ct, osl, rfl, lk, hcd, hD, hK⟩ := F.ex
  rcases hD with ⟨e, _⟩ | ⟨_, T, o, its, m, rfl, lT, oT, rT⟩
  · exact absurd e (by simp)
  refine ⟨fun s us ws X l1 l2 => BindsTo.of_looks fun M => ?_, fun r1 r2 => r1.append r2⟩
  obtain ⟨u, rfl⟩ := List.length_eq_one_iff.mp l1
  obtain ⟨v, rfl⟩ := List.length_eq_one_iff.mp l2
  obtain ⟨d, rfl⟩ := List.length_eq_one_iff.mp (rT.length.symm : its.length = 1)
  exact looks_items (k := fun o => _) X lT oT (.of_pure rfl)
end
end Sw
namespace Sw
open PySem PySem.Spec PyProof.Rows L2
/-- a known error of the class C, its value v -/
def ErrAt (H : Hp) (a C : Addr) (v : V) : Prop := ∃ dx : Addr, H a = some (exo a C (some dx)) ∧ H dx = some (exd dx [("value", v)])
theorem ErrAt.same {H H' : Hp} {a C : Addr} {v : V} (s : Same H H') (h : ErrAt H a C v) : ErrAt H' a C v := by
  obtain ⟨dx, h1, h2⟩ := h
  exact ⟨dx, s _ _ h1, s _ _ h2⟩
/-- a class of errors with all that its calls need -/
structure ErrI (K : PySem.W.Frag) (mg : Str → Option Value) (x qual : Str) (C fI : Addr) (fd : FuncData) : Prop where
  c : ErrC K mg x C fI
  f : ∃ (p1 p2 p3 pos q1 q2 q3 : Pos), FunD K "__init__" qual (initPar q1 q2 q3) (initBody p1 p2 p3 pos) scI [.non] [] fI fd
section
variable {X : Cx} {x qual : Str} {C fI : Addr} {fd : FuncData} {e : Expr} {es : List Expr} {kws : List Keyword} {ta tk : TA} {p pos : Pos}
theorem err_new {H1 : Hp} {v : V} {Q : VK} (c : ErrC X.K X.mg x C fI) (q : ∀ a H', H1 a = none → Same H1 H' → ErrAt H' a C v → Q (.ref a) H') (a : Addr) (hn : H1 a = none) :
    sp_init X.K [.ref a, v] (upd H1 a (exo a C none)) (fun u H2 => u = .non ∧ Q (.ref a) H2) (fun _ _ _ => False) := by
  refine ⟨a, C, v, rfl, c.o, c.v, upd_same, fun dx n ne => ⟨rfl, q a _ hn (fun b o hb => ?_) ⟨dx, upd_same, by rw [upd_ne ne]; exact upd_same⟩⟩⟩
  have ba : b ≠ a := fun z => by rw [z, hn] at hb; cases hb
  have bd : b ≠ dx := fun z => by rw [upd_ne ne] at n; rw [z, n] at hb; cases hb
  rw [upd_ne ba, upd_ne bd, upd_ne ba]
  exact hb
/-- C(v) -/
def tErr (C : Addr) (ta : TA) : TE := fun σ H Q => ta σ H fun vs H1 => ∃ v, vs = [v] ∧ ∀ a H', H1 a = none → Same H1 H' → ErrAt H' a C v → Q (.ref a) H'
theorem pe_err (h : ErrI X.K X.mg x qual C fI fd) (hr : Room 2 X.A) (hx : Passes CX0 X (fun _ _ _ => False)) (hg : Gl X x) (ha : PA X (e :: es) ta) (hdb : (x == ("__debug__" : Str)) = false := by decide)
    (he : starEach (e :: es) X.env = (false, eval e X.env) :: starEach es X.env := by rfl) (hpl : (backTo pos (starEach es X.env)).any (·.1) = false := by rfl) : PE X (.Call (.Name x p) (e :: es) [] pos) (tErr C ta) := by
  obtain ⟨p1, p2, p3, p4, q1, q2, q3, F⟩ := h.f
  refine ⟨fun pins s σ H Q I g => wpAny_Call_Name_kw (ld_glob I hg h.c.m ?_ hdb)⟩
  refine PySem.W.callWith_K (h₀ := X.base) I.ok.mod.kin h.c.o.kC (thn (ha.run pos pins s σ H _ I g) fun us s1 ⟨vs, H1, I1, r1, v, ev, q⟩ => ⟨I1.kIn, ?_⟩) he hpl
  subst ev
  exact mkV_run h.c.o h.c.i h.c.t (ok_init F) hr (init_b2 F) .nil hx I1 r1 (by simp) (err_new h.c q)
/-- C() -/
def tErr0 (C : Addr) : TE := fun _ H Q => ∀ a H', H a = none → Same H H' → ErrAt H' a C .non → Q (.ref a) H'
theorem pe_err0 (h : ErrI X.K X.mg x qual C fI fd) (hr : Room 2 X.A) (hx : Passes CX0 X (fun _ _ _ => False)) (hg : Gl X x) (hdb : (x == ("__debug__" : Str)) = false := by decide) : PE X (.Call (.Name x p) [] [] pos) (tErr0 C) := by
  obtain ⟨p1, p2, p3, p4, q1, q2, q3, F⟩ := h.f
  refine ⟨fun pins s σ H Q I g => wpAny_Call_Name_kw (ld_glob I hg h.c.m ?_ hdb)⟩
  exact PySem.W.callWith_K0 I.kIn h.c.o.kC (mkV_run (us := []) (vs := []) (dvs := [.non]) h.c.o h.c.i h.c.t (ok_init F) hr (init_b1 F) (.cons rfl .nil) hx I .nil (by simp) (err_new h.c g))
end
end Sw
namespace Sw
open PySem PySem.Spec PyProof.Rows L2
section
variable {X : Cx} {x qual : Str} {C fI : Addr} {fd : FuncData} {kws : List Keyword} {tk : TA} {p pos : Pos}
/-- C(value = v) -/
theorem pe_errK (h : ErrI X.K X.mg x qual C fI fd) (hr : Room 2 X.A) (hx : Passes CX0 X (fun _ _ _ => False)) (hg : Gl X x) (hkw : PK X kws tk) (hall : (backToKw pos (keywordEach kws X.env)).all (·.1.isSome) = true := by rfl)
    (hks : (backToKw pos (keywordEach kws X.env)).filterMap (·.1) = [("value" : Str)] := by rfl) (hdb : (x == ("__debug__" : Str)) = false := by decide)
    (hpl : ((backTo pos (starEach [] X.env)).any (·.1) || (backToKw pos (keywordEach kws X.env)).any (·.1.isNone)) = false := by rfl) : PE X (.Call (.Name x p) [] kws pos) (tErr C tk) := by
  obtain ⟨p1, p2, p3, p4, q1, q2, q3, F⟩ := h.f
  refine ⟨fun pins s σ H Q I g => wpAny_Call_Name_kw (ld_glob I hg h.c.m ?_ hdb)⟩
  refine PySem.W.callWith_KW0 (h₀ := X.base) I.ok.mod.kin h.c.o.kC hall (thn (hkw.run pos pins s σ H _ I g) fun ws s1 ⟨zs, H1, I1, rz, v, ev, q⟩ => ⟨I1.kIn, ?_⟩) hpl
  rw [hks]
  subst ev
  exact mkVK_run h.c.o h.c.i h.c.t (ok_init F) hr (init_bk F) hx I1 rz rfl (err_new h.c q)
end
/-- an ErrI by what the written part says of its __init__ -/
theorem errI_mk {K : PySem.W.Frag} {mg : Str → Option Value} {x qual : Str} {C fI T : Addr} {oc : Value} {od an tdd : Option Addr} {osl tsl : Array (Option Value)} {kV doc pm cdv ct tc : Value} {n : Nat} {p1 p2 p3 pos q1 q2 q3 : Pos} (c : ErrC K mg x C fI)
    (l : K.lookup fI = some ⟨oc, od, .func (PySem.W.fnOf "__init__" qual (initPar q1 q2 q3) (initBody p1 p2 p3 pos) scI (.ref T) kV doc pm an cdv ct), osl⟩) (cd : PySem.W.codeIn K cdv qual = true) (lT : K.lookup T = some ⟨tc, tdd, .seq [Value.none].toArray n, tsl⟩)
    (k : PySem.W.keepIn K (.ref fI) = true) : ∃ fd, ErrI K mg x qual C fI fd :=
  ⟨_, c, p1, p2, p3, pos, q1, q2, q3, ⟨⟨oc, od, .ref T, kV, doc, pm, an, cdv, ct, osl, rfl, l, cd, .inr ⟨by simp, T, _, [.none], n, rfl, lT, rfl, .cons rfl .nil⟩, .inl rfl⟩, k⟩⟩
end Sw
/-! An exception class without an own __init__, called without arguments, as a value. -/
namespace Sw
open PySem PySem.Spec PyProof.Rows L2
section
variable {X : Cx} {C : Addr} {bmB : List Value} {B newId initId : String} {x : Str} {p pos : Pos}
theorem pe_bare0 (F : ExcBaseFacts B newId initId bmB) (q : PySem.W.excIn X.K C bmB newId = true) (gC : X.mg x = some (.ref C)) (kC : PySem.W.keepIn X.K (.ref C) = true) (hg : Gl X x) (hdb : (x == ("__debug__" : Str)) = false := by decide) :
    PE X (.Call (.Name x p) [] [] pos) (fun _ H Q => ∀ a, H a = none → Q (.ref a) (upd H a (exo a C none))) := by
  refine ⟨fun pins s σ H Q I h => wpAny_Call_Name_kw (ld_glob I hg gC ?_ hdb)⟩
  refine PySem.W.callWith_K0 I.kIn kC ?_
  show wpAny _ _ (call (.ref C) []) _ _ _
  obtain ⟨bm, N, nm, qn, bs, hdct, sn, sub, ab, col, dd, k0, k1, k2, k3, k5, mN, hC, hN, hni, T⟩ := exc_obj I.kIn q
  refine wpAny_call_exc_subT F T hC hN hni (fun h' a hm => ?_) (Nat.zero_le _)
  have hn : H a = none := I.hok.gone hm.new
  obtain ⟨t, ht, _, _⟩ := hm.there
  exact ⟨.ref a, upd H a (exo a C none), I.laidN hm.keeps hm.new hn (exo_ok ht), rfl, h a hn⟩
end
end Sw
namespace Sw
open PySem PySem.Spec PyProof.Rows L2
/-- isinstance of a known error asks whether its class stands below: an own class -/
theorem kit_own {K : PySem.W.Frag} {C D : Addr} {b : Bool} (ht : PySem.W.typeIn K (.ref D) = some (.type "type")) (hd : PySem.W.hasDictIn K D = true) (h : PySem.W.subIn K (.ref C) (.ref D) = some b) (hb : C = D → b = true) : PySem.W.kitOne K (.ref C) (.ref D) = some b := by
  unfold PySem.W.kitOne
  by_cases z : C = D
  · subst z
    rw [if_pos (beq_self_eq_true _), hb rfl]
  · rw [if_neg (fun q => z (Value.ref.inj (beq_iff_eq.mp q)))]
    show (if ((PySem.W.clsIn K D).isSome && PySem.W.typeIn K (.ref D) == some (.type "type")) = true then PySem.W.subIn K (.ref C) (.ref D) else none) = some b
    obtain ⟨cd, hc, _⟩ := PySem.W.any_some hd
    rw [if_pos (by rw [hc, ht]; rfl)]
    exact h
/-- a built-in one -/
theorem kit_type {K : PySem.W.Frag} {C : Addr} {n : String} {b : Bool} (hm : PySem.W.kitMeta n = true) (h : PySem.W.subIn K (.ref C) (.type n) = some b) : PySem.W.kitOne K (.ref C) (.type n) = some b := by
  unfold PySem.W.kitOne
  rw [if_neg (show ¬ (Value.ref C == Value.type n) = true from fun q => by have z := beq_iff_eq.mp q; cases z)]
  show (if PySem.W.kitMeta n = true then PySem.W.subIn K (.ref C) (.type n) else none) = some b
  rw [if_pos hm]
  exact h
/-- isinstance(x, D) of a known error -/
theorem ErrAt.isX {K : PySem.W.Frag} {H : Hp} {a C : Addr} {c v : V} {u : Value} {b : Bool} {Q : VK} (e : ErrAt H a C v) (T : ExcC K C) (hu : ∀ w, RelV c w → w = u) (k : PySem.W.kitOne K (.ref C) u = some b) (q : Q (.bl b) H) : rIsX K [.ref a, c] H Q := by
  obtain ⟨dx, h1, h2⟩ := e
  exact ⟨a, C, some dx, c, u, b, rfl, T, h1, fun dd z => by cases z; exact ⟨_, h2⟩, hu, k, q⟩
/-- x.value of a known error -/
theorem ErrAt.val {K : PySem.W.Frag} {mg : Str → Option Value} {x : Str} {H : Hp} {a C fI : Addr} {v : V} {Q : VK} (e : ErrAt H a C v) (c : ErrC K mg x C fI) (q : Q v H) :
    ∃ (a' C' dd : Addr) (fs : List (Str × V)) (u : V), V.ref a = .ref a' ∧ XfC K C' ∧ PySem.W.findIn K (.ref C') "value" = some none ∧ H a' = some (exo a' C' (some dd)) ∧ H dd = some (exd dd fs) ∧ fs.lookup (Str.ofString "value") = some u ∧ Q u H := by
  obtain ⟨dx, h1, h2⟩ := e
  exact ⟨a, C, dx, _, v, rfl, c.x, c.v, h1, h2, List.lookup_cons_self, q⟩
end Sw
/-! The kinds of errors, as a law asks for them. -/
namespace Sw
open PySem PySem.Spec PyProof.Rows L2
/-- C's instances are of the i-th of these kinds and of no other one; of SwapError and ValueError, too -/
structure KindI (ns : List Str) (K : PySem.W.Frag) (i : Nat) (C : Addr) : Prop where
  e : ExcC K C
  x : XfC K C
  v : PySem.W.findIn K (.ref C) "value" = some none
  k : ∀ (j : Nat) (x : Str) (D : Addr), ns[j]? = some x → PySem.W.nsIn K mainGlobals x = some (some (.ref D)) → PySem.W.kitOne K (.ref C) (.ref D) = some (decide (j = i))
  s : ∀ D : Addr, PySem.W.nsIn K mainGlobals "SwapError" = some (some (.ref D)) → PySem.W.kitOne K (.ref C) (.ref D) = some true
  t : PySem.W.kitOne K (.ref C) (.type "ValueError") = some true
def KnownE (ns : List Str) (K : PySem.W.Frag) (H : Hp) (a : Addr) (i : Nat) (v : V) : Prop := ∃ C, KindI ns K i C ∧ ErrAt H a C v
theorem KnownE.same {ns : List Str} {K : PySem.W.Frag} {H H' : Hp} {a : Addr} {i : Nat} {v : V} (s : Same H H') (h : KnownE ns K H a i v) : KnownE ns K H' a i v := by
  obtain ⟨C, h1, h2⟩ := h
  exact ⟨C, h1, h2.same s⟩
/-- one error of each kind, in a list -/
def AllE (ns : List Str) (K : PySem.W.Frag) (H : Hp) (p : Addr) (v : V) : Prop := ∃ as : List Addr, H p = some (.lst (as.map V.ref)) ∧ as.length = 14 ∧ ∀ (i : Nat) (a : Addr), as[i]? = some a → KnownE ns K H a i v
theorem AllE.same {ns : List Str} {K : PySem.W.Frag} {H H' : Hp} {p : Addr} {v : V} (s : Same H H') (h : AllE ns K H p v) : AllE ns K H' p v := by
  obtain ⟨as, h1, h2, h3⟩ := h
  exact ⟨as, s _ _ h1, h2, fun i a e => (h3 i a e).same s⟩
/-- an error of the i-th kind, with or without a value -/
def Known0 (ns : List Str) (K : PySem.W.Frag) (H : Hp) (a : Addr) (i : Nat) : Prop := ∃ (C : Addr) (d : Option Addr), KindI ns K i C ∧ H a = some (exo a C d) ∧ ∀ dd, d = some dd → ∃ fs, H dd = some (exd dd fs)
theorem KnownE.to {ns : List Str} {K : PySem.W.Frag} {H : Hp} {a : Addr} {i : Nat} {v : V} (h : KnownE ns K H a i v) : Known0 ns K H a i := by
  obtain ⟨C, h1, dx, h2, h3⟩ := h
  exact ⟨C, some dx, h1, h2, fun dd z => by cases z; exact ⟨_, h3⟩⟩
theorem Known0.same {ns : List Str} {K : PySem.W.Frag} {H H' : Hp} {a : Addr} {i : Nat} (s : Same H H') (h : Known0 ns K H a i) : Known0 ns K H' a i := by
  obtain ⟨C, d, h1, h2, h3⟩ := h
  exact ⟨C, d, h1, s _ _ h2, fun dd z => by obtain ⟨fs, e⟩ := h3 dd z; exact ⟨fs, s _ _ e⟩⟩
theorem Known0.is {ns : List Str} {K : PySem.W.Frag} {H : Hp} {a D : Addr} {i j : Nat} {x : Str} {Q : VK} (h : Known0 ns K H a i) (hx : ns[j]? = some x) (n : PySem.W.nsIn K mainGlobals x = some (some (.ref D))) (q : Q (.bl (decide (j = i))) H) : rIsX K [.ref a, .ref D] H Q := by
  obtain ⟨C, d, h1, h2, h3⟩ := h
  exact ⟨a, C, d, _, .ref D, _, rfl, h1.e, h2, h3, fun w r => r, h1.k j x D hx n, q⟩
theorem Known0.isSwap {ns : List Str} {K : PySem.W.Frag} {H : Hp} {a D : Addr} {i : Nat} {Q : VK} (h : Known0 ns K H a i) (n : PySem.W.nsIn K mainGlobals "SwapError" = some (some (.ref D))) (q : Q (.bl true) H) : rIsX K [.ref a, .ref D] H Q := by
  obtain ⟨C, d, h1, h2, h3⟩ := h
  exact ⟨a, C, d, _, .ref D, _, rfl, h1.e, h2, h3, fun w r => r, h1.s D n, q⟩
theorem Known0.isValue {ns : List Str} {K : PySem.W.Frag} {H : Hp} {a : Addr} {i : Nat} {Q : VK} (h : Known0 ns K H a i) (q : Q (.bl true) H) : rIsX K [.ref a, .ty "ValueError"] H Q := by
  obtain ⟨C, d, h1, h2, h3⟩ := h
  exact ⟨a, C, d, _, .type "ValueError", _, rfl, h1.e, h2, h3, fun w r => r, h1.t, q⟩
theorem KnownE.val {ns : List Str} {K : PySem.W.Frag} {H : Hp} {a : Addr} {i : Nat} {v : V} {Q : VK} (h : KnownE ns K H a i v) (q : Q v H) :
    ∃ (a' C' dd : Addr) (fs : List (Str × V)) (u : V), V.ref a = .ref a' ∧ XfC K C' ∧ PySem.W.findIn K (.ref C') "value" = some none ∧ H a' = some (exo a' C' (some dd)) ∧ H dd = some (exd dd fs) ∧ fs.lookup (Str.ofString "value") = some u ∧ Q u H := by
  obtain ⟨C, h1, dx, h2, h3⟩ := h
  exact ⟨a, C, dx, _, v, rfl, h1.x, h1.v, h2, h3, List.lookup_cons_self, q⟩
/-- == of plain data, or of dicts -/
def rEqE (K : PySem.W.Frag) : R2 := fun x y H Q => rEqP K x y H Q ∨ rEqV K x y H Q
theorem op_eqE {X : Cx} (hu : X.A.units + 64 < cLine) : OpR X (compareOp .Eq) (rEqE X.K) := by
  intro pins s σ H x y u v Q I r1 r2 h
  rcases h with h | h
  · exact op_eqP hu pins s σ H x y u v Q I r1 r2 h
  · exact op_eqV hu pins s σ H x y u v Q I r1 r2 h
/-- a value that equals itself and is told by repr, whatever comes to stand beside it -/
def GoodV (K : PySem.W.Frag) (H : Hp) (v : V) : Prop :=
  ((∃ d : PyData, (∀ H', Same H H' → Dp K H' v d) ∧ d.plain = true ∧ d.depth ≤ 64 ∧ PyData.eqv d d = true) ∨ ∀ H', Same H H' → ∃ n, n ≤ 60 ∧ EqR K H' (EqV K H' n) v v) ∧ ∃ t, ∀ H', Same H H' → Rp K H' v t
theorem GoodV.eq {K : PySem.W.Frag} {H H' : Hp} {v : V} {Q : VK} (g : GoodV K H v) (s : Same H H') (q : Q (.bl true) H') : rEqE K v v H' Q := by
  rcases g.1 with ⟨d, h1, h2, h3, h4⟩ | h
  · exact .inl ⟨d, d, h1 _ s, h1 _ s, h2, h2, h3, by rw [h4]; exact q⟩
  · obtain ⟨n, h1, h2⟩ := h _ s
    exact .inr ⟨n, h1, h2, q⟩
theorem GoodV.same {K : PySem.W.Frag} {H H' : Hp} {v : V} (g : GoodV K H v) (s : Same H H') : GoodV K H' v := by
  obtain ⟨h, t, ht⟩ := g
  refine ⟨?_, t, fun H2 s2 => ht _ (s.trans s2)⟩
  rcases h with ⟨d, h1, h2⟩ | h
  · exact .inl ⟨d, fun H2 s2 => h1 _ (s.trans s2), h2⟩
  · exact .inr fun H2 s2 => h _ (s.trans s2)
theorem bits_dp {K : PySem.W.Frag} {H : Hp} : ∀ bs : List Bool, DpAll K H (bs.map V.bl) (bs.map PyData.bool)
  | [] => .nil
  | b :: r => .cons (.bl b) (bits_dp r)
theorem bits_plain : ∀ bs : List Bool, PyData.plainAll (bs.map PyData.bool) = true
  | [] => rfl
  | b :: r => by
    show (PyData.plain (.bool b) && PyData.plainAll (r.map PyData.bool)) = true
    rw [bits_plain r]; rfl
theorem bits_lay : ∀ bs : List Bool, PyData.canLayAll0 (bs.map PyData.bool) = true
  | [] => rfl
  | b :: r => by
    show (PyData.canLay0 (.bool b) && PyData.canLayAll0 (r.map PyData.bool)) = true
    rw [bits_lay r]; rfl
theorem bits_depth : ∀ bs : List Bool, PyData.depthAll (bs.map PyData.bool) ≤ 1
  | [] => Nat.zero_le _
  | b :: r => by
    show max (PyData.depth (.bool b)) (PyData.depthAll (r.map PyData.bool)) ≤ 1
    have := bits_depth r
    have e : PyData.depth (.bool b) ≤ 1 := by show _ ≤ 1; first | exact Nat.le_refl _ | exact Nat.zero_le _
    omega
theorem bits_neP {K : PySem.W.Frag} {H : Hp} {a b : Addr} {bs : List Bool} {Q : VK} (ha : SqL K H a (bs.map V.bl)) (hb : SqL K H b (bs.map V.bl)) (q : Q (.bl false) H) : rNeP K (.ref a) (.ref b) H Q := by
  refine ⟨.list (bs.map PyData.bool), .list (bs.map PyData.bool), .lst ha (bits_dp bs), .lst hb (bits_dp bs), bits_plain bs, bits_plain bs, ?_, ?_⟩
  · show PyData.depthAll (bs.map PyData.bool) + 1 ≤ 64
    have := bits_depth bs
    omega
  · rw [PySem.SeqAt.eqv_refl _ (show (PyData.list (bs.map PyData.bool)).canLay0 = true from bits_lay bs)]
    exact q
theorem pe_xvK (K : PySem.W.Frag) {X : Cx} {e : Expr} {pos : Pos} {n : Str} {te : TE} (he : PE X e te) (hK : X.K = K := by rfl) (hb : attributeBase e n X.env (eval e X.env) = eval e X.env := by rfl) : PE X (.Attribute e n pos) (tXv K n te) := hK ▸ pe_xv he hb
theorem op_neK {X : Cx} (K : PySem.W.Frag) (hu : X.A.units + 64 < cLine) (h : X.K = K := by rfl) : OpR X (compareOp .NotEq) (rNeP K) := h ▸ op_neP hu
theorem exo_lst {e C : Addr} {d : Option Addr} {xs : List V} : exo e C d ≠ .lst xs := fun z => by unfold exo at z; cases z
theorem exd_lst {e : Addr} {fs : List (Str × V)} {xs : List V} : exd e fs ≠ .lst xs := fun z => by unfold exd at z; cases z
theorem KnownE.lst {ns : List Str} {K : PySem.W.Frag} {H : Hp} {a o : Addr} {i : Nat} {v : V} {xs ys : List V} (ho : H o = some (.lst xs)) (h : KnownE ns K H a i v) : KnownE ns K (upd H o (.lst ys)) a i v := by
  obtain ⟨C, k, dx, h1, h2⟩ := h
  exact ⟨C, k, dx, by rw [upd_ne (fun z => exo_lst (by rw [← z, h1] at ho; exact Option.some.inj ho))]; exact h1, by rw [upd_ne (fun z => exd_lst (by rw [← z, h2] at ho; exact Option.some.inj ho))]; exact h2⟩
theorem list_neP {K : PySem.W.Frag} {H : Hp} {a b : Addr} {xs : List V} {ds : List PyData} {Q : VK} (ha : SqL K H a xs) (hb : SqL K H b xs) (hd : DpAll K H xs ds) (p : PyData.plain (.list ds) = true) (d : PyData.depth (.list ds) ≤ 64) (l : PyData.canLay0 (.list ds) = true) (q : Q (.bl false) H) : rNeP K (.ref a) (.ref b) H Q :=
  ⟨_, _, .lst ha hd, .lst hb hd, p, p, d, by rw [PySem.SeqAt.eqv_refl _ l]; exact q⟩
theorem kit_ownF {K : PySem.W.Frag} {C D : Addr} {b : Bool} (ht : PySem.W.typeIn K (.ref D) = some (.type "type")) (hd : PySem.W.hasDictIn K D = true) (h : PySem.W.subIn K (.ref C) (.ref D) = some b) (hs : PySem.W.subIn K (.ref C) (.ref C) = some true) : PySem.W.kitOne K (.ref C) (.ref D) = some b :=
  kit_own ht hd h fun z => by rw [← z, hs] at h; exact (Option.some.inj h).symm
end Sw
namespace K05
open PySem PySem.Spec PyProof.Rows L2 Sw
def top (i : Nat) : Stmt := PySem.Challenge.pw_sideswaps_k05_errors_by_their_classes.main.body.getD i (.Pass ⟨0, 0, 0, 0⟩)
abbrev s__law_hash : Stmt := top 19
abbrev N__law_hash : List Str := ["_law_seed", "_law_index", "_law_mixed"]
abbrev P__law_hash : List Str := ["_law_seed", "_law_index"]
theorem sc__law_hash : FnScope N__law_hash P__law_hash (defScope s__law_hash) := ⟨rfl, rfl, rfl, by decide +kernel, rfl, by decide +kernel, by decide +kernel⟩
abbrev s__law_cell : Stmt := top 21
abbrev N__law_cell : List Str := ["_law_script", "_law_index"]
abbrev P__law_cell : List Str := ["_law_script", "_law_index"]
theorem sc__law_cell : FnScope N__law_cell P__law_cell (defScope s__law_cell) := ⟨rfl, rfl, rfl, by decide +kernel, rfl, by decide +kernel, by decide +kernel⟩
abbrev s__law_random : Stmt := top 20
abbrev N__law_random : List Str := ["_law_generator_here", "_law_bound", "_law_drawn", "_law_turn"]
abbrev P__law_random : List Str := ["_law_generator_here", "_law_bound"]
theorem sc__law_random : FnScope N__law_random P__law_random (defScope s__law_random) := ⟨rfl, rfl, rfl, by decide +kernel, rfl, by decide +kernel, by decide +kernel⟩
abbrev s__law_generator : Stmt := top 22
abbrev N__law_generator : List Str := ["_law_script", "_law_index", "_law_seed"]
abbrev P__law_generator : List Str := ["_law_script", "_law_index"]
theorem sc__law_generator : FnScope N__law_generator P__law_generator (defScope s__law_generator) := ⟨rfl, rfl, rfl, by decide +kernel, rfl, by decide +kernel, by decide +kernel⟩
abbrev s__law_made : Stmt := top 23
abbrev N__law_made : List Str := ["_law_value", "_law_found"]
abbrev P__law_made : List Str := ["_law_value"]
theorem sc__law_made : FnScope N__law_made P__law_made (defScope s__law_made) := ⟨rfl, rfl, rfl, by decide +kernel, rfl, by decide +kernel, by decide +kernel⟩
abbrev s__law_named : Stmt := top 24
abbrev N__law_named : List Str := ["_law_value", "_law_found"]
abbrev P__law_named : List Str := ["_law_value"]
theorem sc__law_named : FnScope N__law_named P__law_named (defScope s__law_named) := ⟨rfl, rfl, rfl, by decide +kernel, rfl, by decide +kernel, by decide +kernel⟩
abbrev s__law_empty : Stmt := top 25
abbrev N__law_empty : List Str := ["_law_found"]
abbrev P__law_empty : List Str := []
theorem sc__law_empty : FnScope N__law_empty P__law_empty (defScope s__law_empty) := ⟨rfl, rfl, rfl, by decide +kernel, rfl, by decide +kernel, by decide +kernel⟩
abbrev s__law_kinds : Stmt := top 26
abbrev N__law_kinds : List Str := ["_law_error", "_law_found"]
abbrev P__law_kinds : List Str := ["_law_error"]
theorem sc__law_kinds : FnScope N__law_kinds P__law_kinds (defScope s__law_kinds) := ⟨rfl, rfl, rfl, by decide +kernel, rfl, by decide +kernel, by decide +kernel⟩
abbrev s__law_row_right : Stmt := top 27
abbrev N__law_row_right : List Str := ["_law_errors", "_law_value", "_law_at", "_law_error", "_law_place"]
abbrev P__law_row_right : List Str := ["_law_errors", "_law_value"]
theorem sc__law_row_right : FnScope N__law_row_right P__law_row_right (defScope s__law_row_right) := ⟨rfl, rfl, rfl, by decide +kernel, rfl, by decide +kernel, by decide +kernel⟩
abbrev s_law : Stmt := top 28
abbrev N_law : List Str := ["_law_script", "_law_generator_here", "_law_number", "_law_value", "_law_odd", "_law_grown", "_law_at", "_law_error", "_law_place"]
abbrev P_law : List Str := ["_law_script"]
theorem sc_law : FnScope N_law P_law (defScope s_law) := ⟨rfl, rfl, rfl, by decide +kernel, rfl, by decide +kernel, by decide +kernel⟩
abbrev kindNames : List Str := ["InvalidNumber", "InvalidWord", "InvalidJoints", "InvalidPrices", "InvalidList", "InvalidTrain", "InvalidMachine", "InvalidFar", "InvalidRoad", "InvalidLine", "InvalidDeed", "Unlike", "TooMany", "TooLong", "NothingToUndo", "NothingToRedo"]
structure Txt (K : PySem.W.Frag) (mg : Str → Option Value) where
  f__law_hash : Addr
  fd__law_hash : FuncData
  F__law_hash : Fun K "_law_hash" "_law_hash" s__law_hash f__law_hash fd__law_hash
  m__law_hash : mg "_law_hash" = some (.ref f__law_hash)
  b__law_hash : Binds K fd__law_hash P__law_hash []
  f__law_cell : Addr
  fd__law_cell : FuncData
  F__law_cell : Fun K "_law_cell" "_law_cell" s__law_cell f__law_cell fd__law_cell
  m__law_cell : mg "_law_cell" = some (.ref f__law_cell)
  b__law_cell : Binds K fd__law_cell P__law_cell []
  f__law_random : Addr
  fd__law_random : FuncData
  F__law_random : Fun K "_law_random" "_law_random" s__law_random f__law_random fd__law_random
  m__law_random : mg "_law_random" = some (.ref f__law_random)
  b__law_random : Binds K fd__law_random P__law_random []
  f__law_generator : Addr
  fd__law_generator : FuncData
  F__law_generator : Fun K "_law_generator" "_law_generator" s__law_generator f__law_generator fd__law_generator
  m__law_generator : mg "_law_generator" = some (.ref f__law_generator)
  b__law_generator : Binds K fd__law_generator P__law_generator []
  f__law_made : Addr
  fd__law_made : FuncData
  F__law_made : Fun K "_law_made" "_law_made" s__law_made f__law_made fd__law_made
  m__law_made : mg "_law_made" = some (.ref f__law_made)
  b__law_made : Binds K fd__law_made P__law_made []
  f__law_named : Addr
  fd__law_named : FuncData
  F__law_named : Fun K "_law_named" "_law_named" s__law_named f__law_named fd__law_named
  m__law_named : mg "_law_named" = some (.ref f__law_named)
  b__law_named : Binds K fd__law_named P__law_named []
  f__law_empty : Addr
  fd__law_empty : FuncData
  F__law_empty : Fun K "_law_empty" "_law_empty" s__law_empty f__law_empty fd__law_empty
  m__law_empty : mg "_law_empty" = some (.ref f__law_empty)
  b__law_empty : Binds K fd__law_empty P__law_empty []
  f__law_kinds : Addr
  fd__law_kinds : FuncData
  F__law_kinds : Fun K "_law_kinds" "_law_kinds" s__law_kinds f__law_kinds fd__law_kinds
  m__law_kinds : mg "_law_kinds" = some (.ref f__law_kinds)
  b__law_kinds : Binds K fd__law_kinds P__law_kinds []
  f__law_row_right : Addr
  fd__law_row_right : FuncData
  F__law_row_right : Fun K "_law_row_right" "_law_row_right" s__law_row_right f__law_row_right fd__law_row_right
  m__law_row_right : mg "_law_row_right" = some (.ref f__law_row_right)
  b__law_row_right : Binds K fd__law_row_right P__law_row_right []
  f_law : Addr
  fd_law : FuncData
  F_law : Fun K "law" "law" s_law f_law fd_law
  m_law : mg "law" = some (.ref f_law)
  b_law : Binds K fd_law P_law []
  C_InvalidDeed : Addr
  n_InvalidDeed : PySem.W.nsIn K mainGlobals "InvalidDeed" = some (some (.ref C_InvalidDeed))
  kd_InvalidDeed : KindI kindNames K 10 C_InvalidDeed
  fI_InvalidDeed : Addr
  fc_InvalidDeed : FuncData
  e_InvalidDeed : ErrI K mg "InvalidDeed" "InvalidDeed.__init__" C_InvalidDeed fI_InvalidDeed fc_InvalidDeed
  C_InvalidFar : Addr
  n_InvalidFar : PySem.W.nsIn K mainGlobals "InvalidFar" = some (some (.ref C_InvalidFar))
  kd_InvalidFar : KindI kindNames K 7 C_InvalidFar
  fI_InvalidFar : Addr
  fc_InvalidFar : FuncData
  e_InvalidFar : ErrI K mg "InvalidFar" "InvalidFar.__init__" C_InvalidFar fI_InvalidFar fc_InvalidFar
  C_InvalidJoints : Addr
  n_InvalidJoints : PySem.W.nsIn K mainGlobals "InvalidJoints" = some (some (.ref C_InvalidJoints))
  kd_InvalidJoints : KindI kindNames K 2 C_InvalidJoints
  fI_InvalidJoints : Addr
  fc_InvalidJoints : FuncData
  e_InvalidJoints : ErrI K mg "InvalidJoints" "InvalidJoints.__init__" C_InvalidJoints fI_InvalidJoints fc_InvalidJoints
  C_InvalidLine : Addr
  n_InvalidLine : PySem.W.nsIn K mainGlobals "InvalidLine" = some (some (.ref C_InvalidLine))
  kd_InvalidLine : KindI kindNames K 9 C_InvalidLine
  fI_InvalidLine : Addr
  fc_InvalidLine : FuncData
  e_InvalidLine : ErrI K mg "InvalidLine" "InvalidLine.__init__" C_InvalidLine fI_InvalidLine fc_InvalidLine
  C_InvalidList : Addr
  n_InvalidList : PySem.W.nsIn K mainGlobals "InvalidList" = some (some (.ref C_InvalidList))
  kd_InvalidList : KindI kindNames K 4 C_InvalidList
  fI_InvalidList : Addr
  fc_InvalidList : FuncData
  e_InvalidList : ErrI K mg "InvalidList" "InvalidList.__init__" C_InvalidList fI_InvalidList fc_InvalidList
  C_InvalidMachine : Addr
  n_InvalidMachine : PySem.W.nsIn K mainGlobals "InvalidMachine" = some (some (.ref C_InvalidMachine))
  kd_InvalidMachine : KindI kindNames K 6 C_InvalidMachine
  fI_InvalidMachine : Addr
  fc_InvalidMachine : FuncData
  e_InvalidMachine : ErrI K mg "InvalidMachine" "InvalidMachine.__init__" C_InvalidMachine fI_InvalidMachine fc_InvalidMachine
  C_InvalidNumber : Addr
  n_InvalidNumber : PySem.W.nsIn K mainGlobals "InvalidNumber" = some (some (.ref C_InvalidNumber))
  kd_InvalidNumber : KindI kindNames K 0 C_InvalidNumber
  fI_InvalidNumber : Addr
  fc_InvalidNumber : FuncData
  e_InvalidNumber : ErrI K mg "InvalidNumber" "InvalidNumber.__init__" C_InvalidNumber fI_InvalidNumber fc_InvalidNumber
  C_InvalidPrices : Addr
  n_InvalidPrices : PySem.W.nsIn K mainGlobals "InvalidPrices" = some (some (.ref C_InvalidPrices))
  kd_InvalidPrices : KindI kindNames K 3 C_InvalidPrices
  fI_InvalidPrices : Addr
  fc_InvalidPrices : FuncData
  e_InvalidPrices : ErrI K mg "InvalidPrices" "InvalidPrices.__init__" C_InvalidPrices fI_InvalidPrices fc_InvalidPrices
  C_InvalidRoad : Addr
  n_InvalidRoad : PySem.W.nsIn K mainGlobals "InvalidRoad" = some (some (.ref C_InvalidRoad))
  kd_InvalidRoad : KindI kindNames K 8 C_InvalidRoad
  fI_InvalidRoad : Addr
  fc_InvalidRoad : FuncData
  e_InvalidRoad : ErrI K mg "InvalidRoad" "InvalidRoad.__init__" C_InvalidRoad fI_InvalidRoad fc_InvalidRoad
  C_InvalidTrain : Addr
  n_InvalidTrain : PySem.W.nsIn K mainGlobals "InvalidTrain" = some (some (.ref C_InvalidTrain))
  kd_InvalidTrain : KindI kindNames K 5 C_InvalidTrain
  fI_InvalidTrain : Addr
  fc_InvalidTrain : FuncData
  e_InvalidTrain : ErrI K mg "InvalidTrain" "InvalidTrain.__init__" C_InvalidTrain fI_InvalidTrain fc_InvalidTrain
  C_InvalidWord : Addr
  n_InvalidWord : PySem.W.nsIn K mainGlobals "InvalidWord" = some (some (.ref C_InvalidWord))
  kd_InvalidWord : KindI kindNames K 1 C_InvalidWord
  fI_InvalidWord : Addr
  fc_InvalidWord : FuncData
  e_InvalidWord : ErrI K mg "InvalidWord" "InvalidWord.__init__" C_InvalidWord fI_InvalidWord fc_InvalidWord
  C_NothingToRedo : Addr
  n_NothingToRedo : PySem.W.nsIn K mainGlobals "NothingToRedo" = some (some (.ref C_NothingToRedo))
  kd_NothingToRedo : KindI kindNames K 15 C_NothingToRedo
  m_NothingToRedo : mg "NothingToRedo" = some (.ref C_NothingToRedo)
  q_NothingToRedo : PySem.W.excIn K C_NothingToRedo PySem.HandSPX.veTail "ValueError.__new__" = true
  k_NothingToRedo : PySem.W.keepIn K (.ref C_NothingToRedo) = true
  C_NothingToUndo : Addr
  n_NothingToUndo : PySem.W.nsIn K mainGlobals "NothingToUndo" = some (some (.ref C_NothingToUndo))
  kd_NothingToUndo : KindI kindNames K 14 C_NothingToUndo
  m_NothingToUndo : mg "NothingToUndo" = some (.ref C_NothingToUndo)
  q_NothingToUndo : PySem.W.excIn K C_NothingToUndo PySem.HandSPX.veTail "ValueError.__new__" = true
  k_NothingToUndo : PySem.W.keepIn K (.ref C_NothingToUndo) = true
  C_SwapError : Addr
  n_SwapError : PySem.W.nsIn K mainGlobals "SwapError" = some (some (.ref C_SwapError))
  m_SwapError : mg "SwapError" = some (.ref C_SwapError)
  C_TooLong : Addr
  n_TooLong : PySem.W.nsIn K mainGlobals "TooLong" = some (some (.ref C_TooLong))
  kd_TooLong : KindI kindNames K 13 C_TooLong
  fI_TooLong : Addr
  fc_TooLong : FuncData
  e_TooLong : ErrI K mg "TooLong" "TooLong.__init__" C_TooLong fI_TooLong fc_TooLong
  C_TooMany : Addr
  n_TooMany : PySem.W.nsIn K mainGlobals "TooMany" = some (some (.ref C_TooMany))
  kd_TooMany : KindI kindNames K 12 C_TooMany
  fI_TooMany : Addr
  fc_TooMany : FuncData
  e_TooMany : ErrI K mg "TooMany" "TooMany.__init__" C_TooMany fI_TooMany fc_TooMany
  C_Unlike : Addr
  n_Unlike : PySem.W.nsIn K mainGlobals "Unlike" = some (some (.ref C_Unlike))
  kd_Unlike : KindI kindNames K 11 C_Unlike
  fI_Unlike : Addr
  fc_Unlike : FuncData
  e_Unlike : ErrI K mg "Unlike" "Unlike.__init__" C_Unlike fI_Unlike fc_Unlike
  z_ValueError : mg "ValueError" = none
  z_enumerate : mg "enumerate" = none
  z_int : mg "int" = none
  z_isinstance : mg "isinstance" = none
  z_len : mg "len" = none
  z_max : mg "max" = none
  z_range : mg "range" = none
  z_repr : mg "repr" = none
  z_sum : mg "sum" = none

section
variable {P : Program} {w : World} {K : PySem.W.Frag} {mg : Str → Option Value} {base : Heap}
/-! _law_hash -/
def sp__law_hash : Sp := fun vs H Q _ => ∃ a b : Int, vs = [.int a, .int b] ∧ (0 ≤ a ∧ a < 2147483647) ∧ (0 ≤ b ∧ b ≤ 1000000000) ∧ ∀ r : Int, 0 ≤ r → r < 2147483647 → Q (.int r) H
theorem ok__law_hash (T : Txt K mg) : FnOk P w K mg base CX0 1 T.f__law_hash T.fd__law_hash P__law_hash (sp__law_hash) := by
  have nd : N__law_hash.Nodup := sc__law_hash.nd
  refine T.F__law_hash.ok sc__law_hash (fun vs H Q E h => ?_) (fun cdv A outer s H vs Q E hr h => ?_)
  · obtain ⟨a, b, rfl, _⟩ := h
    rfl
  · obtain ⟨a, b, rfl, ha, hb, k⟩ := h
    refine ⟨_, (pss_cons (ps_set (i := 2) nd rfl (Or.inl rfl) (pe_op op_mod (pe_callTy call_int1 (by rfl) T.z_int (by decide +kernel) (pa_cons (pe_op op_add (pe_op op_add (pe_op op_add (pe_op op_mul (pv 0) pe_int) (pe_op op_mul (pe_op op_mul pe_int (pv 1)) (pv 1))) (pe_op op_mul pe_int (pv 1))) pe_int) pa_nil)) pe_int))
      (pss_cons (ps_set (i := 2) nd rfl (Or.inl rfl) (pe_op op_mod (pe_callTy call_int1 (by rfl) T.z_int (by decide +kernel) (pa_cons (pe_op op_add (pe_op op_add (pe_op op_mul (pv 2) (pv 2)) (pe_op op_mul pe_int (pv 1))) pe_int) pa_nil)) pe_int))
      (pss_one (ps_ret (pe_op op_mod (pe_callTy call_int1 (by rfl) T.z_int (by decide +kernel) (pa_cons (pe_op op_mul (pv 2) pe_int) pa_nil)) pe_int))))), ?_⟩
    refine ⟨_, rfl, _, _, rfl, rfl, .inl ⟨by omega, by omega⟩, _, rfl, _, _, rfl, rfl, .inl ⟨by decide, by decide⟩, _, rfl, _, _, rfl, rfl, .inl ⟨by omega, by omega⟩, ?_⟩
    refine ⟨_, _, rfl, rfl, _, rfl, _, _, rfl, rfl, .inl ⟨by decide, by decide⟩, _, _, rfl, rfl, _, _, rfl, rfl, .inl ⟨_, rfl, ?_⟩⟩
    refine ⟨_, _, rfl, rfl, (by show (0 : Int) < 2147483629; decide), ?_⟩
    refine ⟨_, rfl, _, rfl, _, _, rfl, rfl, .inl ⟨by omega, by omega⟩, _, rfl, _, _, rfl, rfl, .inl ⟨by decide, by decide⟩, _, _, rfl, rfl, _, _, rfl, rfl, .inl ⟨_, rfl, ?_⟩⟩
    refine ⟨_, _, rfl, rfl, (by show (0 : Int) < 2147483587; decide), ?_⟩
    refine ⟨_, rfl, _, _, rfl, rfl, .inl ⟨by omega, by omega⟩, .inl ⟨_, rfl, ?_⟩⟩
    refine ⟨_, _, rfl, rfl, (by show (0 : Int) < 2147483647; decide), ?_⟩
    exact k _ (Int.emod_nonneg _ (by decide)) (Int.emod_lt_of_pos _ (by decide))
/-! _law_cell -/
def sp__law_cell (K : PySem.W.Frag) : Sp := fun vs H Q _ => ∃ (a : Addr) (ns : List Int) (j : Nat), vs = [.ref a, .int (j : Int)] ∧ SqL K H a (ns.map V.int) ∧ ∀ (r : Int) H', Same H H' → Q (.int r) H'
theorem ok__law_cell (T : Txt K mg) : FnOk P w K mg base CX0 1 T.f__law_cell T.fd__law_cell P__law_cell (sp__law_cell K) := by
  have nd : N__law_cell.Nodup := sc__law_cell.nd
  refine T.F__law_cell.ok sc__law_cell (fun vs H Q E h => ?_) (fun cdv A outer s H vs Q E hr h => ?_)
  · obtain ⟨a, ns, j, rfl, _⟩ := h
    rfl
  · obtain ⟨a, ns, j, rfl, hS, k⟩ := h
    refine ⟨_, (pss_cons (ps_if (pt_cmpR op_lt (pv 1) (pe_callB call_len_seq (by rfl) T.z_len (by decide +kernel) (pa_cons (pv 0) pa_nil)) (nomark _)) (pss_one (ps_ret (pe_ix ix_list (pv 0) (pv 1) (fun _ _ => rfl)))) pss_nil)
      (pss_one (ps_ret (pe_op op_mod (pe_callB (cr_sum rfl) (by rfl) T.z_sum (by decide +kernel) (pa_cons (pe_slice sl_list (pv 0) po_none (po_some pe_int)) pa_nil)) pe_int)))), ?_⟩
    refine ⟨_, rfl, _, rfl, a, _, rfl, .inl hS, _, _, rfl, rfl, _, rfl, ite2 (fun q => ?_) (fun q => ?_)⟩
    · have q' : j < ns.length := by have := of_decide_eq_true q; rw [List.length_map] at this; omega
      exact ⟨_, rfl, _, rfl, a, _, _, V.int ns[j], rfl, rfl, hS, atI_nat (by rw [List.getElem?_map, List.getElem?_eq_getElem q']; rfl), k _ _ (Same.refl _)⟩
    · refine ⟨_, rfl, _, rfl, a, _, rfl, hS, fun p hp => ?_⟩
      refine ⟨p, ns.take 1, rfl, SqL.of (by rw [upd_same, cutV_to1]), _, _, rfl, rfl, (by show (0 : Int) < 1000003; decide), k _ _ (Same.upd hp)⟩
/-! _law_random -/
def sp__law_random : Sp := fun vs H Q _ => ∃ (g : Addr) (n : Int) (b : Nat), vs = [.ref g, .int n] ∧ GenAt H g b ∧ b ≤ 900000000 ∧ 0 < n ∧ n.natAbs < 2 ^ 120 ∧ ∀ (r : Int) H', 0 ≤ r → r < n → But g H H' → GenAt H' g (b + 10) → Q (.int r) H'
theorem ok__law_random (T : Txt K mg) : FnOk P w K mg base CX0 2 T.f__law_random T.fd__law_random P__law_random (sp__law_random) := by
  have nd : N__law_random.Nodup := sc__law_random.nd
  refine T.F__law_random.ok sc__law_random (fun vs H Q E h => ?_) (fun cdv A outer s H vs Q E hr h => ?_)
  · obtain ⟨a, n, b, rfl, _⟩ := h
    rfl
  · obtain ⟨g, n, b, rfl, ⟨x, y, z, h0, hx, hy, hz⟩, hb, hn0, hn1, k⟩ := h
    refine ⟨_, (pss_cons (ps_if (pt_cmpR op_gt (pe_ix ix_list (pv 0) pe_int (fun _ _ => rfl)) pe_int (nomark _)) (pss_cons (ps_set (i := 2) nd rfl (Or.inl rfl) (pe_op op_mod (pe_callTy call_int1 (by rfl) T.z_int (by decide +kernel) (pa_cons (pe_ix ix_list (pv 0) pe_int (fun _ _ => rfl)) pa_nil)) (pv 1)))
      (pss_cons (ps_asg (pe_op op_fdivW (pe_ix ix_list (pv 0) pe_int (fun _ _ => rfl)) (pv 1)) (pg_sub (pv 0) pe_int set_list))
      (pss_one (ps_ret (pv 2))))) pss_nil)
      (pss_cons (ps_set (i := 2) nd rfl (Or.inl rfl) pe_int)
      (pss_cons (ps_for PassesOwn.never rfl (pi_range1 rfl T.z_range (pa_cons (pe_op op_add pe_int (pe_op op_fdivW (pe_bits (pv 1)) pe_int)) pa_nil)) (pg_name (i := 3) nd rfl (Or.inl rfl))
      (pss_cons (ps_asg (pe_op op_add (pe_ix ix_list (pv 0) pe_int (fun _ _ => rfl)) pe_int) (pg_sub (pv 0) pe_int set_list))
      (pss_one (ps_set (i := 2) nd rfl (Or.inl rfl) (pe_op op_add (pe_op op_mul (pv 2) pe_int) (pe_call (ok__law_hash T) (hr.mono (by decide)) rfl T.m__law_hash T.F__law_hash.kp T.b__law_hash .nil pass0 (pa_cons (pe_ix ix_list (pv 0) pe_int (fun _ _ => rfl)) (pa_cons (pe_ix ix_list (pv 0) pe_int (fun _ _ => rfl)) pa_nil))))))))
      (pss_one (ps_ret (pe_op op_mod (pe_callTy call_int1 (by rfl) T.z_int (by decide +kernel) (pa_cons (pv 2) pa_nil)) (pv 1))))))), ?_⟩
    have rd : ∀ {H' : Hp} {x y z : Int}, H' g = some (.lst [.int x, .int y, .int z]) → SqL K H' g [.int x, .int y, .int z] := fun q => SqL.of q
    refine ⟨_, rfl, g, _, _, V.int x, rfl, rfl, rd h0, rfl, _, _, rfl, rfl, _, rfl, ?_⟩
    refine ite2 (fun q => ?_) (fun q => ?_)
    · refine ⟨_, rfl, g, _, _, V.int x, rfl, rfl, rd h0, rfl, .inl ⟨_, rfl, _, rfl, _, _, rfl, rfl, hn0, ?_⟩⟩
      refine ⟨_, rfl, g, _, _, V.int x, rfl, rfl, rd h0, rfl, _, rfl, _, _, rfl, rfl, wide_div hn0 hn1 (by decide) (by decide), ?_⟩
      refine ⟨_, rfl, g, _, _, 0, rfl, rfl, h0, rfl, _, rfl, ?_⟩
      refine k _ _ (Int.emod_nonneg _ (by omega)) (Int.emod_lt_of_pos _ hn0) But.upd ⟨x / n, y, z, upd_same, ⟨Int.ediv_nonneg hx.1 (by omega), ?_⟩, hy, hz.1, by omega⟩
      exact wide_le (Int.ediv_nonneg hx.1 (by omega)) (Int.ediv_le_self _ hx.1) hx.2
    · have hbits : Builtin.Int.intBits n ≤ 121 := by
        have := PySem.Flt.log2_lt_of (by decide) hn1
        unfold Builtin.Int.intBits
        split <;> omega
      refine ⟨_, rfl, _, rfl, _, _, rfl, rfl, wide_div (b := 5) (by decide) (by decide) (by decide) (by decide), _, _, rfl, rfl, ?_⟩
      refine ⟨_, rfl, by omega, by omega, ?_⟩
      refine for_range (lo := 0) (n := ((1 : Int) + ((Builtin.Int.intBits n : Nat) : Int) / 30).toNat) (fun i σ H' => ∃ (d w : Int) (v : Option V), σ = [some (.ref g), some (.int n), some (.int d), v] ∧ But g H H' ∧ H' g = some (.lst [.int x, .int y, .int w]) ∧ 0 ≤ w ∧ w ≤ z + i) ⟨0, z, none, rfl, But.refl _ _, h0, hz.1, by omega⟩ ?_ ?_
      · rintro i σ H1 hi ⟨d, w, v, rfl, b1, g1, w0, w1⟩
        refine ⟨_, rfl, g, _, _, V.int w, rfl, rfl, rd g1, rfl, _, _, rfl, rfl, ?_⟩
        refine ⟨_, rfl, g, _, _, 2, rfl, rfl, g1, rfl, ?_⟩
        have g2 : upd H1 g (.lst [.int x, .int y, .int (w + 1)]) g = some (.lst [.int x, .int y, .int (w + 1)]) := upd_same
        refine ⟨_, rfl, _, _, rfl, rfl, .inr ⟨by decide, by decide⟩, _, rfl, g, _, _, V.int y, rfl, rfl, rd g2, rfl, _, rfl, g, _, _, V.int (w + 1), rfl, rfl, rd g2, rfl, y, w + 1, rfl, hy, ⟨by omega, by omega⟩, fun r r0 r1 => ?_⟩
        refine ⟨_, _, rfl, rfl, ?_⟩
        exact ⟨_, w + 1, _, rfl, b1.trans But.upd, g2, by omega, by omega⟩
      · rintro σ H1 ⟨d, w, v, rfl, b1, g1, w0, w1⟩
        refine ⟨_, rfl, .inl ⟨_, rfl, _, rfl, _, _, rfl, rfl, hn0, ?_⟩⟩
        exact k _ _ (Int.emod_nonneg _ (by omega)) (Int.emod_lt_of_pos _ hn0) b1 ⟨x, y, w, g1, hx, hy, w0, by omega⟩
/-! _law_generator -/
def sp__law_generator (K : PySem.W.Frag) : Sp := fun vs H Q _ => ∃ (a : Addr) (ns : List Int) (j : Nat), vs = [.ref a, .int (j : Int)] ∧ SqL K H a (ns.map V.int) ∧ j ≤ 1000 ∧ ∀ (g : Addr) H', H g = none → Same H H' → GenAt H' g (1000 * j) → Q (.ref g) H'
theorem ok__law_generator (T : Txt K mg) : FnOk P w K mg base CX0 2 T.f__law_generator T.fd__law_generator P__law_generator (sp__law_generator K) := by
  have nd : N__law_generator.Nodup := sc__law_generator.nd
  refine T.F__law_generator.ok sc__law_generator (fun vs H Q E h => ?_) (fun cdv A outer s H vs Q E hr h => ?_)
  · obtain ⟨a, ns, j, rfl, _⟩ := h
    rfl
  · obtain ⟨a, ns, j, rfl, hS, hj, k⟩ := h
    refine ⟨_, (pss_cons (ps_set (i := 2) nd rfl (Or.inl rfl) (pe_call (ok__law_cell T) (hr.mono (by decide)) rfl T.m__law_cell T.F__law_cell.kp T.b__law_cell .nil pass0 (pa_cons (pv 0) (pa_cons (pv 1) pa_nil))))
      (pss_one (ps_ret (pe_lst (pa_cons (pe_op op_mod (pe_callTy call_int1 (by rfl) T.z_int (by decide +kernel) (pa_cons (pe_callB (call_max2 rfl) (by rfl) T.z_max (by decide +kernel) (pa_cons (pe_op op_sub (pv 2) (pe_op op_powW pe_int pe_int)) (pa_cons pe_int pa_nil))) pa_nil)) (pe_op op_powW (pe_op op_powW pe_int pe_int) pe_int)) (pa_cons (pe_op op_mod (pe_callTy call_int1 (by rfl) T.z_int (by decide +kernel) (pa_cons (pv 2) pa_nil)) pe_int) (pa_cons (pe_op op_mul pe_int (pv 1)) pa_nil))))))), ?_⟩
    refine ⟨_, rfl, _, rfl, a, ns, j, rfl, hS, fun r H1 s1 => ?_⟩
    refine ⟨_, rfl, _, _, rfl, rfl, ⟨by decide, by decide +kernel⟩, _, _, rfl, rfl, _, _, rfl, .inl ⟨_, rfl, ?_⟩⟩
    refine ⟨_, _, rfl, rfl, ⟨by decide, by decide +kernel⟩, _, _, rfl, rfl, ⟨by decide, by decide +kernel⟩, _, _, rfl, rfl, (by show (0 : Int) < (10 ^ (60 : Int).toNat) ^ (10 : Int).toNat; decide +kernel), ?_⟩
    refine ⟨_, rfl, .inl ⟨_, rfl, _, _, rfl, rfl, (by show (0 : Int) < 2147483647; decide), _, rfl, _, _, rfl, rfl, .inl ⟨by decide, by decide⟩, (by show 3 ≤ sizeLine; decide), fun p hp => ?_⟩⟩
    refine k p _ (s1.free hp) (s1.trans (Same.upd hp)) ⟨_, _, _, upd_same, seed_ok _, ⟨Int.emod_nonneg _ (by decide), Int.emod_lt_of_pos _ (by decide)⟩, by omega, by omega⟩
/-! _law_made -/
def sp__law_made (K : PySem.W.Frag) : Sp := fun vs H Q _ => ∃ (v : V), vs = [v] ∧ ∀ p H', H p = none → Same H H' → AllE kindNames K H' p v → Q (.ref p) H'
theorem ok__law_made (T : Txt K mg) : FnOk P w K mg base CX0 4 T.f__law_made T.fd__law_made P__law_made (sp__law_made K) := by
  have nd : N__law_made.Nodup := sc__law_made.nd
  refine T.F__law_made.ok sc__law_made (fun vs H Q E h => ?_) (fun cdv A outer s H vs Q E hr h => ?_)
  · obtain ⟨v, rfl, _⟩ := h
    rfl
  · obtain ⟨v, rfl, k⟩ := h
    refine ⟨_, (pss_cons (ps_set (i := 1) nd rfl (Or.inl rfl) (pe_lst (pa_cons (pe_err T.e_InvalidNumber (hr.mono (by decide)) pass0 rfl (pa_cons (pv 0) pa_nil)) (pa_cons (pe_err T.e_InvalidWord (hr.mono (by decide)) pass0 rfl (pa_cons (pv 0) pa_nil)) (pa_cons (pe_err T.e_InvalidJoints (hr.mono (by decide)) pass0 rfl (pa_cons (pv 0) pa_nil)) (pa_cons (pe_err T.e_InvalidPrices (hr.mono (by decide)) pass0 rfl (pa_cons (pv 0) pa_nil)) (pa_cons (pe_err T.e_InvalidList (hr.mono (by decide)) pass0 rfl (pa_cons (pv 0) pa_nil)) pa_nil)))))))
      (pss_cons (ps_set (i := 1) nd rfl (Or.inl rfl) (pe_op op_cat (pv 1) (pe_lst (pa_cons (pe_err T.e_InvalidTrain (hr.mono (by decide)) pass0 rfl (pa_cons (pv 0) pa_nil)) (pa_cons (pe_err T.e_InvalidMachine (hr.mono (by decide)) pass0 rfl (pa_cons (pv 0) pa_nil)) (pa_cons (pe_err T.e_InvalidFar (hr.mono (by decide)) pass0 rfl (pa_cons (pv 0) pa_nil)) (pa_cons (pe_err T.e_InvalidRoad (hr.mono (by decide)) pass0 rfl (pa_cons (pv 0) pa_nil)) pa_nil)))))))
      (pss_one (ps_ret (pe_op op_cat (pv 1) (pe_lst (pa_cons (pe_err T.e_InvalidLine (hr.mono (by decide)) pass0 rfl (pa_cons (pv 0) pa_nil)) (pa_cons (pe_err T.e_InvalidDeed (hr.mono (by decide)) pass0 rfl (pa_cons (pv 0) pa_nil)) (pa_cons (pe_err T.e_Unlike (hr.mono (by decide)) pass0 rfl (pa_cons (pv 0) pa_nil)) (pa_cons (pe_err T.e_TooMany (hr.mono (by decide)) pass0 rfl (pa_cons (pv 0) pa_nil)) (pa_cons (pe_err T.e_TooLong (hr.mono (by decide)) pass0 rfl (pa_cons (pv 0) pa_nil)) pa_nil))))))))))), ?_⟩
    refine ⟨_, rfl, v, rfl, fun a0 H1 n0 s0 e0 => ?_⟩
    refine ⟨_, rfl, v, rfl, fun a1 H2 n1 s1 e1 => ?_⟩
    refine ⟨_, rfl, v, rfl, fun a2 H3 n2 s2 e2 => ?_⟩
    refine ⟨_, rfl, v, rfl, fun a3 H4 n3 s3 e3 => ?_⟩
    refine ⟨_, rfl, v, rfl, fun a4 H5 n4 s4 e4 => ?_⟩
    refine ⟨(by show 5 ≤ sizeLine; decide), ?_⟩
    intro l0 hn_l0
    generalize hX_l0 : L2.upd _ l0 _ = H6
    have s_l0 := alloc_same hX_l0 hn_l0
    have d_l0 := alloc_at hX_l0
    refine ⟨_, rfl, ?_⟩
    refine ⟨_, rfl, v, rfl, fun a5 H7 n5 s5 e5 => ?_⟩
    refine ⟨_, rfl, v, rfl, fun a6 H8 n6 s6 e6 => ?_⟩
    refine ⟨_, rfl, v, rfl, fun a7 H9 n7 s7 e7 => ?_⟩
    refine ⟨_, rfl, v, rfl, fun a8 H10 n8 s8 e8 => ?_⟩
    refine ⟨(by show 4 ≤ sizeLine; decide), ?_⟩
    intro l1 hn_l1
    generalize hX_l1 : L2.upd _ l1 _ = H11
    have s_l1 := alloc_same hX_l1 hn_l1
    have d_l1 := alloc_at hX_l1
    refine ⟨l0, l1, _, _, rfl, rfl, ((s5.trans (s6.trans (s7.trans (s8.trans s_l1))))) _ _ d_l0, d_l1, small_le (by simp; done), ?_⟩
    intro c1 hn_c1
    generalize hX_c1 : L2.upd _ c1 _ = H12
    have s_c1 := alloc_same hX_c1 hn_c1
    have d_c1 := alloc_at hX_c1
    refine ⟨_, rfl, ?_⟩
    refine ⟨_, rfl, v, rfl, fun a9 H13 n9 s9 e9 => ?_⟩
    refine ⟨_, rfl, v, rfl, fun a10 H14 n10 s10 e10 => ?_⟩
    refine ⟨_, rfl, v, rfl, fun a11 H15 n11 s11 e11 => ?_⟩
    refine ⟨_, rfl, v, rfl, fun a12 H16 n12 s12 e12 => ?_⟩
    refine ⟨_, rfl, v, rfl, fun a13 H17 n13 s13 e13 => ?_⟩
    refine ⟨(by show 5 ≤ sizeLine; decide), ?_⟩
    intro l2 hn_l2
    generalize hX_l2 : L2.upd _ l2 _ = H18
    have s_l2 := alloc_same hX_l2 hn_l2
    have d_l2 := alloc_at hX_l2
    refine ⟨c1, l2, _, _, rfl, rfl, ((s9.trans (s10.trans (s11.trans (s12.trans (s13.trans s_l2)))))) _ _ d_c1, d_l2, small_le (by simp; done), ?_⟩
    intro c2 hn_c2
    generalize hX_c2 : L2.upd _ c2 _ = H19
    have s_c2 := alloc_same hX_c2 hn_c2
    have d_c2 := alloc_at hX_c2
    refine k c2 _ ((s0.trans (s1.trans (s2.trans (s3.trans (s4.trans (s_l0.trans (s5.trans (s6.trans (s7.trans (s8.trans (s_l1.trans (s_c1.trans (s9.trans (s10.trans (s11.trans (s12.trans (s13.trans s_l2))))))))))))))))).free hn_c2) ((s0.trans (s1.trans (s2.trans (s3.trans (s4.trans (s_l0.trans (s5.trans (s6.trans (s7.trans (s8.trans (s_l1.trans (s_c1.trans (s9.trans (s10.trans (s11.trans (s12.trans (s13.trans (s_l2.trans s_c2))))))))))))))))))) ⟨[a0, a1, a2, a3, a4, a5, a6, a7, a8, a9, a10, a11, a12, a13], (by rw [d_c2]; rfl), rfl, fun i a h => ?_⟩
    match i, h with
    | 0, h => cases h; exact KnownE.same (s1.trans (s2.trans (s3.trans (s4.trans (s_l0.trans (s5.trans (s6.trans (s7.trans (s8.trans (s_l1.trans (s_c1.trans (s9.trans (s10.trans (s11.trans (s12.trans (s13.trans (s_l2.trans s_c2))))))))))))))))) ⟨_, T.kd_InvalidNumber, e0⟩
    | 1, h => cases h; exact KnownE.same (s2.trans (s3.trans (s4.trans (s_l0.trans (s5.trans (s6.trans (s7.trans (s8.trans (s_l1.trans (s_c1.trans (s9.trans (s10.trans (s11.trans (s12.trans (s13.trans (s_l2.trans s_c2)))))))))))))))) ⟨_, T.kd_InvalidWord, e1⟩
    | 2, h => cases h; exact KnownE.same (s3.trans (s4.trans (s_l0.trans (s5.trans (s6.trans (s7.trans (s8.trans (s_l1.trans (s_c1.trans (s9.trans (s10.trans (s11.trans (s12.trans (s13.trans (s_l2.trans s_c2))))))))))))))) ⟨_, T.kd_InvalidJoints, e2⟩
    | 3, h => cases h; exact KnownE.same (s4.trans (s_l0.trans (s5.trans (s6.trans (s7.trans (s8.trans (s_l1.trans (s_c1.trans (s9.trans (s10.trans (s11.trans (s12.trans (s13.trans (s_l2.trans s_c2)))))))))))))) ⟨_, T.kd_InvalidPrices, e3⟩
    | 4, h => cases h; exact KnownE.same (s_l0.trans (s5.trans (s6.trans (s7.trans (s8.trans (s_l1.trans (s_c1.trans (s9.trans (s10.trans (s11.trans (s12.trans (s13.trans (s_l2.trans s_c2))))))))))))) ⟨_, T.kd_InvalidList, e4⟩
    | 5, h => cases h; exact KnownE.same (s6.trans (s7.trans (s8.trans (s_l1.trans (s_c1.trans (s9.trans (s10.trans (s11.trans (s12.trans (s13.trans (s_l2.trans s_c2))))))))))) ⟨_, T.kd_InvalidTrain, e5⟩
    | 6, h => cases h; exact KnownE.same (s7.trans (s8.trans (s_l1.trans (s_c1.trans (s9.trans (s10.trans (s11.trans (s12.trans (s13.trans (s_l2.trans s_c2)))))))))) ⟨_, T.kd_InvalidMachine, e6⟩
    | 7, h => cases h; exact KnownE.same (s8.trans (s_l1.trans (s_c1.trans (s9.trans (s10.trans (s11.trans (s12.trans (s13.trans (s_l2.trans s_c2))))))))) ⟨_, T.kd_InvalidFar, e7⟩
    | 8, h => cases h; exact KnownE.same (s_l1.trans (s_c1.trans (s9.trans (s10.trans (s11.trans (s12.trans (s13.trans (s_l2.trans s_c2)))))))) ⟨_, T.kd_InvalidRoad, e8⟩
    | 9, h => cases h; exact KnownE.same (s10.trans (s11.trans (s12.trans (s13.trans (s_l2.trans s_c2))))) ⟨_, T.kd_InvalidLine, e9⟩
    | 10, h => cases h; exact KnownE.same (s11.trans (s12.trans (s13.trans (s_l2.trans s_c2)))) ⟨_, T.kd_InvalidDeed, e10⟩
    | 11, h => cases h; exact KnownE.same (s12.trans (s13.trans (s_l2.trans s_c2))) ⟨_, T.kd_Unlike, e11⟩
    | 12, h => cases h; exact KnownE.same (s13.trans (s_l2.trans s_c2)) ⟨_, T.kd_TooMany, e12⟩
    | 13, h => cases h; exact KnownE.same (s_l2.trans s_c2) ⟨_, T.kd_TooLong, e13⟩
    | n + 14, h => simp at h
/-! _law_named -/
def sp__law_named (K : PySem.W.Frag) : Sp := fun vs H Q _ => ∃ (v : V), vs = [v] ∧ ∀ p H', H p = none → Same H H' → AllE kindNames K H' p v → Q (.ref p) H'
theorem ok__law_named (T : Txt K mg) : FnOk P w K mg base CX0 4 T.f__law_named T.fd__law_named P__law_named (sp__law_named K) := by
  have nd : N__law_named.Nodup := sc__law_named.nd
  refine T.F__law_named.ok sc__law_named (fun vs H Q E h => ?_) (fun cdv A outer s H vs Q E hr h => ?_)
  · obtain ⟨v, rfl, _⟩ := h
    rfl
  · obtain ⟨v, rfl, k⟩ := h
    refine ⟨_, (pss_cons (ps_set (i := 1) nd rfl (Or.inl rfl) (pe_lst (pa_cons (pe_errK T.e_InvalidNumber (hr.mono (by decide)) pass0 rfl (pk_cons (pv 0) pk_nil)) (pa_cons (pe_errK T.e_InvalidWord (hr.mono (by decide)) pass0 rfl (pk_cons (pv 0) pk_nil)) (pa_cons (pe_errK T.e_InvalidJoints (hr.mono (by decide)) pass0 rfl (pk_cons (pv 0) pk_nil)) pa_nil)))))
      (pss_cons (ps_set (i := 1) nd rfl (Or.inl rfl) (pe_op op_cat (pv 1) (pe_lst (pa_cons (pe_errK T.e_InvalidPrices (hr.mono (by decide)) pass0 rfl (pk_cons (pv 0) pk_nil)) (pa_cons (pe_errK T.e_InvalidList (hr.mono (by decide)) pass0 rfl (pk_cons (pv 0) pk_nil)) (pa_cons (pe_errK T.e_InvalidTrain (hr.mono (by decide)) pass0 rfl (pk_cons (pv 0) pk_nil)) pa_nil))))))
      (pss_cons (ps_set (i := 1) nd rfl (Or.inl rfl) (pe_op op_cat (pv 1) (pe_lst (pa_cons (pe_errK T.e_InvalidMachine (hr.mono (by decide)) pass0 rfl (pk_cons (pv 0) pk_nil)) (pa_cons (pe_errK T.e_InvalidFar (hr.mono (by decide)) pass0 rfl (pk_cons (pv 0) pk_nil)) (pa_cons (pe_errK T.e_InvalidRoad (hr.mono (by decide)) pass0 rfl (pk_cons (pv 0) pk_nil)) pa_nil))))))
      (pss_cons (ps_set (i := 1) nd rfl (Or.inl rfl) (pe_op op_cat (pv 1) (pe_lst (pa_cons (pe_errK T.e_InvalidLine (hr.mono (by decide)) pass0 rfl (pk_cons (pv 0) pk_nil)) (pa_cons (pe_errK T.e_InvalidDeed (hr.mono (by decide)) pass0 rfl (pk_cons (pv 0) pk_nil)) pa_nil)))))
      (pss_one (ps_ret (pe_op op_cat (pv 1) (pe_lst (pa_cons (pe_errK T.e_Unlike (hr.mono (by decide)) pass0 rfl (pk_cons (pv 0) pk_nil)) (pa_cons (pe_errK T.e_TooMany (hr.mono (by decide)) pass0 rfl (pk_cons (pv 0) pk_nil)) (pa_cons (pe_errK T.e_TooLong (hr.mono (by decide)) pass0 rfl (pk_cons (pv 0) pk_nil)) pa_nil))))))))))), ?_⟩
    refine ⟨_, rfl, v, rfl, fun a0 H1 n0 s0 e0 => ?_⟩
    refine ⟨_, rfl, v, rfl, fun a1 H2 n1 s1 e1 => ?_⟩
    refine ⟨_, rfl, v, rfl, fun a2 H3 n2 s2 e2 => ?_⟩
    refine ⟨(by show 3 ≤ sizeLine; decide), ?_⟩
    intro l0 hn_l0
    generalize hX_l0 : L2.upd _ l0 _ = H4
    have s_l0 := alloc_same hX_l0 hn_l0
    have d_l0 := alloc_at hX_l0
    refine ⟨_, rfl, ?_⟩
    refine ⟨_, rfl, v, rfl, fun a3 H5 n3 s3 e3 => ?_⟩
    refine ⟨_, rfl, v, rfl, fun a4 H6 n4 s4 e4 => ?_⟩
    refine ⟨_, rfl, v, rfl, fun a5 H7 n5 s5 e5 => ?_⟩
    refine ⟨(by show 3 ≤ sizeLine; decide), ?_⟩
    intro l1 hn_l1
    generalize hX_l1 : L2.upd _ l1 _ = H8
    have s_l1 := alloc_same hX_l1 hn_l1
    have d_l1 := alloc_at hX_l1
    refine ⟨l0, l1, _, _, rfl, rfl, ((s3.trans (s4.trans (s5.trans s_l1)))) _ _ d_l0, d_l1, small_le (by simp; done), ?_⟩
    intro c1 hn_c1
    generalize hX_c1 : L2.upd _ c1 _ = H9
    have s_c1 := alloc_same hX_c1 hn_c1
    have d_c1 := alloc_at hX_c1
    refine ⟨_, rfl, ?_⟩
    refine ⟨_, rfl, v, rfl, fun a6 H10 n6 s6 e6 => ?_⟩
    refine ⟨_, rfl, v, rfl, fun a7 H11 n7 s7 e7 => ?_⟩
    refine ⟨_, rfl, v, rfl, fun a8 H12 n8 s8 e8 => ?_⟩
    refine ⟨(by show 3 ≤ sizeLine; decide), ?_⟩
    intro l2 hn_l2
    generalize hX_l2 : L2.upd _ l2 _ = H13
    have s_l2 := alloc_same hX_l2 hn_l2
    have d_l2 := alloc_at hX_l2
    refine ⟨c1, l2, _, _, rfl, rfl, ((s6.trans (s7.trans (s8.trans s_l2)))) _ _ d_c1, d_l2, small_le (by simp; done), ?_⟩
    intro c2 hn_c2
    generalize hX_c2 : L2.upd _ c2 _ = H14
    have s_c2 := alloc_same hX_c2 hn_c2
    have d_c2 := alloc_at hX_c2
    refine ⟨_, rfl, ?_⟩
    refine ⟨_, rfl, v, rfl, fun a9 H15 n9 s9 e9 => ?_⟩
    refine ⟨_, rfl, v, rfl, fun a10 H16 n10 s10 e10 => ?_⟩
    refine ⟨(by show 2 ≤ sizeLine; decide), ?_⟩
    intro l3 hn_l3
    generalize hX_l3 : L2.upd _ l3 _ = H17
    have s_l3 := alloc_same hX_l3 hn_l3
    have d_l3 := alloc_at hX_l3
    refine ⟨c2, l3, _, _, rfl, rfl, ((s9.trans (s10.trans s_l3))) _ _ d_c2, d_l3, small_le (by simp; done), ?_⟩
    intro c3 hn_c3
    generalize hX_c3 : L2.upd _ c3 _ = H18
    have s_c3 := alloc_same hX_c3 hn_c3
    have d_c3 := alloc_at hX_c3
    refine ⟨_, rfl, ?_⟩
    refine ⟨_, rfl, v, rfl, fun a11 H19 n11 s11 e11 => ?_⟩
    refine ⟨_, rfl, v, rfl, fun a12 H20 n12 s12 e12 => ?_⟩
    refine ⟨_, rfl, v, rfl, fun a13 H21 n13 s13 e13 => ?_⟩
    refine ⟨(by show 3 ≤ sizeLine; decide), ?_⟩
    intro l4 hn_l4
    generalize hX_l4 : L2.upd _ l4 _ = H22
    have s_l4 := alloc_same hX_l4 hn_l4
    have d_l4 := alloc_at hX_l4
    refine ⟨c3, l4, _, _, rfl, rfl, ((s11.trans (s12.trans (s13.trans s_l4)))) _ _ d_c3, d_l4, small_le (by simp; done), ?_⟩
    intro c4 hn_c4
    generalize hX_c4 : L2.upd _ c4 _ = H23
    have s_c4 := alloc_same hX_c4 hn_c4
    have d_c4 := alloc_at hX_c4
    refine k c4 _ ((s0.trans (s1.trans (s2.trans (s_l0.trans (s3.trans (s4.trans (s5.trans (s_l1.trans (s_c1.trans (s6.trans (s7.trans (s8.trans (s_l2.trans (s_c2.trans (s9.trans (s10.trans (s_l3.trans (s_c3.trans (s11.trans (s12.trans (s13.trans s_l4))))))))))))))))))))).free hn_c4) ((s0.trans (s1.trans (s2.trans (s_l0.trans (s3.trans (s4.trans (s5.trans (s_l1.trans (s_c1.trans (s6.trans (s7.trans (s8.trans (s_l2.trans (s_c2.trans (s9.trans (s10.trans (s_l3.trans (s_c3.trans (s11.trans (s12.trans (s13.trans (s_l4.trans s_c4))))))))))))))))))))))) ⟨[a0, a1, a2, a3, a4, a5, a6, a7, a8, a9, a10, a11, a12, a13], (by rw [d_c4]; rfl), rfl, fun i a h => ?_⟩
    match i, h with
    | 0, h => cases h; exact KnownE.same (s1.trans (s2.trans (s_l0.trans (s3.trans (s4.trans (s5.trans (s_l1.trans (s_c1.trans (s6.trans (s7.trans (s8.trans (s_l2.trans (s_c2.trans (s9.trans (s10.trans (s_l3.trans (s_c3.trans (s11.trans (s12.trans (s13.trans (s_l4.trans s_c4))))))))))))))))))))) ⟨_, T.kd_InvalidNumber, e0⟩
    | 1, h => cases h; exact KnownE.same (s2.trans (s_l0.trans (s3.trans (s4.trans (s5.trans (s_l1.trans (s_c1.trans (s6.trans (s7.trans (s8.trans (s_l2.trans (s_c2.trans (s9.trans (s10.trans (s_l3.trans (s_c3.trans (s11.trans (s12.trans (s13.trans (s_l4.trans s_c4)))))))))))))))))))) ⟨_, T.kd_InvalidWord, e1⟩
    | 2, h => cases h; exact KnownE.same (s_l0.trans (s3.trans (s4.trans (s5.trans (s_l1.trans (s_c1.trans (s6.trans (s7.trans (s8.trans (s_l2.trans (s_c2.trans (s9.trans (s10.trans (s_l3.trans (s_c3.trans (s11.trans (s12.trans (s13.trans (s_l4.trans s_c4))))))))))))))))))) ⟨_, T.kd_InvalidJoints, e2⟩
    | 3, h => cases h; exact KnownE.same (s4.trans (s5.trans (s_l1.trans (s_c1.trans (s6.trans (s7.trans (s8.trans (s_l2.trans (s_c2.trans (s9.trans (s10.trans (s_l3.trans (s_c3.trans (s11.trans (s12.trans (s13.trans (s_l4.trans s_c4))))))))))))))))) ⟨_, T.kd_InvalidPrices, e3⟩
    | 4, h => cases h; exact KnownE.same (s5.trans (s_l1.trans (s_c1.trans (s6.trans (s7.trans (s8.trans (s_l2.trans (s_c2.trans (s9.trans (s10.trans (s_l3.trans (s_c3.trans (s11.trans (s12.trans (s13.trans (s_l4.trans s_c4)))))))))))))))) ⟨_, T.kd_InvalidList, e4⟩
    | 5, h => cases h; exact KnownE.same (s_l1.trans (s_c1.trans (s6.trans (s7.trans (s8.trans (s_l2.trans (s_c2.trans (s9.trans (s10.trans (s_l3.trans (s_c3.trans (s11.trans (s12.trans (s13.trans (s_l4.trans s_c4))))))))))))))) ⟨_, T.kd_InvalidTrain, e5⟩
    | 6, h => cases h; exact KnownE.same (s7.trans (s8.trans (s_l2.trans (s_c2.trans (s9.trans (s10.trans (s_l3.trans (s_c3.trans (s11.trans (s12.trans (s13.trans (s_l4.trans s_c4)))))))))))) ⟨_, T.kd_InvalidMachine, e6⟩
    | 7, h => cases h; exact KnownE.same (s8.trans (s_l2.trans (s_c2.trans (s9.trans (s10.trans (s_l3.trans (s_c3.trans (s11.trans (s12.trans (s13.trans (s_l4.trans s_c4))))))))))) ⟨_, T.kd_InvalidFar, e7⟩
    | 8, h => cases h; exact KnownE.same (s_l2.trans (s_c2.trans (s9.trans (s10.trans (s_l3.trans (s_c3.trans (s11.trans (s12.trans (s13.trans (s_l4.trans s_c4)))))))))) ⟨_, T.kd_InvalidRoad, e8⟩
    | 9, h => cases h; exact KnownE.same (s10.trans (s_l3.trans (s_c3.trans (s11.trans (s12.trans (s13.trans (s_l4.trans s_c4))))))) ⟨_, T.kd_InvalidLine, e9⟩
    | 10, h => cases h; exact KnownE.same (s_l3.trans (s_c3.trans (s11.trans (s12.trans (s13.trans (s_l4.trans s_c4)))))) ⟨_, T.kd_InvalidDeed, e10⟩
    | 11, h => cases h; exact KnownE.same (s12.trans (s13.trans (s_l4.trans s_c4))) ⟨_, T.kd_Unlike, e11⟩
    | 12, h => cases h; exact KnownE.same (s13.trans (s_l4.trans s_c4)) ⟨_, T.kd_TooMany, e12⟩
    | 13, h => cases h; exact KnownE.same (s_l4.trans s_c4) ⟨_, T.kd_TooLong, e13⟩
    | n + 14, h => simp at h
/-! _law_empty -/
def sp__law_empty (K : PySem.W.Frag) : Sp := fun vs H Q _ => vs = [] ∧ ∀ p H', H p = none → Same H H' → AllE kindNames K H' p .non → Q (.ref p) H'
theorem ok__law_empty (T : Txt K mg) : FnOk P w K mg base CX0 4 T.f__law_empty T.fd__law_empty P__law_empty (sp__law_empty K) := by
  have nd : N__law_empty.Nodup := sc__law_empty.nd
  refine T.F__law_empty.ok sc__law_empty (fun vs H Q E h => ?_) (fun cdv A outer s H vs Q E hr h => ?_)
  · obtain ⟨rfl, _⟩ := h
    rfl
  · obtain ⟨rfl, k⟩ := h
    refine ⟨_, (pss_cons (ps_set (i := 0) nd rfl (Or.inl rfl) (pe_lst (pa_cons (pe_err0 T.e_InvalidNumber (hr.mono (by decide)) pass0 rfl) (pa_cons (pe_err0 T.e_InvalidWord (hr.mono (by decide)) pass0 rfl) (pa_cons (pe_err0 T.e_InvalidJoints (hr.mono (by decide)) pass0 rfl) (pa_cons (pe_err0 T.e_InvalidPrices (hr.mono (by decide)) pass0 rfl) (pa_cons (pe_err0 T.e_InvalidList (hr.mono (by decide)) pass0 rfl) (pa_cons (pe_err0 T.e_InvalidTrain (hr.mono (by decide)) pass0 rfl) pa_nil))))))))
      (pss_cons (ps_set (i := 0) nd rfl (Or.inl rfl) (pe_op op_cat (pv 0) (pe_lst (pa_cons (pe_err0 T.e_InvalidMachine (hr.mono (by decide)) pass0 rfl) (pa_cons (pe_err0 T.e_InvalidFar (hr.mono (by decide)) pass0 rfl) (pa_cons (pe_err0 T.e_InvalidRoad (hr.mono (by decide)) pass0 rfl) (pa_cons (pe_err0 T.e_InvalidLine (hr.mono (by decide)) pass0 rfl) (pa_cons (pe_err0 T.e_InvalidDeed (hr.mono (by decide)) pass0 rfl) (pa_cons (pe_err0 T.e_Unlike (hr.mono (by decide)) pass0 rfl) (pa_cons (pe_err0 T.e_TooMany (hr.mono (by decide)) pass0 rfl) pa_nil))))))))))
      (pss_one (ps_ret (pe_op op_cat (pv 0) (pe_lst (pa_cons (pe_err0 T.e_TooLong (hr.mono (by decide)) pass0 rfl) pa_nil))))))), ?_⟩
    refine fun a0 H1 n0 s0 e0 => ?_
    refine fun a1 H2 n1 s1 e1 => ?_
    refine fun a2 H3 n2 s2 e2 => ?_
    refine fun a3 H4 n3 s3 e3 => ?_
    refine fun a4 H5 n4 s4 e4 => ?_
    refine fun a5 H6 n5 s5 e5 => ?_
    refine ⟨(by show 6 ≤ sizeLine; decide), ?_⟩
    intro l0 hn_l0
    generalize hX_l0 : L2.upd _ l0 _ = H7
    have s_l0 := alloc_same hX_l0 hn_l0
    have d_l0 := alloc_at hX_l0
    refine ⟨_, rfl, ?_⟩
    refine fun a6 H8 n6 s6 e6 => ?_
    refine fun a7 H9 n7 s7 e7 => ?_
    refine fun a8 H10 n8 s8 e8 => ?_
    refine fun a9 H11 n9 s9 e9 => ?_
    refine fun a10 H12 n10 s10 e10 => ?_
    refine fun a11 H13 n11 s11 e11 => ?_
    refine fun a12 H14 n12 s12 e12 => ?_
    refine ⟨(by show 7 ≤ sizeLine; decide), ?_⟩
    intro l1 hn_l1
    generalize hX_l1 : L2.upd _ l1 _ = H15
    have s_l1 := alloc_same hX_l1 hn_l1
    have d_l1 := alloc_at hX_l1
    refine ⟨l0, l1, _, _, rfl, rfl, ((s6.trans (s7.trans (s8.trans (s9.trans (s10.trans (s11.trans (s12.trans s_l1)))))))) _ _ d_l0, d_l1, small_le (by simp; done), ?_⟩
    intro c1 hn_c1
    generalize hX_c1 : L2.upd _ c1 _ = H16
    have s_c1 := alloc_same hX_c1 hn_c1
    have d_c1 := alloc_at hX_c1
    refine ⟨_, rfl, ?_⟩
    refine fun a13 H17 n13 s13 e13 => ?_
    refine ⟨(by show 1 ≤ sizeLine; decide), ?_⟩
    intro l2 hn_l2
    generalize hX_l2 : L2.upd _ l2 _ = H18
    have s_l2 := alloc_same hX_l2 hn_l2
    have d_l2 := alloc_at hX_l2
    refine ⟨c1, l2, _, _, rfl, rfl, ((s13.trans s_l2)) _ _ d_c1, d_l2, small_le (by simp; done), ?_⟩
    intro c2 hn_c2
    generalize hX_c2 : L2.upd _ c2 _ = H19
    have s_c2 := alloc_same hX_c2 hn_c2
    have d_c2 := alloc_at hX_c2
    refine k c2 _ ((s0.trans (s1.trans (s2.trans (s3.trans (s4.trans (s5.trans (s_l0.trans (s6.trans (s7.trans (s8.trans (s9.trans (s10.trans (s11.trans (s12.trans (s_l1.trans (s_c1.trans (s13.trans s_l2))))))))))))))))).free hn_c2) ((s0.trans (s1.trans (s2.trans (s3.trans (s4.trans (s5.trans (s_l0.trans (s6.trans (s7.trans (s8.trans (s9.trans (s10.trans (s11.trans (s12.trans (s_l1.trans (s_c1.trans (s13.trans (s_l2.trans s_c2))))))))))))))))))) ⟨[a0, a1, a2, a3, a4, a5, a6, a7, a8, a9, a10, a11, a12, a13], (by rw [d_c2]; rfl), rfl, fun i a h => ?_⟩
    match i, h with
    | 0, h => cases h; exact KnownE.same (s1.trans (s2.trans (s3.trans (s4.trans (s5.trans (s_l0.trans (s6.trans (s7.trans (s8.trans (s9.trans (s10.trans (s11.trans (s12.trans (s_l1.trans (s_c1.trans (s13.trans (s_l2.trans s_c2))))))))))))))))) ⟨_, T.kd_InvalidNumber, e0⟩
    | 1, h => cases h; exact KnownE.same (s2.trans (s3.trans (s4.trans (s5.trans (s_l0.trans (s6.trans (s7.trans (s8.trans (s9.trans (s10.trans (s11.trans (s12.trans (s_l1.trans (s_c1.trans (s13.trans (s_l2.trans s_c2)))))))))))))))) ⟨_, T.kd_InvalidWord, e1⟩
    | 2, h => cases h; exact KnownE.same (s3.trans (s4.trans (s5.trans (s_l0.trans (s6.trans (s7.trans (s8.trans (s9.trans (s10.trans (s11.trans (s12.trans (s_l1.trans (s_c1.trans (s13.trans (s_l2.trans s_c2))))))))))))))) ⟨_, T.kd_InvalidJoints, e2⟩
    | 3, h => cases h; exact KnownE.same (s4.trans (s5.trans (s_l0.trans (s6.trans (s7.trans (s8.trans (s9.trans (s10.trans (s11.trans (s12.trans (s_l1.trans (s_c1.trans (s13.trans (s_l2.trans s_c2)))))))))))))) ⟨_, T.kd_InvalidPrices, e3⟩
    | 4, h => cases h; exact KnownE.same (s5.trans (s_l0.trans (s6.trans (s7.trans (s8.trans (s9.trans (s10.trans (s11.trans (s12.trans (s_l1.trans (s_c1.trans (s13.trans (s_l2.trans s_c2))))))))))))) ⟨_, T.kd_InvalidList, e4⟩
    | 5, h => cases h; exact KnownE.same (s_l0.trans (s6.trans (s7.trans (s8.trans (s9.trans (s10.trans (s11.trans (s12.trans (s_l1.trans (s_c1.trans (s13.trans (s_l2.trans s_c2)))))))))))) ⟨_, T.kd_InvalidTrain, e5⟩
    | 6, h => cases h; exact KnownE.same (s7.trans (s8.trans (s9.trans (s10.trans (s11.trans (s12.trans (s_l1.trans (s_c1.trans (s13.trans (s_l2.trans s_c2)))))))))) ⟨_, T.kd_InvalidMachine, e6⟩
    | 7, h => cases h; exact KnownE.same (s8.trans (s9.trans (s10.trans (s11.trans (s12.trans (s_l1.trans (s_c1.trans (s13.trans (s_l2.trans s_c2))))))))) ⟨_, T.kd_InvalidFar, e7⟩
    | 8, h => cases h; exact KnownE.same (s9.trans (s10.trans (s11.trans (s12.trans (s_l1.trans (s_c1.trans (s13.trans (s_l2.trans s_c2)))))))) ⟨_, T.kd_InvalidRoad, e8⟩
    | 9, h => cases h; exact KnownE.same (s10.trans (s11.trans (s12.trans (s_l1.trans (s_c1.trans (s13.trans (s_l2.trans s_c2))))))) ⟨_, T.kd_InvalidLine, e9⟩
    | 10, h => cases h; exact KnownE.same (s11.trans (s12.trans (s_l1.trans (s_c1.trans (s13.trans (s_l2.trans s_c2)))))) ⟨_, T.kd_InvalidDeed, e10⟩
    | 11, h => cases h; exact KnownE.same (s12.trans (s_l1.trans (s_c1.trans (s13.trans (s_l2.trans s_c2))))) ⟨_, T.kd_Unlike, e11⟩
    | 12, h => cases h; exact KnownE.same (s_l1.trans (s_c1.trans (s13.trans (s_l2.trans s_c2)))) ⟨_, T.kd_TooMany, e12⟩
    | 13, h => cases h; exact KnownE.same (s_l2.trans s_c2) ⟨_, T.kd_TooLong, e13⟩
    | n + 14, h => simp at h
/-! _law_kinds -/
def sp__law_kinds (K : PySem.W.Frag) : Sp := fun vs H Q _ => ∃ (a : Addr) (i : Nat), vs = [.ref a] ∧ Known0 kindNames K H a i ∧ ∀ p H', H p = none → Same H H' → H' p = some (.lst ((List.range 16).map fun j => V.bl (decide (j = i)))) → Q (.ref p) H'
theorem ok__law_kinds (T : Txt K mg) : FnOk P w K mg base CX0 4 T.f__law_kinds T.fd__law_kinds P__law_kinds (sp__law_kinds K) := by
  have nd : N__law_kinds.Nodup := sc__law_kinds.nd
  refine T.F__law_kinds.ok sc__law_kinds (fun vs H Q E h => ?_) (fun cdv A outer s H vs Q E hr h => ?_)
  · obtain ⟨a, i, rfl, _⟩ := h
    rfl
  · obtain ⟨a, i, rfl, he, k⟩ := h
    refine ⟨_, (pss_cons (ps_set (i := 1) nd rfl (Or.inl rfl) (pe_lst (pa_cons (pe_callB cr_isX (by rfl) T.z_isinstance (by decide +kernel) (pa_cons (pv 0) (pa_cons (pe_glob (v := .ref T.C_InvalidNumber) rfl T.e_InvalidNumber.c.m rfl) pa_nil))) (pa_cons (pe_callB cr_isX (by rfl) T.z_isinstance (by decide +kernel) (pa_cons (pv 0) (pa_cons (pe_glob (v := .ref T.C_InvalidWord) rfl T.e_InvalidWord.c.m rfl) pa_nil))) (pa_cons (pe_callB cr_isX (by rfl) T.z_isinstance (by decide +kernel) (pa_cons (pv 0) (pa_cons (pe_glob (v := .ref T.C_InvalidJoints) rfl T.e_InvalidJoints.c.m rfl) pa_nil))) pa_nil)))))
      (pss_cons (ps_set (i := 1) nd rfl (Or.inl rfl) (pe_op op_cat (pv 1) (pe_lst (pa_cons (pe_callB cr_isX (by rfl) T.z_isinstance (by decide +kernel) (pa_cons (pv 0) (pa_cons (pe_glob (v := .ref T.C_InvalidPrices) rfl T.e_InvalidPrices.c.m rfl) pa_nil))) (pa_cons (pe_callB cr_isX (by rfl) T.z_isinstance (by decide +kernel) (pa_cons (pv 0) (pa_cons (pe_glob (v := .ref T.C_InvalidList) rfl T.e_InvalidList.c.m rfl) pa_nil))) (pa_cons (pe_callB cr_isX (by rfl) T.z_isinstance (by decide +kernel) (pa_cons (pv 0) (pa_cons (pe_glob (v := .ref T.C_InvalidTrain) rfl T.e_InvalidTrain.c.m rfl) pa_nil))) pa_nil))))))
      (pss_cons (ps_set (i := 1) nd rfl (Or.inl rfl) (pe_op op_cat (pv 1) (pe_lst (pa_cons (pe_callB cr_isX (by rfl) T.z_isinstance (by decide +kernel) (pa_cons (pv 0) (pa_cons (pe_glob (v := .ref T.C_InvalidMachine) rfl T.e_InvalidMachine.c.m rfl) pa_nil))) (pa_cons (pe_callB cr_isX (by rfl) T.z_isinstance (by decide +kernel) (pa_cons (pv 0) (pa_cons (pe_glob (v := .ref T.C_InvalidFar) rfl T.e_InvalidFar.c.m rfl) pa_nil))) (pa_cons (pe_callB cr_isX (by rfl) T.z_isinstance (by decide +kernel) (pa_cons (pv 0) (pa_cons (pe_glob (v := .ref T.C_InvalidRoad) rfl T.e_InvalidRoad.c.m rfl) pa_nil))) pa_nil))))))
      (pss_cons (ps_set (i := 1) nd rfl (Or.inl rfl) (pe_op op_cat (pv 1) (pe_lst (pa_cons (pe_callB cr_isX (by rfl) T.z_isinstance (by decide +kernel) (pa_cons (pv 0) (pa_cons (pe_glob (v := .ref T.C_InvalidLine) rfl T.e_InvalidLine.c.m rfl) pa_nil))) (pa_cons (pe_callB cr_isX (by rfl) T.z_isinstance (by decide +kernel) (pa_cons (pv 0) (pa_cons (pe_glob (v := .ref T.C_InvalidDeed) rfl T.e_InvalidDeed.c.m rfl) pa_nil))) (pa_cons (pe_callB cr_isX (by rfl) T.z_isinstance (by decide +kernel) (pa_cons (pv 0) (pa_cons (pe_glob (v := .ref T.C_Unlike) rfl T.e_Unlike.c.m rfl) pa_nil))) pa_nil))))))
      (pss_cons (ps_set (i := 1) nd rfl (Or.inl rfl) (pe_op op_cat (pv 1) (pe_lst (pa_cons (pe_callB cr_isX (by rfl) T.z_isinstance (by decide +kernel) (pa_cons (pv 0) (pa_cons (pe_glob (v := .ref T.C_TooMany) rfl T.e_TooMany.c.m rfl) pa_nil))) (pa_cons (pe_callB cr_isX (by rfl) T.z_isinstance (by decide +kernel) (pa_cons (pv 0) (pa_cons (pe_glob (v := .ref T.C_TooLong) rfl T.e_TooLong.c.m rfl) pa_nil))) pa_nil)))))
      (pss_one (ps_ret (pe_op op_cat (pv 1) (pe_lst (pa_cons (pe_callB cr_isX (by rfl) T.z_isinstance (by decide +kernel) (pa_cons (pv 0) (pa_cons (pe_glob (v := .ref T.C_NothingToUndo) rfl T.m_NothingToUndo rfl) pa_nil))) (pa_cons (pe_callB cr_isX (by rfl) T.z_isinstance (by decide +kernel) (pa_cons (pv 0) (pa_cons (pe_glob (v := .ref T.C_NothingToRedo) rfl T.m_NothingToRedo rfl) pa_nil))) pa_nil))))))))))), ?_⟩
    obtain ⟨C0, d0, k1, k2, k3⟩ := he.same (fun _ _ e => e)
    refine ⟨_, rfl, a, C0, d0, _, _, _, rfl, k1.e, k2, k3, fun w r => r, k1.k 0 _ _ rfl T.n_InvalidNumber, ?_⟩
    refine ⟨_, rfl, a, C0, d0, _, _, _, rfl, k1.e, k2, k3, fun w r => r, k1.k 1 _ _ rfl T.n_InvalidWord, ?_⟩
    refine ⟨_, rfl, a, C0, d0, _, _, _, rfl, k1.e, k2, k3, fun w r => r, k1.k 2 _ _ rfl T.n_InvalidJoints, ?_⟩
    refine ⟨(by show 3 ≤ sizeLine; decide), ?_⟩
    intro l0 hn_l0
    generalize hX_l0 : L2.upd _ l0 _ = H1
    have s_l0 := alloc_same hX_l0 hn_l0
    have d_l0 := alloc_at hX_l0
    obtain ⟨C0, d0, k1, k2, k3⟩ := he.same s_l0
    refine ⟨_, rfl, _, rfl, a, C0, d0, _, _, _, rfl, k1.e, k2, k3, fun w r => r, k1.k 3 _ _ rfl T.n_InvalidPrices, ?_⟩
    refine ⟨_, rfl, a, C0, d0, _, _, _, rfl, k1.e, k2, k3, fun w r => r, k1.k 4 _ _ rfl T.n_InvalidList, ?_⟩
    refine ⟨_, rfl, a, C0, d0, _, _, _, rfl, k1.e, k2, k3, fun w r => r, k1.k 5 _ _ rfl T.n_InvalidTrain, ?_⟩
    refine ⟨(by show 3 ≤ sizeLine; decide), ?_⟩
    intro l1 hn_l1
    generalize hX_l1 : L2.upd _ l1 _ = H2
    have s_l1 := alloc_same hX_l1 hn_l1
    have d_l1 := alloc_at hX_l1
    refine ⟨l0, l1, _, _, rfl, rfl, (s_l1) _ _ d_l0, d_l1, small_le (by simp; done), ?_⟩
    intro c1 hn_c1
    generalize hX_c1 : L2.upd _ c1 _ = H3
    have s_c1 := alloc_same hX_c1 hn_c1
    have d_c1 := alloc_at hX_c1
    obtain ⟨C0, d0, k1, k2, k3⟩ := he.same (s_l0.trans (s_l1.trans s_c1))
    refine ⟨_, rfl, _, rfl, a, C0, d0, _, _, _, rfl, k1.e, k2, k3, fun w r => r, k1.k 6 _ _ rfl T.n_InvalidMachine, ?_⟩
    refine ⟨_, rfl, a, C0, d0, _, _, _, rfl, k1.e, k2, k3, fun w r => r, k1.k 7 _ _ rfl T.n_InvalidFar, ?_⟩
    refine ⟨_, rfl, a, C0, d0, _, _, _, rfl, k1.e, k2, k3, fun w r => r, k1.k 8 _ _ rfl T.n_InvalidRoad, ?_⟩
    refine ⟨(by show 3 ≤ sizeLine; decide), ?_⟩
    intro l2 hn_l2
    generalize hX_l2 : L2.upd _ l2 _ = H4
    have s_l2 := alloc_same hX_l2 hn_l2
    have d_l2 := alloc_at hX_l2
    refine ⟨c1, l2, _, _, rfl, rfl, (s_l2) _ _ d_c1, d_l2, small_le (by simp; done), ?_⟩
    intro c2 hn_c2
    generalize hX_c2 : L2.upd _ c2 _ = H5
    have s_c2 := alloc_same hX_c2 hn_c2
    have d_c2 := alloc_at hX_c2
    obtain ⟨C0, d0, k1, k2, k3⟩ := he.same (s_l0.trans (s_l1.trans (s_c1.trans (s_l2.trans s_c2))))
    refine ⟨_, rfl, _, rfl, a, C0, d0, _, _, _, rfl, k1.e, k2, k3, fun w r => r, k1.k 9 _ _ rfl T.n_InvalidLine, ?_⟩
    refine ⟨_, rfl, a, C0, d0, _, _, _, rfl, k1.e, k2, k3, fun w r => r, k1.k 10 _ _ rfl T.n_InvalidDeed, ?_⟩
    refine ⟨_, rfl, a, C0, d0, _, _, _, rfl, k1.e, k2, k3, fun w r => r, k1.k 11 _ _ rfl T.n_Unlike, ?_⟩
    refine ⟨(by show 3 ≤ sizeLine; decide), ?_⟩
    intro l3 hn_l3
    generalize hX_l3 : L2.upd _ l3 _ = H6
    have s_l3 := alloc_same hX_l3 hn_l3
    have d_l3 := alloc_at hX_l3
    refine ⟨c2, l3, _, _, rfl, rfl, (s_l3) _ _ d_c2, d_l3, small_le (by simp; done), ?_⟩
    intro c3 hn_c3
    generalize hX_c3 : L2.upd _ c3 _ = H7
    have s_c3 := alloc_same hX_c3 hn_c3
    have d_c3 := alloc_at hX_c3
    obtain ⟨C0, d0, k1, k2, k3⟩ := he.same (s_l0.trans (s_l1.trans (s_c1.trans (s_l2.trans (s_c2.trans (s_l3.trans s_c3))))))
    refine ⟨_, rfl, _, rfl, a, C0, d0, _, _, _, rfl, k1.e, k2, k3, fun w r => r, k1.k 12 _ _ rfl T.n_TooMany, ?_⟩
    refine ⟨_, rfl, a, C0, d0, _, _, _, rfl, k1.e, k2, k3, fun w r => r, k1.k 13 _ _ rfl T.n_TooLong, ?_⟩
    refine ⟨(by show 2 ≤ sizeLine; decide), ?_⟩
    intro l4 hn_l4
    generalize hX_l4 : L2.upd _ l4 _ = H8
    have s_l4 := alloc_same hX_l4 hn_l4
    have d_l4 := alloc_at hX_l4
    refine ⟨c3, l4, _, _, rfl, rfl, (s_l4) _ _ d_c3, d_l4, small_le (by simp; done), ?_⟩
    intro c4 hn_c4
    generalize hX_c4 : L2.upd _ c4 _ = H9
    have s_c4 := alloc_same hX_c4 hn_c4
    have d_c4 := alloc_at hX_c4
    obtain ⟨C0, d0, k1, k2, k3⟩ := he.same (s_l0.trans (s_l1.trans (s_c1.trans (s_l2.trans (s_c2.trans (s_l3.trans (s_c3.trans (s_l4.trans s_c4))))))))
    refine ⟨_, rfl, _, rfl, a, C0, d0, _, _, _, rfl, k1.e, k2, k3, fun w r => r, k1.k 14 _ _ rfl T.n_NothingToUndo, ?_⟩
    refine ⟨_, rfl, a, C0, d0, _, _, _, rfl, k1.e, k2, k3, fun w r => r, k1.k 15 _ _ rfl T.n_NothingToRedo, ?_⟩
    refine ⟨(by show 2 ≤ sizeLine; decide), ?_⟩
    intro l5 hn_l5
    generalize hX_l5 : L2.upd _ l5 _ = H10
    have s_l5 := alloc_same hX_l5 hn_l5
    have d_l5 := alloc_at hX_l5
    refine ⟨c4, l5, _, _, rfl, rfl, (s_l5) _ _ d_c4, d_l5, small_le (by simp; done), ?_⟩
    intro c5 hn_c5
    generalize hX_c5 : L2.upd _ c5 _ = H11
    have s_c5 := alloc_same hX_c5 hn_c5
    have d_c5 := alloc_at hX_c5
    refine k c5 _ ((s_l0.trans (s_l1.trans (s_c1.trans (s_l2.trans (s_c2.trans (s_l3.trans (s_c3.trans (s_l4.trans (s_c4.trans s_l5))))))))).free hn_c5) ((s_l0.trans (s_l1.trans (s_c1.trans (s_l2.trans (s_c2.trans (s_l3.trans (s_c3.trans (s_l4.trans (s_c4.trans (s_l5.trans s_c5))))))))))) (by rw [d_c5]; rfl)
/-! _law_row_right -/
def sp__law_row_right (K : PySem.W.Frag) : Sp := fun vs H Q _ => ∃ (p : Addr) (v : V), vs = [.ref p, v] ∧ AllE kindNames K H p v ∧ GoodV K H v ∧ ∀ H', Same H H' → Q (.bl true) H'
theorem ok__law_row_right (T : Txt K mg) : FnC P w K mg base CX0 5 T.f__law_row_right T.fd__law_row_right P__law_row_right (sp__law_row_right K) := by
  have nd : N__law_row_right.Nodup := sc__law_row_right.nd
  refine okC T.F__law_row_right sc__law_row_right (fun vs H Q E h => ?_) (fun cdv A outer s H vs Q E hr hc h => ?_)
  · obtain ⟨p, v, rfl, _⟩ := h
    rfl
  · obtain ⟨p, v, rfl, hA, hG, k⟩ := h
    refine ⟨_, (pss_cons (ps_for PassesOwn.never rfl (pi_enum (by rfl) T.z_enumerate (pa_cons (pv 0) pa_nil)) (pg_tup (n := 2) rfl (pgs_cons (by exact (pg_name (i := 2) nd rfl (Or.inr rfl))) (pgs_cons (by exact (pg_name (i := 3) nd rfl (Or.inl rfl))) pgs_nil)))
      (pss_cons (ps_if (PW.pt (pw_or (pt_not (pt_val (pe_callB cr_isX (by rfl) T.z_isinstance (by decide +kernel) (pa_cons (pv 3) (pa_cons (pe_glob (v := .ref T.C_SwapError) rfl T.m_SwapError rfl) pa_nil))))) (pw_or1 (pt_not (pt_val (pe_callB cr_isX (by rfl) T.z_isinstance (by decide +kernel) (pa_cons (pv 3) (pa_cons (pe_bltn (v := .ty "ValueError") (by rfl) T.z_ValueError (by decide +kernel) rfl) pa_nil)))))))) (pss_one (ps_ret pe_bl)) pss_nil)
      (pss_cons (ps_if (pt_cmpR (op_neP hr.units) (pe_call (ok__law_kinds T) (hr.mono (by decide)) rfl T.m__law_kinds T.F__law_kinds.kp T.b__law_kinds .nil pass0 (pa_cons (pv 3) pa_nil)) (pe_lc (own := [("_law_place", 4)]) (hc := rfl) (hN := nd) (pi_range1 rfl T.z_range (pa_cons pe_int pa_nil)) (blkOk_by (N := N__law_row_right) (sc := defScope s__law_row_right) (by decide +kernel)) (fun _ _ _ _ _ => by exact (pg_name (i := 4) nd rfl (Or.inl rfl))) (fun _ _ _ _ _ => by exact pts_nil) (fun _ _ _ _ _ => by exact (pe_cmpR op_eq (pv 4) (pv 2) (nomark _)))) (nomark _)) (pss_one (ps_ret pe_bl)) pss_nil)
      (pss_one (ps_if (PW.pt (pw_or (pt_not (pt_cmpR (op_eqE hr.units) (pe_xvK K (pv 3)) (pv 1) (nomark _))) (pw_or1 (pt_cmpR op_ne (pe_callB (call_reprV hc hr.units) (by rfl) T.z_repr (by decide +kernel) (pa_cons (pe_xvK K (pv 3)) pa_nil)) (pe_callB (call_reprV hc hr.units) (by rfl) T.z_repr (by decide +kernel) (pa_cons (pv 1) pa_nil)) (nomark _))))) (pss_one (ps_ret pe_bl)) pss_nil)))))
      (pss_one (ps_ret pe_bl))), ?_⟩
    obtain ⟨as, d0, al, ha⟩ := hA
    refine ⟨_, rfl, p, _, rfl, SqL.of d0, ?_⟩
    refine for_it (walk_enum (K := K) (a := p) (xs := as.map V.ref)) (fun i σ H' => ∃ w2 w3 w4 : Option V, σ = [some (.ref p), some v, w2, w3, w4] ∧ Same H H') ⟨_, _, _, rfl, fun _ _ e => e⟩ (fun i σ H' _ ⟨_, _, _, _, s⟩ => SqL.of (s _ _ d0)) ?_ ?_
    · rintro i x σ H1 H2 hi ⟨w2, w3, w4, rfl, s1⟩ ⟨T1, x1, y1, rfl, hT, rfl, g1, g2⟩
      have g1' : V.int (i : Nat) = x1 := Option.some.inj g1
      subst g1'
      replace g2 : (as.map V.ref)[i]? = some y1 := g2
      rw [List.getElem?_map] at g2
      obtain ⟨a, haq, rfl⟩ := Option.map_eq_some_iff.mp g2
      have hil := (List.getElem?_eq_some_iff.mp haq).1
      have sT := Same.upd (o := HO.tup [V.int (i : Nat), V.ref a]) hT
      refine ⟨T1, _, rfl, SqT.of upd_same, rfl, _, _, rfl, _, _, rfl, rfl, ?_⟩
      generalize L2.upd H1 T1 (.tup [V.int (i : Nat), V.ref a]) = H3 at sT ⊢
      have s3 := s1.trans sT
      have K3 : KnownE kindNames K H3 a i v := (ha i a haq).same s3
      obtain ⟨C0, dd0, k1, k2, k3⟩ := K3.to
      refine ⟨_, rfl, a, C0, dd0, _, _, _, rfl, k1.e, k2, k3, fun w r => r, k1.s _ T.n_SwapError, ?_⟩
      refine ⟨_, rfl, iteF ?_⟩
      refine ⟨_, rfl, a, C0, dd0, _, .type "ValueError", _, rfl, k1.e, k2, k3, fun w r => r, k1.t, _, rfl, iteF ?_⟩
      show tNext _ _ _
      refine ⟨_, rfl, a, i, rfl, K3.to, fun p1 H4 n4 s4 d4 => ?_⟩
      refine ⟨16, rfl, by decide, by decide, fun D hD => ?_⟩
      refine lc_it walk_range (fun j H' => Same H4 H' ∧ H' D = some (.lst (((List.range j).map fun m => decide (m = i)).map V.bl))) ⟨Same.upd hD, upd_same⟩ (fun _ _ _ _ => trivial) ?_ ?_
      · rintro j x H5 H6 hj ⟨s5, d5⟩ ⟨rfl, rfl⟩
        refine ⟨rfl, _, rfl, _, rfl, rfl, ?_⟩
        have ed : decide (V.int ((0 : Int) + (j : Nat)) = V.int (i : Nat)) = decide (j = i) := by
          rw [Int.zero_add]
          exact decide_eq_decide.mpr ⟨fun z => by injection z with z; omega, fun z => by rw [z]⟩
        rw [ed]
        exact grow hD s5 d5 (by simp; omega) (by rw [List.range_succ]; simp)
      rintro H5 ⟨s5, d5⟩
      refine bits_neP (bs := (List.range 16).map fun j => decide (j = i)) (SqL.of (s5 _ _ (by rw [d4, List.map_map]; rfl))) (SqL.of d5) ?_
      refine ⟨_, rfl, iteF ?_⟩
      show tNext _ _ _
      have S5 : Same H H5 := s3.trans (s4.trans s5)
      obtain ⟨C1, kk, dx, e1, e2⟩ := (ha i a haq).same S5
      obtain ⟨t, hR⟩ := hG.2
      refine ⟨_, rfl, a, C1, dx, _, v, rfl, kk.x, kk.v, e1, e2, List.lookup_cons_self, _, rfl, hG.eq S5 ?_⟩
      refine ⟨_, rfl, iteF ?_⟩
      refine ⟨_, rfl, a, C1, dx, _, v, rfl, kk.x, kk.v, e1, e2, List.lookup_cons_self, v, t, rfl, hR _ S5, _, rfl, v, t, rfl, hR _ S5, rfl, _, rfl, iteNS rfl ?_⟩
      exact ⟨_, _, _, rfl, S5⟩
    rintro σ H1 ⟨w2, w3, w4, rfl, s1⟩
    exact k H1 s1
/-! law -/
def sp_law (K : PySem.W.Frag) : Sp := fun vs H Q _ => ∃ (a : Addr) (ns : List Int), vs = [.ref a] ∧ SqL K H a (ns.map V.int) ∧ ns.length ≤ 63 ∧ ∀ H', Q (.bl true) H'
theorem ok_law (T : Txt K mg) : FnC P w K mg base CX0 6 T.f_law T.fd_law P_law (sp_law K) := by
  have nd : N_law.Nodup := sc_law.nd
  refine okC T.F_law sc_law (fun vs H Q E h => ?_) (fun cdv A outer s H vs Q E hr hc h => ?_)
  · obtain ⟨a, ns, rfl, _⟩ := h
    rfl
  · obtain ⟨a, ns, rfl, hS, hlen, k⟩ := h
    refine ⟨_, (pss_cons (ps_set (i := 1) nd rfl (Or.inl rfl) (pe_call (ok__law_generator T) (hr.mono (by decide)) rfl T.m__law_generator T.F__law_generator.kp T.b__law_generator .nil pass0 (pa_cons (pv 0) (pa_cons pe_int pa_nil))))
      (pss_cons (ps_set (i := 2) nd rfl (Or.inr rfl) (pe_call (ok__law_random T) (hr.mono (by decide)) rfl T.m__law_random T.F__law_random.kp T.b__law_random .nil pass0 (pa_cons (pv 1) (pa_cons (pe_op op_powW pe_int pe_int) pa_nil))))
      (pss_cons (ps_for PassesOwn.never rfl (pi_list (pe_lst (pa_cons pe_non (pa_cons (pv 2) (pa_cons (pe_op op_mulS pe_str (pe_call (ok__law_random T) (hr.mono (by decide)) rfl T.m__law_random T.F__law_random.kp T.b__law_random .nil pass0 (pa_cons (pv 1) (pa_cons pe_int pa_nil)))) (pa_cons (pe_tup (pa_cons pe_str (pa_cons (pe_lst (pa_cons (pv 2) pa_nil)) pa_nil))) (pa_cons (pe_disp (pps_cons pe_str pe_int pps_nil) rfl rfl (by simp) (Nat.le_of_ble_eq_true rfl)) (pa_cons pe_bl pa_nil)))))))) (pg_name (i := 3) nd rfl (Or.inl rfl))
      (pss_one (ps_if (PW.pt (pw_or (pt_not (pt_val (pe_callC (ok__law_row_right T) (hr.mono (by decide)) hc rfl T.m__law_row_right T.F__law_row_right.kp T.b__law_row_right .nil pass0 (pa_cons (pe_call (ok__law_made T) (hr.mono (by decide)) rfl T.m__law_made T.F__law_made.kp T.b__law_made .nil pass0 (pa_cons (pv 3) pa_nil)) (pa_cons (pv 3) pa_nil))))) (pw_or1 (pt_not (pt_val (pe_callC (ok__law_row_right T) (hr.mono (by decide)) hc rfl T.m__law_row_right T.F__law_row_right.kp T.b__law_row_right .nil pass0 (pa_cons (pe_call (ok__law_named T) (hr.mono (by decide)) rfl T.m__law_named T.F__law_named.kp T.b__law_named .nil pass0 (pa_cons (pv 3) pa_nil)) (pa_cons (pv 3) pa_nil)))))))) (pss_one (ps_ret pe_bl)) pss_nil)))
      (pss_cons (ps_if (pt_not (pt_val (pe_callC (ok__law_row_right T) (hr.mono (by decide)) hc rfl T.m__law_row_right T.F__law_row_right.kp T.b__law_row_right .nil pass0 (pa_cons (pe_call0 (ok__law_empty T) (hr.mono (by decide)) rfl T.m__law_empty T.F__law_empty.kp T.b__law_empty .nil pass0) (pa_cons pe_non pa_nil))))) (pss_one (ps_ret pe_bl)) pss_nil)
      (pss_cons (ps_set (i := 4) nd rfl (Or.inl rfl) (pe_lst (pa_cons (pv 2) pa_nil)))
      (pss_cons (ps_set (i := 5) nd rfl (Or.inl rfl) (pe_call (ok__law_made T) (hr.mono (by decide)) rfl T.m__law_made T.F__law_made.kp T.b__law_made .nil pass0 (pa_cons (pv 4) pa_nil)))
      (pss_cons (ps_expr (pe_bm PySem.F.plainAttrs_list PySem.F.slot_list_append PySem.F.type_list_append mt_append (pv 4) (pa_cons pe_int pa_nil)))
      (pss_cons (ps_if (pt_cmpR (op_neP hr.units) (pe_lc (own := [("_law_error", 7)]) (hc := rfl) (hN := nd) (pi_list (pv 5)) (blkOk_by (N := N_law) (sc := defScope s_law) (by decide +kernel)) (fun _ _ _ _ _ => by exact (pg_name (i := 7) nd rfl (Or.inl rfl))) (fun _ _ _ _ _ => by exact (pts_one (pt_cmpR (op_neK K hr.units) (pe_xvK K (pv 7)) (pe_lst (pa_cons (pv 2) (pa_cons pe_int pa_nil))) (nomark _)))) (fun _ _ _ _ _ => by exact (pv 7))) (pe_lst pa_nil) (nomark _)) (pss_one (ps_ret pe_bl)) pss_nil)
      (pss_cons (ps_for PassesOwn.never rfl (pi_enum (by rfl) T.z_enumerate (pa_cons (pe_lst (pa_cons (pe_bare0 PySem.F.excBase_ValueError T.q_NothingToUndo T.m_NothingToUndo T.k_NothingToUndo rfl) (pa_cons (pe_bare0 PySem.F.excBase_ValueError T.q_NothingToRedo T.m_NothingToRedo T.k_NothingToRedo rfl) pa_nil))) pa_nil)) (pg_tup (n := 2) rfl (pgs_cons (by exact (pg_name (i := 6) nd rfl (Or.inr rfl))) (pgs_cons (by exact (pg_name (i := 7) nd rfl (Or.inl rfl))) pgs_nil)))
      (pss_cons (ps_if (PW.pt (pw_or (pt_not (pt_val (pe_callB cr_isX (by rfl) T.z_isinstance (by decide +kernel) (pa_cons (pv 7) (pa_cons (pe_glob (v := .ref T.C_SwapError) rfl T.m_SwapError rfl) pa_nil))))) (pw_or1 (pt_not (pt_val (pe_callB cr_isX (by rfl) T.z_isinstance (by decide +kernel) (pa_cons (pv 7) (pa_cons (pe_bltn (v := .ty "ValueError") (by rfl) T.z_ValueError (by decide +kernel) rfl) pa_nil)))))))) (pss_one (ps_ret pe_bl)) pss_nil)
      (pss_one (ps_if (pt_cmpR (op_neP hr.units) (pe_call (ok__law_kinds T) (hr.mono (by decide)) rfl T.m__law_kinds T.F__law_kinds.kp T.b__law_kinds .nil pass0 (pa_cons (pv 7) pa_nil)) (pe_lc (own := [("_law_place", 8)]) (hc := rfl) (hN := nd) (pi_range1 rfl T.z_range (pa_cons pe_int pa_nil)) (blkOk_by (N := N_law) (sc := defScope s_law) (by decide +kernel)) (fun _ _ _ _ _ => by exact (pg_name (i := 8) nd rfl (Or.inl rfl))) (fun _ _ _ _ _ => by exact pts_nil) (fun _ _ _ _ _ => by exact (pe_cmpR op_eq (pv 8) (pe_op op_add pe_int (pv 6)) (nomark _)))) (nomark _)) (pss_one (ps_ret pe_bl)) pss_nil))))
      (pss_one (ps_ret pe_bl))))))))))), ?_⟩
    refine ⟨_, rfl, a, ns, 0, rfl, hS, by omega, fun g H1 hg s1 G => ?_⟩
    refine ⟨_, rfl, _, _, rfl, rfl, ⟨by decide, by decide +kernel⟩, g, _, _, rfl, G, by omega, by decide +kernel, by decide +kernel, fun n H2 n0 n1 b2 G2 => ?_⟩
    have eab : Str.ofString "ab" = S [97, 98] := by decide +kernel
    refine ⟨_, rfl, _, rfl, g, 3, _, rfl, G2, by omega, by decide, by decide, fun q H3 q0 q1 b3 G3 => ?_⟩
    obtain ⟨t, rfl⟩ := Int.eq_ofNat_of_zero_le q0
    refine ⟨[97, 98], t, (by rw [eab]), rfl, by omega, by simp; omega, ?_⟩
    refine ⟨_, rfl, (by show 1 ≤ sizeLine; decide), ?_⟩
    intro xl hn_xl
    generalize hX_xl : L2.upd _ xl _ = H4
    have s_xl := alloc_same hX_xl hn_xl
    have d_xl := alloc_at hX_xl
    refine ⟨(by show 2 ≤ sizeLine; decide), ?_⟩
    intro tu hn_tu
    generalize hX_tu : L2.upd _ tu _ = H5
    have s_tu := alloc_same hX_tu hn_tu
    have d_tu := alloc_at hX_tu
    intro di hn_di
    refine ⟨upd_same, [(Sum.inr (Str.ofString "a"), V.int 1)], rfl, by simp, ?_⟩
    generalize hX6 : L2.upd (L2.upd H5 di _) di _ = H6
    have s_di : Same H5 H6 := by rw [← hX6]; exact Same.own (Same.upd hn_di) hn_di
    have d_di : H6 di = some (.dK [(Sum.inr (Str.ofString "a"), V.int 1)]) := by rw [← hX6, upd_same]; rfl
    refine ⟨(by show 6 ≤ sizeLine; decide), ?_⟩
    intro vl hn_vl
    generalize hX_vl : L2.upd _ vl _ = H7
    have s_vl := alloc_same hX_vl hn_vl
    have d_vl := alloc_at hX_vl
    have hG : ∀ v ∈ [V.non, V.int n, V.str (S (List.replicate t [97, 98]).flatten), V.ref tu, V.ref di, V.bl true], GoodV K H7 v := by
      have e30 : (10 : Int) ^ (30 : Int).toNat = 10 ^ 30 := by decide +kernel
      have hn30 : n.natAbs ≤ 10 ^ 30 := by omega
      have hn36 : n.natAbs < 10 ^ 36 := Nat.lt_of_le_of_lt hn30 (by decide)
      have ex : Str.ofString "x" = S [120] := by decide +kernel
      have htu : H7 tu = some (.tup [.str (S [120]), .ref xl]) := by rw [← ex]; exact s_vl _ _ (s_di _ _ d_tu)
      have hxl : H7 xl = some (.lst [.int n]) := s_vl _ _ (s_di _ _ (s_tu _ _ d_xl))
      have hdi : H7 di = some (.dK ([(Str.ofString "a", (1 : Int))].map fun p => ((Sum.inr p.1 : Key), V.int p.2))) := s_vl _ _ d_di
      intro v hv
      simp only [List.mem_cons, List.not_mem_nil, or_false] at hv
      rcases hv with rfl | rfl | rfl | rfl | rfl | rfl
      · exact ⟨.inl ⟨.none, fun _ _ => .non, rfl, by decide, PySem.SeqAt.eqv_refl _ rfl⟩, _, fun _ _ => .non⟩
      · exact ⟨.inl ⟨.int n, fun _ _ => .int n, rfl, (show PyData.depth (.int 0) ≤ 64 by decide), PySem.SeqAt.eqv_refl _ rfl⟩, _, fun _ _ => .int n (by
          by_cases z : n.natAbs = 0
          · rw [z]; decide
          · exact (Nat.log2_lt z).mpr (Nat.lt_trans hn36 (by decide +kernel)))⟩
      · have hm : ∀ c ∈ (List.replicate t [97, 98]).flatten, c ≤ 50000 := fun c hc => by
          obtain ⟨l, hl, hcl⟩ := List.mem_flatten.mp hc
          rw [(List.mem_replicate.mp hl).2] at hcl
          simp only [List.mem_cons, List.not_mem_nil, or_false] at hcl
          omega
        refine ⟨.inl ⟨.str _, fun _ _ => .str _, rfl, (show PyData.depth (.str (S [])) ≤ 64 by decide), PySem.SeqAt.eqv_refl _ (by rcases (show t = 0 ∨ t = 1 ∨ t = 2 by omega) with rfl | rfl | rfl <;> decide +kernel)⟩, _, fun _ _ => ShW.rpS hm (by simp; omega)⟩
      · have dp : ∀ H', Same H7 H' → Dp K H' (.ref tu) (.tuple [.str (S [120]), .list [.int n]]) := fun H' s => .tup (SqT.of (s _ _ htu)) (.cons (.str _) (.cons (.lst (SqL.of (s _ _ hxl)) (.cons (.int n) .nil)) .nil))
        have sw : ShW 60 (2 ^ 18) (.tuple [.str (S [120]), .list [.int n]]) := (ShW.tup (D := 1) (W := 131) fun d hd => by
          simp only [List.mem_cons, List.not_mem_nil, or_false] at hd
          rcases hd with rfl | rfl
          · exact (ShW.str (l := [120]) fun c hc => by rw [List.mem_singleton.mp hc]; omega).mono (by decide) (by decide)
          · exact (ShW.list (D := 0) (W := 130) fun d hd => by rw [List.mem_singleton.mp hd]; exact ShW.int hn36).mono (by decide) (by show 1 * 131 ≤ 131; decide)).mono (by decide) (by show 2 * 132 ≤ 2 ^ 18; decide)
        exact ⟨.inl ⟨_, dp, rfl, (show PyData.depth (.tuple [.str (S [120]), .list [.int 0]]) ≤ 64 by decide), PySem.SeqAt.eqv_refl _ (show PyData.canLay0 (.tuple [.str (S [120]), .list [.int 0]]) = true by decide +kernel)⟩, _, fun H' s => sw.rp (dp H' s)⟩
      · refine ⟨.inr fun H' s => ⟨1, by decide, .inr ⟨di, di, _, _, rfl, rfl, s _ _ hdi, s _ _ hdi, rfl, fun p hp => ⟨.int 1, ?_⟩⟩⟩, _, fun H' s => .dk (s _ _ hdi) (by decide +kernel) (by decide +kernel) (by decide +kernel)⟩
        rw [List.mem_singleton.mp hp]
        exact ⟨by simp [valV], .inl ⟨rfl, rfl⟩⟩
      · exact ⟨.inl ⟨.bool true, fun _ _ => .bl true, rfl, by decide, PySem.SeqAt.eqv_refl _ rfl⟩, _, fun _ _ => .bl true⟩
    refine ⟨vl, rfl, ⟨_, SqL.of d_vl⟩, ?_⟩
    refine for_list (K := K) (a := vl) (xs := [V.non, V.int n, V.str (S (List.replicate t [97, 98]).flatten), V.ref tu, V.ref di, V.bl true]) (fun i σ H' => ∃ w3 : Option V, σ = [some (.ref a), some (.ref g), some (.int n), w3, none, none, none, none, none] ∧ Same H7 H') ⟨_, rfl, fun _ _ e => e⟩ (fun i σ H' _ ⟨_, _, s⟩ => SqL.of (s _ _ d_vl)) ?_ ?_
    · rintro i v σ H8 hi ⟨w3, rfl, s8⟩
      have gv := (hG v (List.mem_of_getElem? hi)).same s8
      refine ⟨_, rfl, v, rfl, fun p H9 hp s9 A9 => ?_⟩
      refine ⟨_, rfl, p, v, rfl, A9, gv.same s9, fun H10 s10 => ?_⟩
      refine ⟨_, rfl, iteF ?_⟩
      refine ⟨_, rfl, v, rfl, fun p2 H11 hp2 s11 A11 => ?_⟩
      refine ⟨_, rfl, p2, v, rfl, A11, gv.same (s9.trans (s10.trans s11)), fun H12 s12 => ?_⟩
      refine ⟨_, rfl, iteF ?_⟩
      exact ⟨_, rfl, s8.trans (s9.trans (s10.trans (s11.trans s12)))⟩
    rintro σ H8 ⟨w3, rfl, s8⟩
    have gnon : GoodV K H8 .non := (hG _ List.mem_cons_self).same s8
    refine ⟨rfl, fun p H9 hp s9 A9 => ?_⟩
    refine ⟨p, .non, rfl, A9, gnon.same s9, fun H10 s10 => ?_⟩
    refine ⟨_, rfl, iteF ?_⟩
    show tNext _ _ _
    refine ⟨_, rfl, (by show 1 ≤ sizeLine; decide), ?_⟩
    intro od hn_od
    generalize hX_od : L2.upd _ od _ = H11
    have s_od := alloc_same hX_od hn_od
    have d_od := alloc_at hX_od
    refine ⟨_, rfl, V.ref od, rfl, fun gp H12 hgp s12 A12 => ?_⟩
    have d12 := s12 _ _ d_od
    refine ⟨_, rfl, .inl ⟨rfl, _, SqL.of d12⟩, od, _, _, rfl, rfl, d12, small_line (by simp), ?_⟩
    obtain ⟨as, g1, g2, g3⟩ := A12
    have nog : gp ≠ od := fun z => by rw [z, d_od] at hgp; cases hgp
    have e13 : ∀ i x, as[i]? = some x → KnownE kindNames K (L2.upd H12 od (.lst ([V.int n] ++ [V.int 1]))) x i (.ref od) := fun i x hx => (g3 i x hx).lst d12
    have g13 : (L2.upd H12 od (.lst ([V.int n] ++ [V.int 1]))) gp = some (.lst (as.map V.ref)) := by rw [upd_ne nog]; exact g1
    have o13 : (L2.upd H12 od (.lst ([V.int n] ++ [V.int 1]))) od = some (.lst [V.int n, V.int 1]) := upd_same
    generalize L2.upd H12 od (.lst ([V.int n] ++ [V.int 1])) = H13 at e13 g13 o13 ⊢
    refine ⟨_, rfl, gp, rfl, ⟨_, SqL.of g13⟩, fun D hD => ?_⟩
    refine lc_it walk_list (fun i H' => Same H13 H' ∧ H' D = some (.lst [])) ⟨Same.upd hD, upd_same⟩ (fun i H' _ ⟨s, _⟩ => SqL.of (s _ _ g13)) ?_ ?_
    · rintro j x H14 H15 hj ⟨s14, d14⟩ ⟨rfl, hx⟩
      rw [List.getElem?_map] at hx
      obtain ⟨x0, hq, rfl⟩ := Option.map_eq_some_iff.mp hx
      obtain ⟨C1, kk, dx, e1, e2⟩ := (e13 j x0 hq).same s14
      refine ⟨rfl, _, rfl, x0, C1, dx, _, _, rfl, kk.x, kk.v, e1, e2, List.lookup_cons_self, _, rfl, (by show 2 ≤ sizeLine; decide), fun U hU => ?_⟩
      have sU := Same.upd (o := HO.lst [V.int n, V.int 1]) hU
      refine list_neP (ds := [.int n, .int 1]) (SqL.of (sU _ _ (s14 _ _ o13))) (SqL.of upd_same) (.cons (.int n) (.cons (.int 1) .nil)) rfl (show PyData.depth (.list [.int 0, .int 0]) ≤ 64 by decide) rfl ?_
      refine ⟨_, rfl, iteF ?_⟩
      exact ⟨s14.trans sU, sU _ _ d14⟩
    rintro H15 ⟨s15, d15⟩
    refine ⟨(by show 0 ≤ sizeLine; decide), ?_⟩
    intro em hn_em
    generalize hX_em : L2.upd _ em _ = H16
    have s_em := alloc_same hX_em hn_em
    have d_em := alloc_at hX_em
    refine list_neP (ds := []) (SqL.of (s_em _ _ d15)) (SqL.of d_em) .nil rfl (by decide) rfl ?_
    refine ⟨_, rfl, iteF ?_⟩
    show tNext _ _ _
    intro a1 n1
    generalize hX17 : L2.upd H16 a1 _ = H17
    have s17 : Same H16 H17 := by rw [← hX17]; exact Same.upd n1
    have d17 : H17 a1 = some (exo a1 T.C_NothingToUndo none) := by rw [← hX17]; exact upd_same
    intro a2 n2
    generalize hX18 : L2.upd H17 a2 _ = H18
    have s18 : Same H17 H18 := by rw [← hX18]; exact Same.upd n2
    have d18 : H18 a2 = some (exo a2 T.C_NothingToRedo none) := by rw [← hX18]; exact upd_same
    refine ⟨(by show 2 ≤ sizeLine; decide), ?_⟩
    intro el hn_el
    generalize hX_el : L2.upd _ el _ = H19
    have s_el := alloc_same hX_el hn_el
    have d_el := alloc_at hX_el
    have kn : ∀ i x, [a1, a2][i]? = some x → Known0 kindNames K H19 x (14 + i) := fun i x hx => match i, hx with
      | 0, hx => by cases hx; exact ⟨_, none, T.kd_NothingToUndo, s_el _ _ (s18 _ _ d17), fun dd z => nomatch z⟩
      | 1, hx => by cases hx; exact ⟨_, none, T.kd_NothingToRedo, s_el _ _ d18, fun dd z => nomatch z⟩
      | m + 2, hx => by simp at hx
    refine ⟨el, _, rfl, SqL.of d_el, ?_⟩
    refine for_it (walk_enum (K := K) (a := el) (xs := [a1, a2].map V.ref)) (fun i σ H' => ∃ w6 w7 w8 : Option V, σ = [some (.ref a), some (.ref g), some (.int n), w3, some (.ref od), some (.ref gp), w6, w7, w8] ∧ Same H19 H') ⟨_, _, _, rfl, fun _ _ e => e⟩ (fun i σ H' _ ⟨_, _, _, _, s⟩ => SqL.of (s _ _ d_el)) ?_ ?_
    · rintro i x σ H20 H21 hi ⟨w6, w7, w8, rfl, s20⟩ ⟨T1, x1, y1, rfl, hT, rfl, g4, g5⟩
      have g4' : V.int (i : Nat) = x1 := Option.some.inj g4
      subst g4'
      replace g5 : ([a1, a2].map V.ref)[i]? = some y1 := g5
      rw [List.getElem?_map] at g5
      obtain ⟨x0, hq, rfl⟩ := Option.map_eq_some_iff.mp g5
      have hil := (List.getElem?_eq_some_iff.mp hq).1
      have sT := Same.upd (o := HO.tup [V.int (i : Nat), V.ref x0]) hT
      refine ⟨T1, _, rfl, SqT.of upd_same, rfl, _, _, rfl, _, _, rfl, rfl, ?_⟩
      generalize L2.upd H20 T1 (.tup [V.int (i : Nat), V.ref x0]) = H22 at sT ⊢
      have s22 := s20.trans sT
      have K3 := (kn i x0 hq).same s22
      have K3' := K3
      obtain ⟨C0, dd0, k1, k2, k3⟩ := K3'
      refine ⟨_, rfl, x0, C0, dd0, _, _, _, rfl, k1.e, k2, k3, fun w r => r, k1.s _ T.n_SwapError, ?_⟩
      refine ⟨_, rfl, iteF ?_⟩
      refine ⟨_, rfl, x0, C0, dd0, _, .type "ValueError", _, rfl, k1.e, k2, k3, fun w r => r, k1.t, _, rfl, iteF ?_⟩
      show tNext _ _ _
      refine ⟨_, rfl, x0, 14 + i, rfl, K3, fun p1 H23 n23 s23 d23 => ?_⟩
      refine ⟨16, rfl, by decide, by decide, fun D2 hD2 => ?_⟩
      refine lc_it walk_range (fun j H' => Same H23 H' ∧ H' D2 = some (.lst (((List.range j).map fun m => decide (m = 14 + i)).map V.bl))) ⟨Same.upd hD2, upd_same⟩ (fun _ _ _ _ => trivial) ?_ ?_
      · rintro j x H24 H25 hj ⟨s24, d24⟩ ⟨rfl, rfl⟩
        refine ⟨rfl, _, rfl, _, rfl, _, _, rfl, rfl, rfl, ?_⟩
        have ed : decide (V.int ((0 : Int) + (j : Nat)) = V.int ((14 : Int) + (i : Nat))) = decide (j = 14 + i) := decide_eq_decide.mpr ⟨fun z => by injection z with z; omega, fun z => by rw [z]; congr 1; omega⟩
        rw [ed]
        exact grow hD2 s24 d24 (by simp; omega) (by rw [List.range_succ]; simp)
      rintro H24 ⟨s24, d24⟩
      refine bits_neP (bs := (List.range 16).map fun j => decide (j = 14 + i)) (SqL.of (s24 _ _ (by rw [d23, List.map_map]; rfl))) (SqL.of d24) ?_
      refine ⟨_, rfl, iteF ?_⟩
      exact ⟨_, _, _, rfl, s22.trans (s23.trans s24)⟩
    rintro σ H20 ⟨w6, w7, w8, rfl, s20⟩
    exact k _
end
theorem all_mk {l : PySem.W.OpenLaw} {w : World} {K : PySem.W.Frag} {h : Heap} {mg : Str → Option Value} {fa : Addr} (X : K.In h) (G : h.Ns mainGlobals mg) (hfa : mg "law" = some (.ref fa))
    {f__law_hash : Addr} {od__law_hash an__law_hash : Option Addr} {sl__law_hash : Array (Option Value)} {oc__law_hash kV__law_hash dc__law_hash pm__law_hash cd__law_hash ct__law_hash : Value}
    {f__law_cell : Addr} {od__law_cell an__law_cell : Option Addr} {sl__law_cell : Array (Option Value)} {oc__law_cell kV__law_cell dc__law_cell pm__law_cell cd__law_cell ct__law_cell : Value}
    {f__law_random : Addr} {od__law_random an__law_random : Option Addr} {sl__law_random : Array (Option Value)} {oc__law_random kV__law_random dc__law_random pm__law_random cd__law_random ct__law_random : Value}
    {f__law_generator : Addr} {od__law_generator an__law_generator : Option Addr} {sl__law_generator : Array (Option Value)} {oc__law_generator kV__law_generator dc__law_generator pm__law_generator cd__law_generator ct__law_generator : Value}
    {f__law_made : Addr} {od__law_made an__law_made : Option Addr} {sl__law_made : Array (Option Value)} {oc__law_made kV__law_made dc__law_made pm__law_made cd__law_made ct__law_made : Value}
    {f__law_named : Addr} {od__law_named an__law_named : Option Addr} {sl__law_named : Array (Option Value)} {oc__law_named kV__law_named dc__law_named pm__law_named cd__law_named ct__law_named : Value}
    {f__law_empty : Addr} {od__law_empty an__law_empty : Option Addr} {sl__law_empty : Array (Option Value)} {oc__law_empty kV__law_empty dc__law_empty pm__law_empty cd__law_empty ct__law_empty : Value}
    {f__law_kinds : Addr} {od__law_kinds an__law_kinds : Option Addr} {sl__law_kinds : Array (Option Value)} {oc__law_kinds kV__law_kinds dc__law_kinds pm__law_kinds cd__law_kinds ct__law_kinds : Value}
    {f__law_row_right : Addr} {od__law_row_right an__law_row_right : Option Addr} {sl__law_row_right : Array (Option Value)} {oc__law_row_right kV__law_row_right dc__law_row_right pm__law_row_right cd__law_row_right ct__law_row_right : Value}
    {f_law : Addr} {od_law an_law : Option Addr} {sl_law : Array (Option Value)} {oc_law kV_law dc_law pm_law cd_law ct_law : Value}
    (a__law_hash : PySem.W.nsIn K mainGlobals "_law_hash" = some (some (.ref f__law_hash))) (l__law_hash : K.lookup f__law_hash = some ⟨oc__law_hash, od__law_hash, .func (PySem.W.fnOf "_law_hash" "_law_hash" (defArgs s__law_hash) (defBody s__law_hash) (defScope s__law_hash) .none kV__law_hash dc__law_hash pm__law_hash an__law_hash cd__law_hash ct__law_hash), sl__law_hash⟩) (c__law_hash : PySem.W.codeIn K cd__law_hash "_law_hash" = true) (k__law_hash : PySem.W.keepIn K (.ref f__law_hash) = true)
    (a__law_cell : PySem.W.nsIn K mainGlobals "_law_cell" = some (some (.ref f__law_cell))) (l__law_cell : K.lookup f__law_cell = some ⟨oc__law_cell, od__law_cell, .func (PySem.W.fnOf "_law_cell" "_law_cell" (defArgs s__law_cell) (defBody s__law_cell) (defScope s__law_cell) .none kV__law_cell dc__law_cell pm__law_cell an__law_cell cd__law_cell ct__law_cell), sl__law_cell⟩) (c__law_cell : PySem.W.codeIn K cd__law_cell "_law_cell" = true) (k__law_cell : PySem.W.keepIn K (.ref f__law_cell) = true)
    (a__law_random : PySem.W.nsIn K mainGlobals "_law_random" = some (some (.ref f__law_random))) (l__law_random : K.lookup f__law_random = some ⟨oc__law_random, od__law_random, .func (PySem.W.fnOf "_law_random" "_law_random" (defArgs s__law_random) (defBody s__law_random) (defScope s__law_random) .none kV__law_random dc__law_random pm__law_random an__law_random cd__law_random ct__law_random), sl__law_random⟩) (c__law_random : PySem.W.codeIn K cd__law_random "_law_random" = true) (k__law_random : PySem.W.keepIn K (.ref f__law_random) = true)
    (a__law_generator : PySem.W.nsIn K mainGlobals "_law_generator" = some (some (.ref f__law_generator))) (l__law_generator : K.lookup f__law_generator = some ⟨oc__law_generator, od__law_generator, .func (PySem.W.fnOf "_law_generator" "_law_generator" (defArgs s__law_generator) (defBody s__law_generator) (defScope s__law_generator) .none kV__law_generator dc__law_generator pm__law_generator an__law_generator cd__law_generator ct__law_generator), sl__law_generator⟩) (c__law_generator : PySem.W.codeIn K cd__law_generator "_law_generator" = true) (k__law_generator : PySem.W.keepIn K (.ref f__law_generator) = true)
    (a__law_made : PySem.W.nsIn K mainGlobals "_law_made" = some (some (.ref f__law_made))) (l__law_made : K.lookup f__law_made = some ⟨oc__law_made, od__law_made, .func (PySem.W.fnOf "_law_made" "_law_made" (defArgs s__law_made) (defBody s__law_made) (defScope s__law_made) .none kV__law_made dc__law_made pm__law_made an__law_made cd__law_made ct__law_made), sl__law_made⟩) (c__law_made : PySem.W.codeIn K cd__law_made "_law_made" = true) (k__law_made : PySem.W.keepIn K (.ref f__law_made) = true)
    (a__law_named : PySem.W.nsIn K mainGlobals "_law_named" = some (some (.ref f__law_named))) (l__law_named : K.lookup f__law_named = some ⟨oc__law_named, od__law_named, .func (PySem.W.fnOf "_law_named" "_law_named" (defArgs s__law_named) (defBody s__law_named) (defScope s__law_named) .none kV__law_named dc__law_named pm__law_named an__law_named cd__law_named ct__law_named), sl__law_named⟩) (c__law_named : PySem.W.codeIn K cd__law_named "_law_named" = true) (k__law_named : PySem.W.keepIn K (.ref f__law_named) = true)
    (a__law_empty : PySem.W.nsIn K mainGlobals "_law_empty" = some (some (.ref f__law_empty))) (l__law_empty : K.lookup f__law_empty = some ⟨oc__law_empty, od__law_empty, .func (PySem.W.fnOf "_law_empty" "_law_empty" (defArgs s__law_empty) (defBody s__law_empty) (defScope s__law_empty) .none kV__law_empty dc__law_empty pm__law_empty an__law_empty cd__law_empty ct__law_empty), sl__law_empty⟩) (c__law_empty : PySem.W.codeIn K cd__law_empty "_law_empty" = true) (k__law_empty : PySem.W.keepIn K (.ref f__law_empty) = true)
    (a__law_kinds : PySem.W.nsIn K mainGlobals "_law_kinds" = some (some (.ref f__law_kinds))) (l__law_kinds : K.lookup f__law_kinds = some ⟨oc__law_kinds, od__law_kinds, .func (PySem.W.fnOf "_law_kinds" "_law_kinds" (defArgs s__law_kinds) (defBody s__law_kinds) (defScope s__law_kinds) .none kV__law_kinds dc__law_kinds pm__law_kinds an__law_kinds cd__law_kinds ct__law_kinds), sl__law_kinds⟩) (c__law_kinds : PySem.W.codeIn K cd__law_kinds "_law_kinds" = true) (k__law_kinds : PySem.W.keepIn K (.ref f__law_kinds) = true)
    (a__law_row_right : PySem.W.nsIn K mainGlobals "_law_row_right" = some (some (.ref f__law_row_right))) (l__law_row_right : K.lookup f__law_row_right = some ⟨oc__law_row_right, od__law_row_right, .func (PySem.W.fnOf "_law_row_right" "_law_row_right" (defArgs s__law_row_right) (defBody s__law_row_right) (defScope s__law_row_right) .none kV__law_row_right dc__law_row_right pm__law_row_right an__law_row_right cd__law_row_right ct__law_row_right), sl__law_row_right⟩) (c__law_row_right : PySem.W.codeIn K cd__law_row_right "_law_row_right" = true) (k__law_row_right : PySem.W.keepIn K (.ref f__law_row_right) = true)
    (a_law : PySem.W.nsIn K mainGlobals "law" = some (some (.ref f_law))) (l_law : K.lookup f_law = some ⟨oc_law, od_law, .func (PySem.W.fnOf "law" "law" (defArgs s_law) (defBody s_law) (defScope s_law) .none kV_law dc_law pm_law an_law cd_law ct_law), sl_law⟩) (c_law : PySem.W.codeIn K cd_law "law" = true) (k_law : PySem.W.keepIn K (.ref f_law) = true)
    {C_InvalidDeed fI_InvalidDeed : Addr}
    {C_InvalidFar fI_InvalidFar : Addr}
    {C_InvalidJoints fI_InvalidJoints : Addr}
    {C_InvalidLine fI_InvalidLine : Addr}
    {C_InvalidList fI_InvalidList : Addr}
    {C_InvalidMachine fI_InvalidMachine : Addr}
    {C_InvalidNumber fI_InvalidNumber : Addr}
    {C_InvalidPrices fI_InvalidPrices : Addr}
    {C_InvalidRoad fI_InvalidRoad : Addr}
    {C_InvalidTrain fI_InvalidTrain : Addr}
    {C_InvalidWord fI_InvalidWord : Addr}
    {C_NothingToRedo : Addr}
    {C_NothingToUndo : Addr}
    {C_SwapError : Addr}
    {C_TooLong fI_TooLong : Addr}
    {C_TooMany fI_TooMany : Addr}
    {C_Unlike fI_Unlike : Addr}
    (n_InvalidDeed : PySem.W.nsIn K mainGlobals "InvalidDeed" = some (some (.ref C_InvalidDeed)))
    (e_InvalidDeed : ∃ fd, ErrI K mg "InvalidDeed" "InvalidDeed.__init__" C_InvalidDeed fI_InvalidDeed fd)
    (n_InvalidFar : PySem.W.nsIn K mainGlobals "InvalidFar" = some (some (.ref C_InvalidFar)))
    (e_InvalidFar : ∃ fd, ErrI K mg "InvalidFar" "InvalidFar.__init__" C_InvalidFar fI_InvalidFar fd)
    (n_InvalidJoints : PySem.W.nsIn K mainGlobals "InvalidJoints" = some (some (.ref C_InvalidJoints)))
    (e_InvalidJoints : ∃ fd, ErrI K mg "InvalidJoints" "InvalidJoints.__init__" C_InvalidJoints fI_InvalidJoints fd)
    (n_InvalidLine : PySem.W.nsIn K mainGlobals "InvalidLine" = some (some (.ref C_InvalidLine)))
    (e_InvalidLine : ∃ fd, ErrI K mg "InvalidLine" "InvalidLine.__init__" C_InvalidLine fI_InvalidLine fd)
    (n_InvalidList : PySem.W.nsIn K mainGlobals "InvalidList" = some (some (.ref C_InvalidList)))
    (e_InvalidList : ∃ fd, ErrI K mg "InvalidList" "InvalidList.__init__" C_InvalidList fI_InvalidList fd)
    (n_InvalidMachine : PySem.W.nsIn K mainGlobals "InvalidMachine" = some (some (.ref C_InvalidMachine)))
    (e_InvalidMachine : ∃ fd, ErrI K mg "InvalidMachine" "InvalidMachine.__init__" C_InvalidMachine fI_InvalidMachine fd)
    (n_InvalidNumber : PySem.W.nsIn K mainGlobals "InvalidNumber" = some (some (.ref C_InvalidNumber)))
    (e_InvalidNumber : ∃ fd, ErrI K mg "InvalidNumber" "InvalidNumber.__init__" C_InvalidNumber fI_InvalidNumber fd)
    (n_InvalidPrices : PySem.W.nsIn K mainGlobals "InvalidPrices" = some (some (.ref C_InvalidPrices)))
    (e_InvalidPrices : ∃ fd, ErrI K mg "InvalidPrices" "InvalidPrices.__init__" C_InvalidPrices fI_InvalidPrices fd)
    (n_InvalidRoad : PySem.W.nsIn K mainGlobals "InvalidRoad" = some (some (.ref C_InvalidRoad)))
    (e_InvalidRoad : ∃ fd, ErrI K mg "InvalidRoad" "InvalidRoad.__init__" C_InvalidRoad fI_InvalidRoad fd)
    (n_InvalidTrain : PySem.W.nsIn K mainGlobals "InvalidTrain" = some (some (.ref C_InvalidTrain)))
    (e_InvalidTrain : ∃ fd, ErrI K mg "InvalidTrain" "InvalidTrain.__init__" C_InvalidTrain fI_InvalidTrain fd)
    (n_InvalidWord : PySem.W.nsIn K mainGlobals "InvalidWord" = some (some (.ref C_InvalidWord)))
    (e_InvalidWord : ∃ fd, ErrI K mg "InvalidWord" "InvalidWord.__init__" C_InvalidWord fI_InvalidWord fd)
    (n_NothingToRedo : PySem.W.nsIn K mainGlobals "NothingToRedo" = some (some (.ref C_NothingToRedo)))
    (ty_NothingToRedo : PySem.W.typeIn K (.ref C_NothingToRedo) = some (.type "type")) (hd_NothingToRedo : PySem.W.hasDictIn K C_NothingToRedo = true)
    (q_NothingToRedo : PySem.W.excIn K C_NothingToRedo PySem.HandSPX.veTail "ValueError.__new__" = true) (k_NothingToRedo : PySem.W.keepIn K (.ref C_NothingToRedo) = true) (x_NothingToRedo : ExcC K C_NothingToRedo) (v_NothingToRedo : PySem.W.findIn K (.ref C_NothingToRedo) "value" = some none)
    (n_NothingToUndo : PySem.W.nsIn K mainGlobals "NothingToUndo" = some (some (.ref C_NothingToUndo)))
    (ty_NothingToUndo : PySem.W.typeIn K (.ref C_NothingToUndo) = some (.type "type")) (hd_NothingToUndo : PySem.W.hasDictIn K C_NothingToUndo = true)
    (q_NothingToUndo : PySem.W.excIn K C_NothingToUndo PySem.HandSPX.veTail "ValueError.__new__" = true) (k_NothingToUndo : PySem.W.keepIn K (.ref C_NothingToUndo) = true) (x_NothingToUndo : ExcC K C_NothingToUndo) (v_NothingToUndo : PySem.W.findIn K (.ref C_NothingToUndo) "value" = some none)
    (n_SwapError : PySem.W.nsIn K mainGlobals "SwapError" = some (some (.ref C_SwapError)))
    (ty_SwapError : PySem.W.typeIn K (.ref C_SwapError) = some (.type "type")) (hd_SwapError : PySem.W.hasDictIn K C_SwapError = true)
    (n_TooLong : PySem.W.nsIn K mainGlobals "TooLong" = some (some (.ref C_TooLong)))
    (e_TooLong : ∃ fd, ErrI K mg "TooLong" "TooLong.__init__" C_TooLong fI_TooLong fd)
    (n_TooMany : PySem.W.nsIn K mainGlobals "TooMany" = some (some (.ref C_TooMany)))
    (e_TooMany : ∃ fd, ErrI K mg "TooMany" "TooMany.__init__" C_TooMany fI_TooMany fd)
    (n_Unlike : PySem.W.nsIn K mainGlobals "Unlike" = some (some (.ref C_Unlike)))
    (e_Unlike : ∃ fd, ErrI K mg "Unlike" "Unlike.__init__" C_Unlike fI_Unlike fd)
    (u_InvalidNumber_InvalidNumber : PySem.W.subIn K (.ref C_InvalidNumber) (.ref C_InvalidNumber) = some true)
    (u_InvalidNumber_InvalidWord : PySem.W.subIn K (.ref C_InvalidNumber) (.ref C_InvalidWord) = some false)
    (u_InvalidNumber_InvalidJoints : PySem.W.subIn K (.ref C_InvalidNumber) (.ref C_InvalidJoints) = some false)
    (u_InvalidNumber_InvalidPrices : PySem.W.subIn K (.ref C_InvalidNumber) (.ref C_InvalidPrices) = some false)
    (u_InvalidNumber_InvalidList : PySem.W.subIn K (.ref C_InvalidNumber) (.ref C_InvalidList) = some false)
    (u_InvalidNumber_InvalidTrain : PySem.W.subIn K (.ref C_InvalidNumber) (.ref C_InvalidTrain) = some false)
    (u_InvalidNumber_InvalidMachine : PySem.W.subIn K (.ref C_InvalidNumber) (.ref C_InvalidMachine) = some false)
    (u_InvalidNumber_InvalidFar : PySem.W.subIn K (.ref C_InvalidNumber) (.ref C_InvalidFar) = some false)
    (u_InvalidNumber_InvalidRoad : PySem.W.subIn K (.ref C_InvalidNumber) (.ref C_InvalidRoad) = some false)
    (u_InvalidNumber_InvalidLine : PySem.W.subIn K (.ref C_InvalidNumber) (.ref C_InvalidLine) = some false)
    (u_InvalidNumber_InvalidDeed : PySem.W.subIn K (.ref C_InvalidNumber) (.ref C_InvalidDeed) = some false)
    (u_InvalidNumber_Unlike : PySem.W.subIn K (.ref C_InvalidNumber) (.ref C_Unlike) = some false)
    (u_InvalidNumber_TooMany : PySem.W.subIn K (.ref C_InvalidNumber) (.ref C_TooMany) = some false)
    (u_InvalidNumber_TooLong : PySem.W.subIn K (.ref C_InvalidNumber) (.ref C_TooLong) = some false)
    (u_InvalidNumber_NothingToUndo : PySem.W.subIn K (.ref C_InvalidNumber) (.ref C_NothingToUndo) = some false)
    (u_InvalidNumber_NothingToRedo : PySem.W.subIn K (.ref C_InvalidNumber) (.ref C_NothingToRedo) = some false)
    (us_InvalidNumber : PySem.W.subIn K (.ref C_InvalidNumber) (.ref C_SwapError) = some true) (ut_InvalidNumber : PySem.W.subIn K (.ref C_InvalidNumber) (.type "ValueError") = some true)
    (u_InvalidWord_InvalidNumber : PySem.W.subIn K (.ref C_InvalidWord) (.ref C_InvalidNumber) = some false)
    (u_InvalidWord_InvalidWord : PySem.W.subIn K (.ref C_InvalidWord) (.ref C_InvalidWord) = some true)
    (u_InvalidWord_InvalidJoints : PySem.W.subIn K (.ref C_InvalidWord) (.ref C_InvalidJoints) = some false)
    (u_InvalidWord_InvalidPrices : PySem.W.subIn K (.ref C_InvalidWord) (.ref C_InvalidPrices) = some false)
    (u_InvalidWord_InvalidList : PySem.W.subIn K (.ref C_InvalidWord) (.ref C_InvalidList) = some false)
    (u_InvalidWord_InvalidTrain : PySem.W.subIn K (.ref C_InvalidWord) (.ref C_InvalidTrain) = some false)
    (u_InvalidWord_InvalidMachine : PySem.W.subIn K (.ref C_InvalidWord) (.ref C_InvalidMachine) = some false)
    (u_InvalidWord_InvalidFar : PySem.W.subIn K (.ref C_InvalidWord) (.ref C_InvalidFar) = some false)
    (u_InvalidWord_InvalidRoad : PySem.W.subIn K (.ref C_InvalidWord) (.ref C_InvalidRoad) = some false)
    (u_InvalidWord_InvalidLine : PySem.W.subIn K (.ref C_InvalidWord) (.ref C_InvalidLine) = some false)
    (u_InvalidWord_InvalidDeed : PySem.W.subIn K (.ref C_InvalidWord) (.ref C_InvalidDeed) = some false)
    (u_InvalidWord_Unlike : PySem.W.subIn K (.ref C_InvalidWord) (.ref C_Unlike) = some false)
    (u_InvalidWord_TooMany : PySem.W.subIn K (.ref C_InvalidWord) (.ref C_TooMany) = some false)
    (u_InvalidWord_TooLong : PySem.W.subIn K (.ref C_InvalidWord) (.ref C_TooLong) = some false)
    (u_InvalidWord_NothingToUndo : PySem.W.subIn K (.ref C_InvalidWord) (.ref C_NothingToUndo) = some false)
    (u_InvalidWord_NothingToRedo : PySem.W.subIn K (.ref C_InvalidWord) (.ref C_NothingToRedo) = some false)
    (us_InvalidWord : PySem.W.subIn K (.ref C_InvalidWord) (.ref C_SwapError) = some true) (ut_InvalidWord : PySem.W.subIn K (.ref C_InvalidWord) (.type "ValueError") = some true)
    (u_InvalidJoints_InvalidNumber : PySem.W.subIn K (.ref C_InvalidJoints) (.ref C_InvalidNumber) = some false)
    (u_InvalidJoints_InvalidWord : PySem.W.subIn K (.ref C_InvalidJoints) (.ref C_InvalidWord) = some false)
    (u_InvalidJoints_InvalidJoints : PySem.W.subIn K (.ref C_InvalidJoints) (.ref C_InvalidJoints) = some true)
    (u_InvalidJoints_InvalidPrices : PySem.W.subIn K (.ref C_InvalidJoints) (.ref C_InvalidPrices) = some false)
    (u_InvalidJoints_InvalidList : PySem.W.subIn K (.ref C_InvalidJoints) (.ref C_InvalidList) = some false)
    (u_InvalidJoints_InvalidTrain : PySem.W.subIn K (.ref C_InvalidJoints) (.ref C_InvalidTrain) = some false)
    (u_InvalidJoints_InvalidMachine : PySem.W.subIn K (.ref C_InvalidJoints) (.ref C_InvalidMachine) = some false)
    (u_InvalidJoints_InvalidFar : PySem.W.subIn K (.ref C_InvalidJoints) (.ref C_InvalidFar) = some false)
    (u_InvalidJoints_InvalidRoad : PySem.W.subIn K (.ref C_InvalidJoints) (.ref C_InvalidRoad) = some false)
    (u_InvalidJoints_InvalidLine : PySem.W.subIn K (.ref C_InvalidJoints) (.ref C_InvalidLine) = some false)
    (u_InvalidJoints_InvalidDeed : PySem.W.subIn K (.ref C_InvalidJoints) (.ref C_InvalidDeed) = some false)
    (u_InvalidJoints_Unlike : PySem.W.subIn K (.ref C_InvalidJoints) (.ref C_Unlike) = some false)
    (u_InvalidJoints_TooMany : PySem.W.subIn K (.ref C_InvalidJoints) (.ref C_TooMany) = some false)
    (u_InvalidJoints_TooLong : PySem.W.subIn K (.ref C_InvalidJoints) (.ref C_TooLong) = some false)
    (u_InvalidJoints_NothingToUndo : PySem.W.subIn K (.ref C_InvalidJoints) (.ref C_NothingToUndo) = some false)
    (u_InvalidJoints_NothingToRedo : PySem.W.subIn K (.ref C_InvalidJoints) (.ref C_NothingToRedo) = some false)
    (us_InvalidJoints : PySem.W.subIn K (.ref C_InvalidJoints) (.ref C_SwapError) = some true) (ut_InvalidJoints : PySem.W.subIn K (.ref C_InvalidJoints) (.type "ValueError") = some true)
    (u_InvalidPrices_InvalidNumber : PySem.W.subIn K (.ref C_InvalidPrices) (.ref C_InvalidNumber) = some false)
    (u_InvalidPrices_InvalidWord : PySem.W.subIn K (.ref C_InvalidPrices) (.ref C_InvalidWord) = some false)
    (u_InvalidPrices_InvalidJoints : PySem.W.subIn K (.ref C_InvalidPrices) (.ref C_InvalidJoints) = some false)
    (u_InvalidPrices_InvalidPrices : PySem.W.subIn K (.ref C_InvalidPrices) (.ref C_InvalidPrices) = some true)
    (u_InvalidPrices_InvalidList : PySem.W.subIn K (.ref C_InvalidPrices) (.ref C_InvalidList) = some false)
    (u_InvalidPrices_InvalidTrain : PySem.W.subIn K (.ref C_InvalidPrices) (.ref C_InvalidTrain) = some false)
    (u_InvalidPrices_InvalidMachine : PySem.W.subIn K (.ref C_InvalidPrices) (.ref C_InvalidMachine) = some false)
    (u_InvalidPrices_InvalidFar : PySem.W.subIn K (.ref C_InvalidPrices) (.ref C_InvalidFar) = some false)
    (u_InvalidPrices_InvalidRoad : PySem.W.subIn K (.ref C_InvalidPrices) (.ref C_InvalidRoad) = some false)
    (u_InvalidPrices_InvalidLine : PySem.W.subIn K (.ref C_InvalidPrices) (.ref C_InvalidLine) = some false)
    (u_InvalidPrices_InvalidDeed : PySem.W.subIn K (.ref C_InvalidPrices) (.ref C_InvalidDeed) = some false)
    (u_InvalidPrices_Unlike : PySem.W.subIn K (.ref C_InvalidPrices) (.ref C_Unlike) = some false)
    (u_InvalidPrices_TooMany : PySem.W.subIn K (.ref C_InvalidPrices) (.ref C_TooMany) = some false)
    (u_InvalidPrices_TooLong : PySem.W.subIn K (.ref C_InvalidPrices) (.ref C_TooLong) = some false)
    (u_InvalidPrices_NothingToUndo : PySem.W.subIn K (.ref C_InvalidPrices) (.ref C_NothingToUndo) = some false)
    (u_InvalidPrices_NothingToRedo : PySem.W.subIn K (.ref C_InvalidPrices) (.ref C_NothingToRedo) = some false)
    (us_InvalidPrices : PySem.W.subIn K (.ref C_InvalidPrices) (.ref C_SwapError) = some true) (ut_InvalidPrices : PySem.W.subIn K (.ref C_InvalidPrices) (.type "ValueError") = some true)
    (u_InvalidList_InvalidNumber : PySem.W.subIn K (.ref C_InvalidList) (.ref C_InvalidNumber) = some false)
    (u_InvalidList_InvalidWord : PySem.W.subIn K (.ref C_InvalidList) (.ref C_InvalidWord) = some false)
    (u_InvalidList_InvalidJoints : PySem.W.subIn K (.ref C_InvalidList) (.ref C_InvalidJoints) = some false)
    (u_InvalidList_InvalidPrices : PySem.W.subIn K (.ref C_InvalidList) (.ref C_InvalidPrices) = some false)
    (u_InvalidList_InvalidList : PySem.W.subIn K (.ref C_InvalidList) (.ref C_InvalidList) = some true)
    (u_InvalidList_InvalidTrain : PySem.W.subIn K (.ref C_InvalidList) (.ref C_InvalidTrain) = some false)
    (u_InvalidList_InvalidMachine : PySem.W.subIn K (.ref C_InvalidList) (.ref C_InvalidMachine) = some false)
    (u_InvalidList_InvalidFar : PySem.W.subIn K (.ref C_InvalidList) (.ref C_InvalidFar) = some false)
    (u_InvalidList_InvalidRoad : PySem.W.subIn K (.ref C_InvalidList) (.ref C_InvalidRoad) = some false)
    (u_InvalidList_InvalidLine : PySem.W.subIn K (.ref C_InvalidList) (.ref C_InvalidLine) = some false)
    (u_InvalidList_InvalidDeed : PySem.W.subIn K (.ref C_InvalidList) (.ref C_InvalidDeed) = some false)
    (u_InvalidList_Unlike : PySem.W.subIn K (.ref C_InvalidList) (.ref C_Unlike) = some false)
    (u_InvalidList_TooMany : PySem.W.subIn K (.ref C_InvalidList) (.ref C_TooMany) = some false)
    (u_InvalidList_TooLong : PySem.W.subIn K (.ref C_InvalidList) (.ref C_TooLong) = some false)
    (u_InvalidList_NothingToUndo : PySem.W.subIn K (.ref C_InvalidList) (.ref C_NothingToUndo) = some false)
    (u_InvalidList_NothingToRedo : PySem.W.subIn K (.ref C_InvalidList) (.ref C_NothingToRedo) = some false)
    (us_InvalidList : PySem.W.subIn K (.ref C_InvalidList) (.ref C_SwapError) = some true) (ut_InvalidList : PySem.W.subIn K (.ref C_InvalidList) (.type "ValueError") = some true)
    (u_InvalidTrain_InvalidNumber : PySem.W.subIn K (.ref C_InvalidTrain) (.ref C_InvalidNumber) = some false)
    (u_InvalidTrain_InvalidWord : PySem.W.subIn K (.ref C_InvalidTrain) (.ref C_InvalidWord) = some false)
    (u_InvalidTrain_InvalidJoints : PySem.W.subIn K (.ref C_InvalidTrain) (.ref C_InvalidJoints) = some false)
    (u_InvalidTrain_InvalidPrices : PySem.W.subIn K (.ref C_InvalidTrain) (.ref C_InvalidPrices) = some false)
    (u_InvalidTrain_InvalidList : PySem.W.subIn K (.ref C_InvalidTrain) (.ref C_InvalidList) = some false)
    (u_InvalidTrain_InvalidTrain : PySem.W.subIn K (.ref C_InvalidTrain) (.ref C_InvalidTrain) = some true)
    (u_InvalidTrain_InvalidMachine : PySem.W.subIn K (.ref C_InvalidTrain) (.ref C_InvalidMachine) = some false)
    (u_InvalidTrain_InvalidFar : PySem.W.subIn K (.ref C_InvalidTrain) (.ref C_InvalidFar) = some false)
    (u_InvalidTrain_InvalidRoad : PySem.W.subIn K (.ref C_InvalidTrain) (.ref C_InvalidRoad) = some false)
    (u_InvalidTrain_InvalidLine : PySem.W.subIn K (.ref C_InvalidTrain) (.ref C_InvalidLine) = some false)
    (u_InvalidTrain_InvalidDeed : PySem.W.subIn K (.ref C_InvalidTrain) (.ref C_InvalidDeed) = some false)
    (u_InvalidTrain_Unlike : PySem.W.subIn K (.ref C_InvalidTrain) (.ref C_Unlike) = some false)
    (u_InvalidTrain_TooMany : PySem.W.subIn K (.ref C_InvalidTrain) (.ref C_TooMany) = some false)
    (u_InvalidTrain_TooLong : PySem.W.subIn K (.ref C_InvalidTrain) (.ref C_TooLong) = some false)
    (u_InvalidTrain_NothingToUndo : PySem.W.subIn K (.ref C_InvalidTrain) (.ref C_NothingToUndo) = some false)
    (u_InvalidTrain_NothingToRedo : PySem.W.subIn K (.ref C_InvalidTrain) (.ref C_NothingToRedo) = some false)
    (us_InvalidTrain : PySem.W.subIn K (.ref C_InvalidTrain) (.ref C_SwapError) = some true) (ut_InvalidTrain : PySem.W.subIn K (.ref C_InvalidTrain) (.type "ValueError") = some true)
    (u_InvalidMachine_InvalidNumber : PySem.W.subIn K (.ref C_InvalidMachine) (.ref C_InvalidNumber) = some false)
    (u_InvalidMachine_InvalidWord : PySem.W.subIn K (.ref C_InvalidMachine) (.ref C_InvalidWord) = some false)
    (u_InvalidMachine_InvalidJoints : PySem.W.subIn K (.ref C_InvalidMachine) (.ref C_InvalidJoints) = some false)
    (u_InvalidMachine_InvalidPrices : PySem.W.subIn K (.ref C_InvalidMachine) (.ref C_InvalidPrices) = some false)
    (u_InvalidMachine_InvalidList : PySem.W.subIn K (.ref C_InvalidMachine) (.ref C_InvalidList) = some false)
    (u_InvalidMachine_InvalidTrain : PySem.W.subIn K (.ref C_InvalidMachine) (.ref C_InvalidTrain) = some false)
    (u_InvalidMachine_InvalidMachine : PySem.W.subIn K (.ref C_InvalidMachine) (.ref C_InvalidMachine) = some true)
    (u_InvalidMachine_InvalidFar : PySem.W.subIn K (.ref C_InvalidMachine) (.ref C_InvalidFar) = some false)
    (u_InvalidMachine_InvalidRoad : PySem.W.subIn K (.ref C_InvalidMachine) (.ref C_InvalidRoad) = some false)
    (u_InvalidMachine_InvalidLine : PySem.W.subIn K (.ref C_InvalidMachine) (.ref C_InvalidLine) = some false)
    (u_InvalidMachine_InvalidDeed : PySem.W.subIn K (.ref C_InvalidMachine) (.ref C_InvalidDeed) = some false)
    (u_InvalidMachine_Unlike : PySem.W.subIn K (.ref C_InvalidMachine) (.ref C_Unlike) = some false)
    (u_InvalidMachine_TooMany : PySem.W.subIn K (.ref C_InvalidMachine) (.ref C_TooMany) = some false)
    (u_InvalidMachine_TooLong : PySem.W.subIn K (.ref C_InvalidMachine) (.ref C_TooLong) = some false)
    (u_InvalidMachine_NothingToUndo : PySem.W.subIn K (.ref C_InvalidMachine) (.ref C_NothingToUndo) = some false)
    (u_InvalidMachine_NothingToRedo : PySem.W.subIn K (.ref C_InvalidMachine) (.ref C_NothingToRedo) = some false)
    (us_InvalidMachine : PySem.W.subIn K (.ref C_InvalidMachine) (.ref C_SwapError) = some true) (ut_InvalidMachine : PySem.W.subIn K (.ref C_InvalidMachine) (.type "ValueError") = some true)
    (u_InvalidFar_InvalidNumber : PySem.W.subIn K (.ref C_InvalidFar) (.ref C_InvalidNumber) = some false)
    (u_InvalidFar_InvalidWord : PySem.W.subIn K (.ref C_InvalidFar) (.ref C_InvalidWord) = some false)
    (u_InvalidFar_InvalidJoints : PySem.W.subIn K (.ref C_InvalidFar) (.ref C_InvalidJoints) = some false)
    (u_InvalidFar_InvalidPrices : PySem.W.subIn K (.ref C_InvalidFar) (.ref C_InvalidPrices) = some false)
    (u_InvalidFar_InvalidList : PySem.W.subIn K (.ref C_InvalidFar) (.ref C_InvalidList) = some false)
    (u_InvalidFar_InvalidTrain : PySem.W.subIn K (.ref C_InvalidFar) (.ref C_InvalidTrain) = some false)
    (u_InvalidFar_InvalidMachine : PySem.W.subIn K (.ref C_InvalidFar) (.ref C_InvalidMachine) = some false)
    (u_InvalidFar_InvalidFar : PySem.W.subIn K (.ref C_InvalidFar) (.ref C_InvalidFar) = some true)
    (u_InvalidFar_InvalidRoad : PySem.W.subIn K (.ref C_InvalidFar) (.ref C_InvalidRoad) = some false)
    (u_InvalidFar_InvalidLine : PySem.W.subIn K (.ref C_InvalidFar) (.ref C_InvalidLine) = some false)
    (u_InvalidFar_InvalidDeed : PySem.W.subIn K (.ref C_InvalidFar) (.ref C_InvalidDeed) = some false)
    (u_InvalidFar_Unlike : PySem.W.subIn K (.ref C_InvalidFar) (.ref C_Unlike) = some false)
    (u_InvalidFar_TooMany : PySem.W.subIn K (.ref C_InvalidFar) (.ref C_TooMany) = some false)
    (u_InvalidFar_TooLong : PySem.W.subIn K (.ref C_InvalidFar) (.ref C_TooLong) = some false)
    (u_InvalidFar_NothingToUndo : PySem.W.subIn K (.ref C_InvalidFar) (.ref C_NothingToUndo) = some false)
    (u_InvalidFar_NothingToRedo : PySem.W.subIn K (.ref C_InvalidFar) (.ref C_NothingToRedo) = some false)
    (us_InvalidFar : PySem.W.subIn K (.ref C_InvalidFar) (.ref C_SwapError) = some true) (ut_InvalidFar : PySem.W.subIn K (.ref C_InvalidFar) (.type "ValueError") = some true)
    (u_InvalidRoad_InvalidNumber : PySem.W.subIn K (.ref C_InvalidRoad) (.ref C_InvalidNumber) = some false)
    (u_InvalidRoad_InvalidWord : PySem.W.subIn K (.ref C_InvalidRoad) (.ref C_InvalidWord) = some false)
    (u_InvalidRoad_InvalidJoints : PySem.W.subIn K (.ref C_InvalidRoad) (.ref C_InvalidJoints) = some false)
    (u_InvalidRoad_InvalidPrices : PySem.W.subIn K (.ref C_InvalidRoad) (.ref C_InvalidPrices) = some false)
    (u_InvalidRoad_InvalidList : PySem.W.subIn K (.ref C_InvalidRoad) (.ref C_InvalidList) = some false)
    (u_InvalidRoad_InvalidTrain : PySem.W.subIn K (.ref C_InvalidRoad) (.ref C_InvalidTrain) = some false)
    (u_InvalidRoad_InvalidMachine : PySem.W.subIn K (.ref C_InvalidRoad) (.ref C_InvalidMachine) = some false)
    (u_InvalidRoad_InvalidFar : PySem.W.subIn K (.ref C_InvalidRoad) (.ref C_InvalidFar) = some false)
    (u_InvalidRoad_InvalidRoad : PySem.W.subIn K (.ref C_InvalidRoad) (.ref C_InvalidRoad) = some true)
    (u_InvalidRoad_InvalidLine : PySem.W.subIn K (.ref C_InvalidRoad) (.ref C_InvalidLine) = some false)
    (u_InvalidRoad_InvalidDeed : PySem.W.subIn K (.ref C_InvalidRoad) (.ref C_InvalidDeed) = some false)
    (u_InvalidRoad_Unlike : PySem.W.subIn K (.ref C_InvalidRoad) (.ref C_Unlike) = some false)
    (u_InvalidRoad_TooMany : PySem.W.subIn K (.ref C_InvalidRoad) (.ref C_TooMany) = some false)
    (u_InvalidRoad_TooLong : PySem.W.subIn K (.ref C_InvalidRoad) (.ref C_TooLong) = some false)
    (u_InvalidRoad_NothingToUndo : PySem.W.subIn K (.ref C_InvalidRoad) (.ref C_NothingToUndo) = some false)
    (u_InvalidRoad_NothingToRedo : PySem.W.subIn K (.ref C_InvalidRoad) (.ref C_NothingToRedo) = some false)
    (us_InvalidRoad : PySem.W.subIn K (.ref C_InvalidRoad) (.ref C_SwapError) = some true) (ut_InvalidRoad : PySem.W.subIn K (.ref C_InvalidRoad) (.type "ValueError") = some true)
    (u_InvalidLine_InvalidNumber : PySem.W.subIn K (.ref C_InvalidLine) (.ref C_InvalidNumber) = some false)
    (u_InvalidLine_InvalidWord : PySem.W.subIn K (.ref C_InvalidLine) (.ref C_InvalidWord) = some false)
    (u_InvalidLine_InvalidJoints : PySem.W.subIn K (.ref C_InvalidLine) (.ref C_InvalidJoints) = some false)
    (u_InvalidLine_InvalidPrices : PySem.W.subIn K (.ref C_InvalidLine) (.ref C_InvalidPrices) = some false)
    (u_InvalidLine_InvalidList : PySem.W.subIn K (.ref C_InvalidLine) (.ref C_InvalidList) = some false)
    (u_InvalidLine_InvalidTrain : PySem.W.subIn K (.ref C_InvalidLine) (.ref C_InvalidTrain) = some false)
    (u_InvalidLine_InvalidMachine : PySem.W.subIn K (.ref C_InvalidLine) (.ref C_InvalidMachine) = some false)
    (u_InvalidLine_InvalidFar : PySem.W.subIn K (.ref C_InvalidLine) (.ref C_InvalidFar) = some false)
    (u_InvalidLine_InvalidRoad : PySem.W.subIn K (.ref C_InvalidLine) (.ref C_InvalidRoad) = some false)
    (u_InvalidLine_InvalidLine : PySem.W.subIn K (.ref C_InvalidLine) (.ref C_InvalidLine) = some true)
    (u_InvalidLine_InvalidDeed : PySem.W.subIn K (.ref C_InvalidLine) (.ref C_InvalidDeed) = some false)
    (u_InvalidLine_Unlike : PySem.W.subIn K (.ref C_InvalidLine) (.ref C_Unlike) = some false)
    (u_InvalidLine_TooMany : PySem.W.subIn K (.ref C_InvalidLine) (.ref C_TooMany) = some false)
    (u_InvalidLine_TooLong : PySem.W.subIn K (.ref C_InvalidLine) (.ref C_TooLong) = some false)
    (u_InvalidLine_NothingToUndo : PySem.W.subIn K (.ref C_InvalidLine) (.ref C_NothingToUndo) = some false)
    (u_InvalidLine_NothingToRedo : PySem.W.subIn K (.ref C_InvalidLine) (.ref C_NothingToRedo) = some false)
    (us_InvalidLine : PySem.W.subIn K (.ref C_InvalidLine) (.ref C_SwapError) = some true) (ut_InvalidLine : PySem.W.subIn K (.ref C_InvalidLine) (.type "ValueError") = some true)
    (u_InvalidDeed_InvalidNumber : PySem.W.subIn K (.ref C_InvalidDeed) (.ref C_InvalidNumber) = some false)
    (u_InvalidDeed_InvalidWord : PySem.W.subIn K (.ref C_InvalidDeed) (.ref C_InvalidWord) = some false)
    (u_InvalidDeed_InvalidJoints : PySem.W.subIn K (.ref C_InvalidDeed) (.ref C_InvalidJoints) = some false)
    (u_InvalidDeed_InvalidPrices : PySem.W.subIn K (.ref C_InvalidDeed) (.ref C_InvalidPrices) = some false)
    (u_InvalidDeed_InvalidList : PySem.W.subIn K (.ref C_InvalidDeed) (.ref C_InvalidList) = some false)
    (u_InvalidDeed_InvalidTrain : PySem.W.subIn K (.ref C_InvalidDeed) (.ref C_InvalidTrain) = some false)
    (u_InvalidDeed_InvalidMachine : PySem.W.subIn K (.ref C_InvalidDeed) (.ref C_InvalidMachine) = some false)
    (u_InvalidDeed_InvalidFar : PySem.W.subIn K (.ref C_InvalidDeed) (.ref C_InvalidFar) = some false)
    (u_InvalidDeed_InvalidRoad : PySem.W.subIn K (.ref C_InvalidDeed) (.ref C_InvalidRoad) = some false)
    (u_InvalidDeed_InvalidLine : PySem.W.subIn K (.ref C_InvalidDeed) (.ref C_InvalidLine) = some false)
    (u_InvalidDeed_InvalidDeed : PySem.W.subIn K (.ref C_InvalidDeed) (.ref C_InvalidDeed) = some true)
    (u_InvalidDeed_Unlike : PySem.W.subIn K (.ref C_InvalidDeed) (.ref C_Unlike) = some false)
    (u_InvalidDeed_TooMany : PySem.W.subIn K (.ref C_InvalidDeed) (.ref C_TooMany) = some false)
    (u_InvalidDeed_TooLong : PySem.W.subIn K (.ref C_InvalidDeed) (.ref C_TooLong) = some false)
    (u_InvalidDeed_NothingToUndo : PySem.W.subIn K (.ref C_InvalidDeed) (.ref C_NothingToUndo) = some false)
    (u_InvalidDeed_NothingToRedo : PySem.W.subIn K (.ref C_InvalidDeed) (.ref C_NothingToRedo) = some false)
    (us_InvalidDeed : PySem.W.subIn K (.ref C_InvalidDeed) (.ref C_SwapError) = some true) (ut_InvalidDeed : PySem.W.subIn K (.ref C_InvalidDeed) (.type "ValueError") = some true)
    (u_Unlike_InvalidNumber : PySem.W.subIn K (.ref C_Unlike) (.ref C_InvalidNumber) = some false)
    (u_Unlike_InvalidWord : PySem.W.subIn K (.ref C_Unlike) (.ref C_InvalidWord) = some false)
    (u_Unlike_InvalidJoints : PySem.W.subIn K (.ref C_Unlike) (.ref C_InvalidJoints) = some false)
    (u_Unlike_InvalidPrices : PySem.W.subIn K (.ref C_Unlike) (.ref C_InvalidPrices) = some false)
    (u_Unlike_InvalidList : PySem.W.subIn K (.ref C_Unlike) (.ref C_InvalidList) = some false)
    (u_Unlike_InvalidTrain : PySem.W.subIn K (.ref C_Unlike) (.ref C_InvalidTrain) = some false)
    (u_Unlike_InvalidMachine : PySem.W.subIn K (.ref C_Unlike) (.ref C_InvalidMachine) = some false)
    (u_Unlike_InvalidFar : PySem.W.subIn K (.ref C_Unlike) (.ref C_InvalidFar) = some false)
    (u_Unlike_InvalidRoad : PySem.W.subIn K (.ref C_Unlike) (.ref C_InvalidRoad) = some false)
    (u_Unlike_InvalidLine : PySem.W.subIn K (.ref C_Unlike) (.ref C_InvalidLine) = some false)
    (u_Unlike_InvalidDeed : PySem.W.subIn K (.ref C_Unlike) (.ref C_InvalidDeed) = some false)
    (u_Unlike_Unlike : PySem.W.subIn K (.ref C_Unlike) (.ref C_Unlike) = some true)
    (u_Unlike_TooMany : PySem.W.subIn K (.ref C_Unlike) (.ref C_TooMany) = some false)
    (u_Unlike_TooLong : PySem.W.subIn K (.ref C_Unlike) (.ref C_TooLong) = some false)
    (u_Unlike_NothingToUndo : PySem.W.subIn K (.ref C_Unlike) (.ref C_NothingToUndo) = some false)
    (u_Unlike_NothingToRedo : PySem.W.subIn K (.ref C_Unlike) (.ref C_NothingToRedo) = some false)
    (us_Unlike : PySem.W.subIn K (.ref C_Unlike) (.ref C_SwapError) = some true) (ut_Unlike : PySem.W.subIn K (.ref C_Unlike) (.type "ValueError") = some true)
    (u_TooMany_InvalidNumber : PySem.W.subIn K (.ref C_TooMany) (.ref C_InvalidNumber) = some false)
    (u_TooMany_InvalidWord : PySem.W.subIn K (.ref C_TooMany) (.ref C_InvalidWord) = some false)
    (u_TooMany_InvalidJoints : PySem.W.subIn K (.ref C_TooMany) (.ref C_InvalidJoints) = some false)
    (u_TooMany_InvalidPrices : PySem.W.subIn K (.ref C_TooMany) (.ref C_InvalidPrices) = some false)
    (u_TooMany_InvalidList : PySem.W.subIn K (.ref C_TooMany) (.ref C_InvalidList) = some false)
    (u_TooMany_InvalidTrain : PySem.W.subIn K (.ref C_TooMany) (.ref C_InvalidTrain) = some false)
    (u_TooMany_InvalidMachine : PySem.W.subIn K (.ref C_TooMany) (.ref C_InvalidMachine) = some false)
    (u_TooMany_InvalidFar : PySem.W.subIn K (.ref C_TooMany) (.ref C_InvalidFar) = some false)
    (u_TooMany_InvalidRoad : PySem.W.subIn K (.ref C_TooMany) (.ref C_InvalidRoad) = some false)
    (u_TooMany_InvalidLine : PySem.W.subIn K (.ref C_TooMany) (.ref C_InvalidLine) = some false)
    (u_TooMany_InvalidDeed : PySem.W.subIn K (.ref C_TooMany) (.ref C_InvalidDeed) = some false)
    (u_TooMany_Unlike : PySem.W.subIn K (.ref C_TooMany) (.ref C_Unlike) = some false)
    (u_TooMany_TooMany : PySem.W.subIn K (.ref C_TooMany) (.ref C_TooMany) = some true)
    (u_TooMany_TooLong : PySem.W.subIn K (.ref C_TooMany) (.ref C_TooLong) = some false)
    (u_TooMany_NothingToUndo : PySem.W.subIn K (.ref C_TooMany) (.ref C_NothingToUndo) = some false)
    (u_TooMany_NothingToRedo : PySem.W.subIn K (.ref C_TooMany) (.ref C_NothingToRedo) = some false)
    (us_TooMany : PySem.W.subIn K (.ref C_TooMany) (.ref C_SwapError) = some true) (ut_TooMany : PySem.W.subIn K (.ref C_TooMany) (.type "ValueError") = some true)
    (u_TooLong_InvalidNumber : PySem.W.subIn K (.ref C_TooLong) (.ref C_InvalidNumber) = some false)
    (u_TooLong_InvalidWord : PySem.W.subIn K (.ref C_TooLong) (.ref C_InvalidWord) = some false)
    (u_TooLong_InvalidJoints : PySem.W.subIn K (.ref C_TooLong) (.ref C_InvalidJoints) = some false)
    (u_TooLong_InvalidPrices : PySem.W.subIn K (.ref C_TooLong) (.ref C_InvalidPrices) = some false)
    (u_TooLong_InvalidList : PySem.W.subIn K (.ref C_TooLong) (.ref C_InvalidList) = some false)
    (u_TooLong_InvalidTrain : PySem.W.subIn K (.ref C_TooLong) (.ref C_InvalidTrain) = some false)
    (u_TooLong_InvalidMachine : PySem.W.subIn K (.ref C_TooLong) (.ref C_InvalidMachine) = some false)
    (u_TooLong_InvalidFar : PySem.W.subIn K (.ref C_TooLong) (.ref C_InvalidFar) = some false)
    (u_TooLong_InvalidRoad : PySem.W.subIn K (.ref C_TooLong) (.ref C_InvalidRoad) = some false)
    (u_TooLong_InvalidLine : PySem.W.subIn K (.ref C_TooLong) (.ref C_InvalidLine) = some false)
    (u_TooLong_InvalidDeed : PySem.W.subIn K (.ref C_TooLong) (.ref C_InvalidDeed) = some false)
    (u_TooLong_Unlike : PySem.W.subIn K (.ref C_TooLong) (.ref C_Unlike) = some false)
    (u_TooLong_TooMany : PySem.W.subIn K (.ref C_TooLong) (.ref C_TooMany) = some false)
    (u_TooLong_TooLong : PySem.W.subIn K (.ref C_TooLong) (.ref C_TooLong) = some true)
    (u_TooLong_NothingToUndo : PySem.W.subIn K (.ref C_TooLong) (.ref C_NothingToUndo) = some false)
    (u_TooLong_NothingToRedo : PySem.W.subIn K (.ref C_TooLong) (.ref C_NothingToRedo) = some false)
    (us_TooLong : PySem.W.subIn K (.ref C_TooLong) (.ref C_SwapError) = some true) (ut_TooLong : PySem.W.subIn K (.ref C_TooLong) (.type "ValueError") = some true)
    (u_NothingToUndo_InvalidNumber : PySem.W.subIn K (.ref C_NothingToUndo) (.ref C_InvalidNumber) = some false)
    (u_NothingToUndo_InvalidWord : PySem.W.subIn K (.ref C_NothingToUndo) (.ref C_InvalidWord) = some false)
    (u_NothingToUndo_InvalidJoints : PySem.W.subIn K (.ref C_NothingToUndo) (.ref C_InvalidJoints) = some false)
    (u_NothingToUndo_InvalidPrices : PySem.W.subIn K (.ref C_NothingToUndo) (.ref C_InvalidPrices) = some false)
    (u_NothingToUndo_InvalidList : PySem.W.subIn K (.ref C_NothingToUndo) (.ref C_InvalidList) = some false)
    (u_NothingToUndo_InvalidTrain : PySem.W.subIn K (.ref C_NothingToUndo) (.ref C_InvalidTrain) = some false)
    (u_NothingToUndo_InvalidMachine : PySem.W.subIn K (.ref C_NothingToUndo) (.ref C_InvalidMachine) = some false)
    (u_NothingToUndo_InvalidFar : PySem.W.subIn K (.ref C_NothingToUndo) (.ref C_InvalidFar) = some false)
    (u_NothingToUndo_InvalidRoad : PySem.W.subIn K (.ref C_NothingToUndo) (.ref C_InvalidRoad) = some false)
    (u_NothingToUndo_InvalidLine : PySem.W.subIn K (.ref C_NothingToUndo) (.ref C_InvalidLine) = some false)
    (u_NothingToUndo_InvalidDeed : PySem.W.subIn K (.ref C_NothingToUndo) (.ref C_InvalidDeed) = some false)
    (u_NothingToUndo_Unlike : PySem.W.subIn K (.ref C_NothingToUndo) (.ref C_Unlike) = some false)
    (u_NothingToUndo_TooMany : PySem.W.subIn K (.ref C_NothingToUndo) (.ref C_TooMany) = some false)
    (u_NothingToUndo_TooLong : PySem.W.subIn K (.ref C_NothingToUndo) (.ref C_TooLong) = some false)
    (u_NothingToUndo_NothingToUndo : PySem.W.subIn K (.ref C_NothingToUndo) (.ref C_NothingToUndo) = some true)
    (u_NothingToUndo_NothingToRedo : PySem.W.subIn K (.ref C_NothingToUndo) (.ref C_NothingToRedo) = some false)
    (us_NothingToUndo : PySem.W.subIn K (.ref C_NothingToUndo) (.ref C_SwapError) = some true) (ut_NothingToUndo : PySem.W.subIn K (.ref C_NothingToUndo) (.type "ValueError") = some true)
    (u_NothingToRedo_InvalidNumber : PySem.W.subIn K (.ref C_NothingToRedo) (.ref C_InvalidNumber) = some false)
    (u_NothingToRedo_InvalidWord : PySem.W.subIn K (.ref C_NothingToRedo) (.ref C_InvalidWord) = some false)
    (u_NothingToRedo_InvalidJoints : PySem.W.subIn K (.ref C_NothingToRedo) (.ref C_InvalidJoints) = some false)
    (u_NothingToRedo_InvalidPrices : PySem.W.subIn K (.ref C_NothingToRedo) (.ref C_InvalidPrices) = some false)
    (u_NothingToRedo_InvalidList : PySem.W.subIn K (.ref C_NothingToRedo) (.ref C_InvalidList) = some false)
    (u_NothingToRedo_InvalidTrain : PySem.W.subIn K (.ref C_NothingToRedo) (.ref C_InvalidTrain) = some false)
    (u_NothingToRedo_InvalidMachine : PySem.W.subIn K (.ref C_NothingToRedo) (.ref C_InvalidMachine) = some false)
    (u_NothingToRedo_InvalidFar : PySem.W.subIn K (.ref C_NothingToRedo) (.ref C_InvalidFar) = some false)
    (u_NothingToRedo_InvalidRoad : PySem.W.subIn K (.ref C_NothingToRedo) (.ref C_InvalidRoad) = some false)
    (u_NothingToRedo_InvalidLine : PySem.W.subIn K (.ref C_NothingToRedo) (.ref C_InvalidLine) = some false)
    (u_NothingToRedo_InvalidDeed : PySem.W.subIn K (.ref C_NothingToRedo) (.ref C_InvalidDeed) = some false)
    (u_NothingToRedo_Unlike : PySem.W.subIn K (.ref C_NothingToRedo) (.ref C_Unlike) = some false)
    (u_NothingToRedo_TooMany : PySem.W.subIn K (.ref C_NothingToRedo) (.ref C_TooMany) = some false)
    (u_NothingToRedo_TooLong : PySem.W.subIn K (.ref C_NothingToRedo) (.ref C_TooLong) = some false)
    (u_NothingToRedo_NothingToUndo : PySem.W.subIn K (.ref C_NothingToRedo) (.ref C_NothingToUndo) = some false)
    (u_NothingToRedo_NothingToRedo : PySem.W.subIn K (.ref C_NothingToRedo) (.ref C_NothingToRedo) = some true)
    (us_NothingToRedo : PySem.W.subIn K (.ref C_NothingToRedo) (.ref C_SwapError) = some true) (ut_NothingToRedo : PySem.W.subIn K (.ref C_NothingToRedo) (.type "ValueError") = some true)
    (z_ValueError : PySem.W.nsIn K mainGlobals "ValueError" = some none)
    (z_enumerate : PySem.W.nsIn K mainGlobals "enumerate" = some none)
    (z_int : PySem.W.nsIn K mainGlobals "int" = some none)
    (z_isinstance : PySem.W.nsIn K mainGlobals "isinstance" = some none)
    (z_len : PySem.W.nsIn K mainGlobals "len" = some none)
    (z_max : PySem.W.nsIn K mainGlobals "max" = some none)
    (z_range : PySem.W.nsIn K mainGlobals "range" = some none)
    (z_repr : PySem.W.nsIn K mainGlobals "repr" = some none)
    (z_sum : PySem.W.nsIn K mainGlobals "sum" = some none) :
    ∃ fd : FuncData, (∀ (s : Shared) (v : Value), BindsTo s fd ⟨[v], []⟩ [("_law_script", v)]) ∧ ∀ base : Heap, K.In base → base.Ns mainGlobals mg → FnC l.prog w K mg base CX0 6 fa fd ["_law_script"] (sp_law K) := by
  have e := hfa.symm.trans (PySem.W.mg_of X G a_law)
  cases e
  have F__law_hash := fun_mk (st := s__law_hash) l__law_hash c__law_hash k__law_hash
  have b__law_hash := F__law_hash.binds (ps := P__law_hash) fun _ _ _ _ _ _ us hl => match us, hl with | [_, _], _ => rfl
  have F__law_cell := fun_mk (st := s__law_cell) l__law_cell c__law_cell k__law_cell
  have b__law_cell := F__law_cell.binds (ps := P__law_cell) fun _ _ _ _ _ _ us hl => match us, hl with | [_, _], _ => rfl
  have F__law_random := fun_mk (st := s__law_random) l__law_random c__law_random k__law_random
  have b__law_random := F__law_random.binds (ps := P__law_random) fun _ _ _ _ _ _ us hl => match us, hl with | [_, _], _ => rfl
  have F__law_generator := fun_mk (st := s__law_generator) l__law_generator c__law_generator k__law_generator
  have b__law_generator := F__law_generator.binds (ps := P__law_generator) fun _ _ _ _ _ _ us hl => match us, hl with | [_, _], _ => rfl
  have F__law_made := fun_mk (st := s__law_made) l__law_made c__law_made k__law_made
  have b__law_made := F__law_made.binds (ps := P__law_made) fun _ _ _ _ _ _ us hl => match us, hl with | [_], _ => rfl
  have F__law_named := fun_mk (st := s__law_named) l__law_named c__law_named k__law_named
  have b__law_named := F__law_named.binds (ps := P__law_named) fun _ _ _ _ _ _ us hl => match us, hl with | [_], _ => rfl
  have F__law_empty := fun_mk (st := s__law_empty) l__law_empty c__law_empty k__law_empty
  have b__law_empty := F__law_empty.binds (ps := P__law_empty) fun _ _ _ _ _ _ us hl => match us, hl with | [], _ => rfl
  have F__law_kinds := fun_mk (st := s__law_kinds) l__law_kinds c__law_kinds k__law_kinds
  have b__law_kinds := F__law_kinds.binds (ps := P__law_kinds) fun _ _ _ _ _ _ us hl => match us, hl with | [_], _ => rfl
  have F__law_row_right := fun_mk (st := s__law_row_right) l__law_row_right c__law_row_right k__law_row_right
  have b__law_row_right := F__law_row_right.binds (ps := P__law_row_right) fun _ _ _ _ _ _ us hl => match us, hl with | [_, _], _ => rfl
  have F_law := fun_mk (st := s_law) l_law c_law k_law
  have b_law := F_law.binds (ps := P_law) fun _ _ _ _ _ _ us hl => match us, hl with | [_], _ => rfl
  obtain ⟨fc_InvalidDeed, e_InvalidDeed⟩ := e_InvalidDeed
  obtain ⟨fc_InvalidFar, e_InvalidFar⟩ := e_InvalidFar
  obtain ⟨fc_InvalidJoints, e_InvalidJoints⟩ := e_InvalidJoints
  obtain ⟨fc_InvalidLine, e_InvalidLine⟩ := e_InvalidLine
  obtain ⟨fc_InvalidList, e_InvalidList⟩ := e_InvalidList
  obtain ⟨fc_InvalidMachine, e_InvalidMachine⟩ := e_InvalidMachine
  obtain ⟨fc_InvalidNumber, e_InvalidNumber⟩ := e_InvalidNumber
  obtain ⟨fc_InvalidPrices, e_InvalidPrices⟩ := e_InvalidPrices
  obtain ⟨fc_InvalidRoad, e_InvalidRoad⟩ := e_InvalidRoad
  obtain ⟨fc_InvalidTrain, e_InvalidTrain⟩ := e_InvalidTrain
  obtain ⟨fc_InvalidWord, e_InvalidWord⟩ := e_InvalidWord
  obtain ⟨fc_TooLong, e_TooLong⟩ := e_TooLong
  obtain ⟨fc_TooMany, e_TooMany⟩ := e_TooMany
  obtain ⟨fc_Unlike, e_Unlike⟩ := e_Unlike
  have kd_InvalidNumber : KindI kindNames K 0 C_InvalidNumber := ⟨e_InvalidNumber.c.e, ⟨e_InvalidNumber.c.e.hg, e_InvalidNumber.c.e.hk, e_InvalidNumber.c.e.hs, e_InvalidNumber.c.e.hd⟩, e_InvalidNumber.c.v, fun j x D hx hn => match j, hx with
    | 0, hx => by cases hx; rw [n_InvalidNumber] at hn; cases hn; exact kit_ownF e_InvalidNumber.c.o.tyC e_InvalidNumber.c.e.hd u_InvalidNumber_InvalidNumber u_InvalidNumber_InvalidNumber
    | 1, hx => by cases hx; rw [n_InvalidWord] at hn; cases hn; exact kit_ownF e_InvalidWord.c.o.tyC e_InvalidWord.c.e.hd u_InvalidNumber_InvalidWord u_InvalidNumber_InvalidNumber
    | 2, hx => by cases hx; rw [n_InvalidJoints] at hn; cases hn; exact kit_ownF e_InvalidJoints.c.o.tyC e_InvalidJoints.c.e.hd u_InvalidNumber_InvalidJoints u_InvalidNumber_InvalidNumber
    | 3, hx => by cases hx; rw [n_InvalidPrices] at hn; cases hn; exact kit_ownF e_InvalidPrices.c.o.tyC e_InvalidPrices.c.e.hd u_InvalidNumber_InvalidPrices u_InvalidNumber_InvalidNumber
    | 4, hx => by cases hx; rw [n_InvalidList] at hn; cases hn; exact kit_ownF e_InvalidList.c.o.tyC e_InvalidList.c.e.hd u_InvalidNumber_InvalidList u_InvalidNumber_InvalidNumber
    | 5, hx => by cases hx; rw [n_InvalidTrain] at hn; cases hn; exact kit_ownF e_InvalidTrain.c.o.tyC e_InvalidTrain.c.e.hd u_InvalidNumber_InvalidTrain u_InvalidNumber_InvalidNumber
    | 6, hx => by cases hx; rw [n_InvalidMachine] at hn; cases hn; exact kit_ownF e_InvalidMachine.c.o.tyC e_InvalidMachine.c.e.hd u_InvalidNumber_InvalidMachine u_InvalidNumber_InvalidNumber
    | 7, hx => by cases hx; rw [n_InvalidFar] at hn; cases hn; exact kit_ownF e_InvalidFar.c.o.tyC e_InvalidFar.c.e.hd u_InvalidNumber_InvalidFar u_InvalidNumber_InvalidNumber
    | 8, hx => by cases hx; rw [n_InvalidRoad] at hn; cases hn; exact kit_ownF e_InvalidRoad.c.o.tyC e_InvalidRoad.c.e.hd u_InvalidNumber_InvalidRoad u_InvalidNumber_InvalidNumber
    | 9, hx => by cases hx; rw [n_InvalidLine] at hn; cases hn; exact kit_ownF e_InvalidLine.c.o.tyC e_InvalidLine.c.e.hd u_InvalidNumber_InvalidLine u_InvalidNumber_InvalidNumber
    | 10, hx => by cases hx; rw [n_InvalidDeed] at hn; cases hn; exact kit_ownF e_InvalidDeed.c.o.tyC e_InvalidDeed.c.e.hd u_InvalidNumber_InvalidDeed u_InvalidNumber_InvalidNumber
    | 11, hx => by cases hx; rw [n_Unlike] at hn; cases hn; exact kit_ownF e_Unlike.c.o.tyC e_Unlike.c.e.hd u_InvalidNumber_Unlike u_InvalidNumber_InvalidNumber
    | 12, hx => by cases hx; rw [n_TooMany] at hn; cases hn; exact kit_ownF e_TooMany.c.o.tyC e_TooMany.c.e.hd u_InvalidNumber_TooMany u_InvalidNumber_InvalidNumber
    | 13, hx => by cases hx; rw [n_TooLong] at hn; cases hn; exact kit_ownF e_TooLong.c.o.tyC e_TooLong.c.e.hd u_InvalidNumber_TooLong u_InvalidNumber_InvalidNumber
    | 14, hx => by cases hx; rw [n_NothingToUndo] at hn; cases hn; exact kit_ownF ty_NothingToUndo hd_NothingToUndo u_InvalidNumber_NothingToUndo u_InvalidNumber_InvalidNumber
    | 15, hx => by cases hx; rw [n_NothingToRedo] at hn; cases hn; exact kit_ownF ty_NothingToRedo hd_NothingToRedo u_InvalidNumber_NothingToRedo u_InvalidNumber_InvalidNumber
    | m + 16, hx => by simp at hx
    , fun D hn => by rw [n_SwapError] at hn; cases hn; exact kit_ownF ty_SwapError hd_SwapError us_InvalidNumber u_InvalidNumber_InvalidNumber, kit_type rfl ut_InvalidNumber⟩
  have kd_InvalidWord : KindI kindNames K 1 C_InvalidWord := ⟨e_InvalidWord.c.e, ⟨e_InvalidWord.c.e.hg, e_InvalidWord.c.e.hk, e_InvalidWord.c.e.hs, e_InvalidWord.c.e.hd⟩, e_InvalidWord.c.v, fun j x D hx hn => match j, hx with
    | 0, hx => by cases hx; rw [n_InvalidNumber] at hn; cases hn; exact kit_ownF e_InvalidNumber.c.o.tyC e_InvalidNumber.c.e.hd u_InvalidWord_InvalidNumber u_InvalidWord_InvalidWord
    | 1, hx => by cases hx; rw [n_InvalidWord] at hn; cases hn; exact kit_ownF e_InvalidWord.c.o.tyC e_InvalidWord.c.e.hd u_InvalidWord_InvalidWord u_InvalidWord_InvalidWord
    | 2, hx => by cases hx; rw [n_InvalidJoints] at hn; cases hn; exact kit_ownF e_InvalidJoints.c.o.tyC e_InvalidJoints.c.e.hd u_InvalidWord_InvalidJoints u_InvalidWord_InvalidWord
    | 3, hx => by cases hx; rw [n_InvalidPrices] at hn; cases hn; exact kit_ownF e_InvalidPrices.c.o.tyC e_InvalidPrices.c.e.hd u_InvalidWord_InvalidPrices u_InvalidWord_InvalidWord
    | 4, hx => by cases hx; rw [n_InvalidList] at hn; cases hn; exact kit_ownF e_InvalidList.c.o.tyC e_InvalidList.c.e.hd u_InvalidWord_InvalidList u_InvalidWord_InvalidWord
    | 5, hx => by cases hx; rw [n_InvalidTrain] at hn; cases hn; exact kit_ownF e_InvalidTrain.c.o.tyC e_InvalidTrain.c.e.hd u_InvalidWord_InvalidTrain u_InvalidWord_InvalidWord
    | 6, hx => by cases hx; rw [n_InvalidMachine] at hn; cases hn; exact kit_ownF e_InvalidMachine.c.o.tyC e_InvalidMachine.c.e.hd u_InvalidWord_InvalidMachine u_InvalidWord_InvalidWord
    | 7, hx => by cases hx; rw [n_InvalidFar] at hn; cases hn; exact kit_ownF e_InvalidFar.c.o.tyC e_InvalidFar.c.e.hd u_InvalidWord_InvalidFar u_InvalidWord_InvalidWord
    | 8, hx => by cases hx; rw [n_InvalidRoad] at hn; cases hn; exact kit_ownF e_InvalidRoad.c.o.tyC e_InvalidRoad.c.e.hd u_InvalidWord_InvalidRoad u_InvalidWord_InvalidWord
    | 9, hx => by cases hx; rw [n_InvalidLine] at hn; cases hn; exact kit_ownF e_InvalidLine.c.o.tyC e_InvalidLine.c.e.hd u_InvalidWord_InvalidLine u_InvalidWord_InvalidWord
    | 10, hx => by cases hx; rw [n_InvalidDeed] at hn; cases hn; exact kit_ownF e_InvalidDeed.c.o.tyC e_InvalidDeed.c.e.hd u_InvalidWord_InvalidDeed u_InvalidWord_InvalidWord
    | 11, hx => by cases hx; rw [n_Unlike] at hn; cases hn; exact kit_ownF e_Unlike.c.o.tyC e_Unlike.c.e.hd u_InvalidWord_Unlike u_InvalidWord_InvalidWord
    | 12, hx => by cases hx; rw [n_TooMany] at hn; cases hn; exact kit_ownF e_TooMany.c.o.tyC e_TooMany.c.e.hd u_InvalidWord_TooMany u_InvalidWord_InvalidWord
    | 13, hx => by cases hx; rw [n_TooLong] at hn; cases hn; exact kit_ownF e_TooLong.c.o.tyC e_TooLong.c.e.hd u_InvalidWord_TooLong u_InvalidWord_InvalidWord
    | 14, hx => by cases hx; rw [n_NothingToUndo] at hn; cases hn; exact kit_ownF ty_NothingToUndo hd_NothingToUndo u_InvalidWord_NothingToUndo u_InvalidWord_InvalidWord
    | 15, hx => by cases hx; rw [n_NothingToRedo] at hn; cases hn; exact kit_ownF ty_NothingToRedo hd_NothingToRedo u_InvalidWord_NothingToRedo u_InvalidWord_InvalidWord
    | m + 16, hx => by simp at hx
    , fun D hn => by rw [n_SwapError] at hn; cases hn; exact kit_ownF ty_SwapError hd_SwapError us_InvalidWord u_InvalidWord_InvalidWord, kit_type rfl ut_InvalidWord⟩
  have kd_InvalidJoints : KindI kindNames K 2 C_InvalidJoints := ⟨e_InvalidJoints.c.e, ⟨e_InvalidJoints.c.e.hg, e_InvalidJoints.c.e.hk, e_InvalidJoints.c.e.hs, e_InvalidJoints.c.e.hd⟩, e_InvalidJoints.c.v, fun j x D hx hn => match j, hx with
    | 0, hx => by cases hx; rw [n_InvalidNumber] at hn; cases hn; exact kit_ownF e_InvalidNumber.c.o.tyC e_InvalidNumber.c.e.hd u_InvalidJoints_InvalidNumber u_InvalidJoints_InvalidJoints
    | 1, hx => by cases hx; rw [n_InvalidWord] at hn; cases hn; exact kit_ownF e_InvalidWord.c.o.tyC e_InvalidWord.c.e.hd u_InvalidJoints_InvalidWord u_InvalidJoints_InvalidJoints
    | 2, hx => by cases hx; rw [n_InvalidJoints] at hn; cases hn; exact kit_ownF e_InvalidJoints.c.o.tyC e_InvalidJoints.c.e.hd u_InvalidJoints_InvalidJoints u_InvalidJoints_InvalidJoints
    | 3, hx => by cases hx; rw [n_InvalidPrices] at hn; cases hn; exact kit_ownF e_InvalidPrices.c.o.tyC e_InvalidPrices.c.e.hd u_InvalidJoints_InvalidPrices u_InvalidJoints_InvalidJoints
    | 4, hx => by cases hx; rw [n_InvalidList] at hn; cases hn; exact kit_ownF e_InvalidList.c.o.tyC e_InvalidList.c.e.hd u_InvalidJoints_InvalidList u_InvalidJoints_InvalidJoints
    | 5, hx => by cases hx; rw [n_InvalidTrain] at hn; cases hn; exact kit_ownF e_InvalidTrain.c.o.tyC e_InvalidTrain.c.e.hd u_InvalidJoints_InvalidTrain u_InvalidJoints_InvalidJoints
    | 6, hx => by cases hx; rw [n_InvalidMachine] at hn; cases hn; exact kit_ownF e_InvalidMachine.c.o.tyC e_InvalidMachine.c.e.hd u_InvalidJoints_InvalidMachine u_InvalidJoints_InvalidJoints
    | 7, hx => by cases hx; rw [n_InvalidFar] at hn; cases hn; exact kit_ownF e_InvalidFar.c.o.tyC e_InvalidFar.c.e.hd u_InvalidJoints_InvalidFar u_InvalidJoints_InvalidJoints
    | 8, hx => by cases hx; rw [n_InvalidRoad] at hn; cases hn; exact kit_ownF e_InvalidRoad.c.o.tyC e_InvalidRoad.c.e.hd u_InvalidJoints_InvalidRoad u_InvalidJoints_InvalidJoints
    | 9, hx => by cases hx; rw [n_InvalidLine] at hn; cases hn; exact kit_ownF e_InvalidLine.c.o.tyC e_InvalidLine.c.e.hd u_InvalidJoints_InvalidLine u_InvalidJoints_InvalidJoints
    | 10, hx => by cases hx; rw [n_InvalidDeed] at hn; cases hn; exact kit_ownF e_InvalidDeed.c.o.tyC e_InvalidDeed.c.e.hd u_InvalidJoints_InvalidDeed u_InvalidJoints_InvalidJoints
    | 11, hx => by cases hx; rw [n_Unlike] at hn; cases hn; exact kit_ownF e_Unlike.c.o.tyC e_Unlike.c.e.hd u_InvalidJoints_Unlike u_InvalidJoints_InvalidJoints
    | 12, hx => by cases hx; rw [n_TooMany] at hn; cases hn; exact kit_ownF e_TooMany.c.o.tyC e_TooMany.c.e.hd u_InvalidJoints_TooMany u_InvalidJoints_InvalidJoints
    | 13, hx => by cases hx; rw [n_TooLong] at hn; cases hn; exact kit_ownF e_TooLong.c.o.tyC e_TooLong.c.e.hd u_InvalidJoints_TooLong u_InvalidJoints_InvalidJoints
    | 14, hx => by cases hx; rw [n_NothingToUndo] at hn; cases hn; exact kit_ownF ty_NothingToUndo hd_NothingToUndo u_InvalidJoints_NothingToUndo u_InvalidJoints_InvalidJoints
    | 15, hx => by cases hx; rw [n_NothingToRedo] at hn; cases hn; exact kit_ownF ty_NothingToRedo hd_NothingToRedo u_InvalidJoints_NothingToRedo u_InvalidJoints_InvalidJoints
    | m + 16, hx => by simp at hx
    , fun D hn => by rw [n_SwapError] at hn; cases hn; exact kit_ownF ty_SwapError hd_SwapError us_InvalidJoints u_InvalidJoints_InvalidJoints, kit_type rfl ut_InvalidJoints⟩
  have kd_InvalidPrices : KindI kindNames K 3 C_InvalidPrices := ⟨e_InvalidPrices.c.e, ⟨e_InvalidPrices.c.e.hg, e_InvalidPrices.c.e.hk, e_InvalidPrices.c.e.hs, e_InvalidPrices.c.e.hd⟩, e_InvalidPrices.c.v, fun j x D hx hn => match j, hx with
    | 0, hx => by cases hx; rw [n_InvalidNumber] at hn; cases hn; exact kit_ownF e_InvalidNumber.c.o.tyC e_InvalidNumber.c.e.hd u_InvalidPrices_InvalidNumber u_InvalidPrices_InvalidPrices
    | 1, hx => by cases hx; rw [n_InvalidWord] at hn; cases hn; exact kit_ownF e_InvalidWord.c.o.tyC e_InvalidWord.c.e.hd u_InvalidPrices_InvalidWord u_InvalidPrices_InvalidPrices
    | 2, hx => by cases hx; rw [n_InvalidJoints] at hn; cases hn; exact kit_ownF e_InvalidJoints.c.o.tyC e_InvalidJoints.c.e.hd u_InvalidPrices_InvalidJoints u_InvalidPrices_InvalidPrices
    | 3, hx => by cases hx; rw [n_InvalidPrices] at hn; cases hn; exact kit_ownF e_InvalidPrices.c.o.tyC e_InvalidPrices.c.e.hd u_InvalidPrices_InvalidPrices u_InvalidPrices_InvalidPrices
    | 4, hx => by cases hx; rw [n_InvalidList] at hn; cases hn; exact kit_ownF e_InvalidList.c.o.tyC e_InvalidList.c.e.hd u_InvalidPrices_InvalidList u_InvalidPrices_InvalidPrices
    | 5, hx => by cases hx; rw [n_InvalidTrain] at hn; cases hn; exact kit_ownF e_InvalidTrain.c.o.tyC e_InvalidTrain.c.e.hd u_InvalidPrices_InvalidTrain u_InvalidPrices_InvalidPrices
    | 6, hx => by cases hx; rw [n_InvalidMachine] at hn; cases hn; exact kit_ownF e_InvalidMachine.c.o.tyC e_InvalidMachine.c.e.hd u_InvalidPrices_InvalidMachine u_InvalidPrices_InvalidPrices
    | 7, hx => by cases hx; rw [n_InvalidFar] at hn; cases hn; exact kit_ownF e_InvalidFar.c.o.tyC e_InvalidFar.c.e.hd u_InvalidPrices_InvalidFar u_InvalidPrices_InvalidPrices
    | 8, hx => by cases hx; rw [n_InvalidRoad] at hn; cases hn; exact kit_ownF e_InvalidRoad.c.o.tyC e_InvalidRoad.c.e.hd u_InvalidPrices_InvalidRoad u_InvalidPrices_InvalidPrices
    | 9, hx => by cases hx; rw [n_InvalidLine] at hn; cases hn; exact kit_ownF e_InvalidLine.c.o.tyC e_InvalidLine.c.e.hd u_InvalidPrices_InvalidLine u_InvalidPrices_InvalidPrices
    | 10, hx => by cases hx; rw [n_InvalidDeed] at hn; cases hn; exact kit_ownF e_InvalidDeed.c.o.tyC e_InvalidDeed.c.e.hd u_InvalidPrices_InvalidDeed u_InvalidPrices_InvalidPrices
    | 11, hx => by cases hx; rw [n_Unlike] at hn; cases hn; exact kit_ownF e_Unlike.c.o.tyC e_Unlike.c.e.hd u_InvalidPrices_Unlike u_InvalidPrices_InvalidPrices
    | 12, hx => by cases hx; rw [n_TooMany] at hn; cases hn; exact kit_ownF e_TooMany.c.o.tyC e_TooMany.c.e.hd u_InvalidPrices_TooMany u_InvalidPrices_InvalidPrices
    | 13, hx => by cases hx; rw [n_TooLong] at hn; cases hn; exact kit_ownF e_TooLong.c.o.tyC e_TooLong.c.e.hd u_InvalidPrices_TooLong u_InvalidPrices_InvalidPrices
    | 14, hx => by cases hx; rw [n_NothingToUndo] at hn; cases hn; exact kit_ownF ty_NothingToUndo hd_NothingToUndo u_InvalidPrices_NothingToUndo u_InvalidPrices_InvalidPrices
    | 15, hx => by cases hx; rw [n_NothingToRedo] at hn; cases hn; exact kit_ownF ty_NothingToRedo hd_NothingToRedo u_InvalidPrices_NothingToRedo u_InvalidPrices_InvalidPrices
    | m + 16, hx => by simp at hx
    , fun D hn => by rw [n_SwapError] at hn; cases hn; exact kit_ownF ty_SwapError hd_SwapError us_InvalidPrices u_InvalidPrices_InvalidPrices, kit_type rfl ut_InvalidPrices⟩
  have kd_InvalidList : KindI kindNames K 4 C_InvalidList := ⟨e_InvalidList.c.e, ⟨e_InvalidList.c.e.hg, e_InvalidList.c.e.hk, e_InvalidList.c.e.hs, e_InvalidList.c.e.hd⟩, e_InvalidList.c.v, fun j x D hx hn => match j, hx with
    | 0, hx => by cases hx; rw [n_InvalidNumber] at hn; cases hn; exact kit_ownF e_InvalidNumber.c.o.tyC e_InvalidNumber.c.e.hd u_InvalidList_InvalidNumber u_InvalidList_InvalidList
    | 1, hx => by cases hx; rw [n_InvalidWord] at hn; cases hn; exact kit_ownF e_InvalidWord.c.o.tyC e_InvalidWord.c.e.hd u_InvalidList_InvalidWord u_InvalidList_InvalidList
    | 2, hx => by cases hx; rw [n_InvalidJoints] at hn; cases hn; exact kit_ownF e_InvalidJoints.c.o.tyC e_InvalidJoints.c.e.hd u_InvalidList_InvalidJoints u_InvalidList_InvalidList
    | 3, hx => by cases hx; rw [n_InvalidPrices] at hn; cases hn; exact kit_ownF e_InvalidPrices.c.o.tyC e_InvalidPrices.c.e.hd u_InvalidList_InvalidPrices u_InvalidList_InvalidList
    | 4, hx => by cases hx; rw [n_InvalidList] at hn; cases hn; exact kit_ownF e_InvalidList.c.o.tyC e_InvalidList.c.e.hd u_InvalidList_InvalidList u_InvalidList_InvalidList
    | 5, hx => by cases hx; rw [n_InvalidTrain] at hn; cases hn; exact kit_ownF e_InvalidTrain.c.o.tyC e_InvalidTrain.c.e.hd u_InvalidList_InvalidTrain u_InvalidList_InvalidList
    | 6, hx => by cases hx; rw [n_InvalidMachine] at hn; cases hn; exact kit_ownF e_InvalidMachine.c.o.tyC e_InvalidMachine.c.e.hd u_InvalidList_InvalidMachine u_InvalidList_InvalidList
    | 7, hx => by cases hx; rw [n_InvalidFar] at hn; cases hn; exact kit_ownF e_InvalidFar.c.o.tyC e_InvalidFar.c.e.hd u_InvalidList_InvalidFar u_InvalidList_InvalidList
    | 8, hx => by cases hx; rw [n_InvalidRoad] at hn; cases hn; exact kit_ownF e_InvalidRoad.c.o.tyC e_InvalidRoad.c.e.hd u_InvalidList_InvalidRoad u_InvalidList_InvalidList
    | 9, hx => by cases hx; rw [n_InvalidLine] at hn; cases hn; exact kit_ownF e_InvalidLine.c.o.tyC e_InvalidLine.c.e.hd u_InvalidList_InvalidLine u_InvalidList_InvalidList
    | 10, hx => by cases hx; rw [n_InvalidDeed] at hn; cases hn; exact kit_ownF e_InvalidDeed.c.o.tyC e_InvalidDeed.c.e.hd u_InvalidList_InvalidDeed u_InvalidList_InvalidList
    | 11, hx => by cases hx; rw [n_Unlike] at hn; cases hn; exact kit_ownF e_Unlike.c.o.tyC e_Unlike.c.e.hd u_InvalidList_Unlike u_InvalidList_InvalidList
    | 12, hx => by cases hx; rw [n_TooMany] at hn; cases hn; exact kit_ownF e_TooMany.c.o.tyC e_TooMany.c.e.hd u_InvalidList_TooMany u_InvalidList_InvalidList
    | 13, hx => by cases hx; rw [n_TooLong] at hn; cases hn; exact kit_ownF e_TooLong.c.o.tyC e_TooLong.c.e.hd u_InvalidList_TooLong u_InvalidList_InvalidList
    | 14, hx => by cases hx; rw [n_NothingToUndo] at hn; cases hn; exact kit_ownF ty_NothingToUndo hd_NothingToUndo u_InvalidList_NothingToUndo u_InvalidList_InvalidList
    | 15, hx => by cases hx; rw [n_NothingToRedo] at hn; cases hn; exact kit_ownF ty_NothingToRedo hd_NothingToRedo u_InvalidList_NothingToRedo u_InvalidList_InvalidList
    | m + 16, hx => by simp at hx
    , fun D hn => by rw [n_SwapError] at hn; cases hn; exact kit_ownF ty_SwapError hd_SwapError us_InvalidList u_InvalidList_InvalidList, kit_type rfl ut_InvalidList⟩
  have kd_InvalidTrain : KindI kindNames K 5 C_InvalidTrain := ⟨e_InvalidTrain.c.e, ⟨e_InvalidTrain.c.e.hg, e_InvalidTrain.c.e.hk, e_InvalidTrain.c.e.hs, e_InvalidTrain.c.e.hd⟩, e_InvalidTrain.c.v, fun j x D hx hn => match j, hx with
    | 0, hx => by cases hx; rw [n_InvalidNumber] at hn; cases hn; exact kit_ownF e_InvalidNumber.c.o.tyC e_InvalidNumber.c.e.hd u_InvalidTrain_InvalidNumber u_InvalidTrain_InvalidTrain
    | 1, hx => by cases hx; rw [n_InvalidWord] at hn; cases hn; exact kit_ownF e_InvalidWord.c.o.tyC e_InvalidWord.c.e.hd u_InvalidTrain_InvalidWord u_InvalidTrain_InvalidTrain
    | 2, hx => by cases hx; rw [n_InvalidJoints] at hn; cases hn; exact kit_ownF e_InvalidJoints.c.o.tyC e_InvalidJoints.c.e.hd u_InvalidTrain_InvalidJoints u_InvalidTrain_InvalidTrain
    | 3, hx => by cases hx; rw [n_InvalidPrices] at hn; cases hn; exact kit_ownF e_InvalidPrices.c.o.tyC e_InvalidPrices.c.e.hd u_InvalidTrain_InvalidPrices u_InvalidTrain_InvalidTrain
    | 4, hx => by cases hx; rw [n_InvalidList] at hn; cases hn; exact kit_ownF e_InvalidList.c.o.tyC e_InvalidList.c.e.hd u_InvalidTrain_InvalidList u_InvalidTrain_InvalidTrain
    | 5, hx => by cases hx; rw [n_InvalidTrain] at hn; cases hn; exact kit_ownF e_InvalidTrain.c.o.tyC e_InvalidTrain.c.e.hd u_InvalidTrain_InvalidTrain u_InvalidTrain_InvalidTrain
    | 6, hx => by cases hx; rw [n_InvalidMachine] at hn; cases hn; exact kit_ownF e_InvalidMachine.c.o.tyC e_InvalidMachine.c.e.hd u_InvalidTrain_InvalidMachine u_InvalidTrain_InvalidTrain
    | 7, hx => by cases hx; rw [n_InvalidFar] at hn; cases hn; exact kit_ownF e_InvalidFar.c.o.tyC e_InvalidFar.c.e.hd u_InvalidTrain_InvalidFar u_InvalidTrain_InvalidTrain
    | 8, hx => by cases hx; rw [n_InvalidRoad] at hn; cases hn; exact kit_ownF e_InvalidRoad.c.o.tyC e_InvalidRoad.c.e.hd u_InvalidTrain_InvalidRoad u_InvalidTrain_InvalidTrain
    | 9, hx => by cases hx; rw [n_InvalidLine] at hn; cases hn; exact kit_ownF e_InvalidLine.c.o.tyC e_InvalidLine.c.e.hd u_InvalidTrain_InvalidLine u_InvalidTrain_InvalidTrain
    | 10, hx => by cases hx; rw [n_InvalidDeed] at hn; cases hn; exact kit_ownF e_InvalidDeed.c.o.tyC e_InvalidDeed.c.e.hd u_InvalidTrain_InvalidDeed u_InvalidTrain_InvalidTrain
    | 11, hx => by cases hx; rw [n_Unlike] at hn; cases hn; exact kit_ownF e_Unlike.c.o.tyC e_Unlike.c.e.hd u_InvalidTrain_Unlike u_InvalidTrain_InvalidTrain
    | 12, hx => by cases hx; rw [n_TooMany] at hn; cases hn; exact kit_ownF e_TooMany.c.o.tyC e_TooMany.c.e.hd u_InvalidTrain_TooMany u_InvalidTrain_InvalidTrain
    | 13, hx => by cases hx; rw [n_TooLong] at hn; cases hn; exact kit_ownF e_TooLong.c.o.tyC e_TooLong.c.e.hd u_InvalidTrain_TooLong u_InvalidTrain_InvalidTrain
    | 14, hx => by cases hx; rw [n_NothingToUndo] at hn; cases hn; exact kit_ownF ty_NothingToUndo hd_NothingToUndo u_InvalidTrain_NothingToUndo u_InvalidTrain_InvalidTrain
    | 15, hx => by cases hx; rw [n_NothingToRedo] at hn; cases hn; exact kit_ownF ty_NothingToRedo hd_NothingToRedo u_InvalidTrain_NothingToRedo u_InvalidTrain_InvalidTrain
    | m + 16, hx => by simp at hx
    , fun D hn => by rw [n_SwapError] at hn; cases hn; exact kit_ownF ty_SwapError hd_SwapError us_InvalidTrain u_InvalidTrain_InvalidTrain, kit_type rfl ut_InvalidTrain⟩
  have kd_InvalidMachine : KindI kindNames K 6 C_InvalidMachine := ⟨e_InvalidMachine.c.e, ⟨e_InvalidMachine.c.e.hg, e_InvalidMachine.c.e.hk, e_InvalidMachine.c.e.hs, e_InvalidMachine.c.e.hd⟩, e_InvalidMachine.c.v, fun j x D hx hn => match j, hx with
    | 0, hx => by cases hx; rw [n_InvalidNumber] at hn; cases hn; exact kit_ownF e_InvalidNumber.c.o.tyC e_InvalidNumber.c.e.hd u_InvalidMachine_InvalidNumber u_InvalidMachine_InvalidMachine
    | 1, hx => by cases hx; rw [n_InvalidWord] at hn; cases hn; exact kit_ownF e_InvalidWord.c.o.tyC e_InvalidWord.c.e.hd u_InvalidMachine_InvalidWord u_InvalidMachine_InvalidMachine
    | 2, hx => by cases hx; rw [n_InvalidJoints] at hn; cases hn; exact kit_ownF e_InvalidJoints.c.o.tyC e_InvalidJoints.c.e.hd u_InvalidMachine_InvalidJoints u_InvalidMachine_InvalidMachine
    | 3, hx => by cases hx; rw [n_InvalidPrices] at hn; cases hn; exact kit_ownF e_InvalidPrices.c.o.tyC e_InvalidPrices.c.e.hd u_InvalidMachine_InvalidPrices u_InvalidMachine_InvalidMachine
    | 4, hx => by cases hx; rw [n_InvalidList] at hn; cases hn; exact kit_ownF e_InvalidList.c.o.tyC e_InvalidList.c.e.hd u_InvalidMachine_InvalidList u_InvalidMachine_InvalidMachine
    | 5, hx => by cases hx; rw [n_InvalidTrain] at hn; cases hn; exact kit_ownF e_InvalidTrain.c.o.tyC e_InvalidTrain.c.e.hd u_InvalidMachine_InvalidTrain u_InvalidMachine_InvalidMachine
    | 6, hx => by cases hx; rw [n_InvalidMachine] at hn; cases hn; exact kit_ownF e_InvalidMachine.c.o.tyC e_InvalidMachine.c.e.hd u_InvalidMachine_InvalidMachine u_InvalidMachine_InvalidMachine
    | 7, hx => by cases hx; rw [n_InvalidFar] at hn; cases hn; exact kit_ownF e_InvalidFar.c.o.tyC e_InvalidFar.c.e.hd u_InvalidMachine_InvalidFar u_InvalidMachine_InvalidMachine
    | 8, hx => by cases hx; rw [n_InvalidRoad] at hn; cases hn; exact kit_ownF e_InvalidRoad.c.o.tyC e_InvalidRoad.c.e.hd u_InvalidMachine_InvalidRoad u_InvalidMachine_InvalidMachine
    | 9, hx => by cases hx; rw [n_InvalidLine] at hn; cases hn; exact kit_ownF e_InvalidLine.c.o.tyC e_InvalidLine.c.e.hd u_InvalidMachine_InvalidLine u_InvalidMachine_InvalidMachine
    | 10, hx => by cases hx; rw [n_InvalidDeed] at hn; cases hn; exact kit_ownF e_InvalidDeed.c.o.tyC e_InvalidDeed.c.e.hd u_InvalidMachine_InvalidDeed u_InvalidMachine_InvalidMachine
    | 11, hx => by cases hx; rw [n_Unlike] at hn; cases hn; exact kit_ownF e_Unlike.c.o.tyC e_Unlike.c.e.hd u_InvalidMachine_Unlike u_InvalidMachine_InvalidMachine
    | 12, hx => by cases hx; rw [n_TooMany] at hn; cases hn; exact kit_ownF e_TooMany.c.o.tyC e_TooMany.c.e.hd u_InvalidMachine_TooMany u_InvalidMachine_InvalidMachine
    | 13, hx => by cases hx; rw [n_TooLong] at hn; cases hn; exact kit_ownF e_TooLong.c.o.tyC e_TooLong.c.e.hd u_InvalidMachine_TooLong u_InvalidMachine_InvalidMachine
    | 14, hx => by cases hx; rw [n_NothingToUndo] at hn; cases hn; exact kit_ownF ty_NothingToUndo hd_NothingToUndo u_InvalidMachine_NothingToUndo u_InvalidMachine_InvalidMachine
    | 15, hx => by cases hx; rw [n_NothingToRedo] at hn; cases hn; exact kit_ownF ty_NothingToRedo hd_NothingToRedo u_InvalidMachine_NothingToRedo u_InvalidMachine_InvalidMachine
    | m + 16, hx => by simp at hx
    , fun D hn => by rw [n_SwapError] at hn; cases hn; exact kit_ownF ty_SwapError hd_SwapError us_InvalidMachine u_InvalidMachine_InvalidMachine, kit_type rfl ut_InvalidMachine⟩
  have kd_InvalidFar : KindI kindNames K 7 C_InvalidFar := ⟨e_InvalidFar.c.e, ⟨e_InvalidFar.c.e.hg, e_InvalidFar.c.e.hk, e_InvalidFar.c.e.hs, e_InvalidFar.c.e.hd⟩, e_InvalidFar.c.v, fun j x D hx hn => match j, hx with
    | 0, hx => by cases hx; rw [n_InvalidNumber] at hn; cases hn; exact kit_ownF e_InvalidNumber.c.o.tyC e_InvalidNumber.c.e.hd u_InvalidFar_InvalidNumber u_InvalidFar_InvalidFar
    | 1, hx => by cases hx; rw [n_InvalidWord] at hn; cases hn; exact kit_ownF e_InvalidWord.c.o.tyC e_InvalidWord.c.e.hd u_InvalidFar_InvalidWord u_InvalidFar_InvalidFar
    | 2, hx => by cases hx; rw [n_InvalidJoints] at hn; cases hn; exact kit_ownF e_InvalidJoints.c.o.tyC e_InvalidJoints.c.e.hd u_InvalidFar_InvalidJoints u_InvalidFar_InvalidFar
    | 3, hx => by cases hx; rw [n_InvalidPrices] at hn; cases hn; exact kit_ownF e_InvalidPrices.c.o.tyC e_InvalidPrices.c.e.hd u_InvalidFar_InvalidPrices u_InvalidFar_InvalidFar
    | 4, hx => by cases hx; rw [n_InvalidList] at hn; cases hn; exact kit_ownF e_InvalidList.c.o.tyC e_InvalidList.c.e.hd u_InvalidFar_InvalidList u_InvalidFar_InvalidFar
    | 5, hx => by cases hx; rw [n_InvalidTrain] at hn; cases hn; exact kit_ownF e_InvalidTrain.c.o.tyC e_InvalidTrain.c.e.hd u_InvalidFar_InvalidTrain u_InvalidFar_InvalidFar
    | 6, hx => by cases hx; rw [n_InvalidMachine] at hn; cases hn; exact kit_ownF e_InvalidMachine.c.o.tyC e_InvalidMachine.c.e.hd u_InvalidFar_InvalidMachine u_InvalidFar_InvalidFar
    | 7, hx => by cases hx; rw [n_InvalidFar] at hn; cases hn; exact kit_ownF e_InvalidFar.c.o.tyC e_InvalidFar.c.e.hd u_InvalidFar_InvalidFar u_InvalidFar_InvalidFar
    | 8, hx => by cases hx; rw [n_InvalidRoad] at hn; cases hn; exact kit_ownF e_InvalidRoad.c.o.tyC e_InvalidRoad.c.e.hd u_InvalidFar_InvalidRoad u_InvalidFar_InvalidFar
    | 9, hx => by cases hx; rw [n_InvalidLine] at hn; cases hn; exact kit_ownF e_InvalidLine.c.o.tyC e_InvalidLine.c.e.hd u_InvalidFar_InvalidLine u_InvalidFar_InvalidFar
    | 10, hx => by cases hx; rw [n_InvalidDeed] at hn; cases hn; exact kit_ownF e_InvalidDeed.c.o.tyC e_InvalidDeed.c.e.hd u_InvalidFar_InvalidDeed u_InvalidFar_InvalidFar
    | 11, hx => by cases hx; rw [n_Unlike] at hn; cases hn; exact kit_ownF e_Unlike.c.o.tyC e_Unlike.c.e.hd u_InvalidFar_Unlike u_InvalidFar_InvalidFar
    | 12, hx => by cases hx; rw [n_TooMany] at hn; cases hn; exact kit_ownF e_TooMany.c.o.tyC e_TooMany.c.e.hd u_InvalidFar_TooMany u_InvalidFar_InvalidFar
    | 13, hx => by cases hx; rw [n_TooLong] at hn; cases hn; exact kit_ownF e_TooLong.c.o.tyC e_TooLong.c.e.hd u_InvalidFar_TooLong u_InvalidFar_InvalidFar
    | 14, hx => by cases hx; rw [n_NothingToUndo] at hn; cases hn; exact kit_ownF ty_NothingToUndo hd_NothingToUndo u_InvalidFar_NothingToUndo u_InvalidFar_InvalidFar
    | 15, hx => by cases hx; rw [n_NothingToRedo] at hn; cases hn; exact kit_ownF ty_NothingToRedo hd_NothingToRedo u_InvalidFar_NothingToRedo u_InvalidFar_InvalidFar
    | m + 16, hx => by simp at hx
    , fun D hn => by rw [n_SwapError] at hn; cases hn; exact kit_ownF ty_SwapError hd_SwapError us_InvalidFar u_InvalidFar_InvalidFar, kit_type rfl ut_InvalidFar⟩
  have kd_InvalidRoad : KindI kindNames K 8 C_InvalidRoad := ⟨e_InvalidRoad.c.e, ⟨e_InvalidRoad.c.e.hg, e_InvalidRoad.c.e.hk, e_InvalidRoad.c.e.hs, e_InvalidRoad.c.e.hd⟩, e_InvalidRoad.c.v, fun j x D hx hn => match j, hx with
    | 0, hx => by cases hx; rw [n_InvalidNumber] at hn; cases hn; exact kit_ownF e_InvalidNumber.c.o.tyC e_InvalidNumber.c.e.hd u_InvalidRoad_InvalidNumber u_InvalidRoad_InvalidRoad
    | 1, hx => by cases hx; rw [n_InvalidWord] at hn; cases hn; exact kit_ownF e_InvalidWord.c.o.tyC e_InvalidWord.c.e.hd u_InvalidRoad_InvalidWord u_InvalidRoad_InvalidRoad
    | 2, hx => by cases hx; rw [n_InvalidJoints] at hn; cases hn; exact kit_ownF e_InvalidJoints.c.o.tyC e_InvalidJoints.c.e.hd u_InvalidRoad_InvalidJoints u_InvalidRoad_InvalidRoad
    | 3, hx => by cases hx; rw [n_InvalidPrices] at hn; cases hn; exact kit_ownF e_InvalidPrices.c.o.tyC e_InvalidPrices.c.e.hd u_InvalidRoad_InvalidPrices u_InvalidRoad_InvalidRoad
    | 4, hx => by cases hx; rw [n_InvalidList] at hn; cases hn; exact kit_ownF e_InvalidList.c.o.tyC e_InvalidList.c.e.hd u_InvalidRoad_InvalidList u_InvalidRoad_InvalidRoad
    | 5, hx => by cases hx; rw [n_InvalidTrain] at hn; cases hn; exact kit_ownF e_InvalidTrain.c.o.tyC e_InvalidTrain.c.e.hd u_InvalidRoad_InvalidTrain u_InvalidRoad_InvalidRoad
    | 6, hx => by cases hx; rw [n_InvalidMachine] at hn; cases hn; exact kit_ownF e_InvalidMachine.c.o.tyC e_InvalidMachine.c.e.hd u_InvalidRoad_InvalidMachine u_InvalidRoad_InvalidRoad
    | 7, hx => by cases hx; rw [n_InvalidFar] at hn; cases hn; exact kit_ownF e_InvalidFar.c.o.tyC e_InvalidFar.c.e.hd u_InvalidRoad_InvalidFar u_InvalidRoad_InvalidRoad
    | 8, hx => by cases hx; rw [n_InvalidRoad] at hn; cases hn; exact kit_ownF e_InvalidRoad.c.o.tyC e_InvalidRoad.c.e.hd u_InvalidRoad_InvalidRoad u_InvalidRoad_InvalidRoad
    | 9, hx => by cases hx; rw [n_InvalidLine] at hn; cases hn; exact kit_ownF e_InvalidLine.c.o.tyC e_InvalidLine.c.e.hd u_InvalidRoad_InvalidLine u_InvalidRoad_InvalidRoad
    | 10, hx => by cases hx; rw [n_InvalidDeed] at hn; cases hn; exact kit_ownF e_InvalidDeed.c.o.tyC e_InvalidDeed.c.e.hd u_InvalidRoad_InvalidDeed u_InvalidRoad_InvalidRoad
    | 11, hx => by cases hx; rw [n_Unlike] at hn; cases hn; exact kit_ownF e_Unlike.c.o.tyC e_Unlike.c.e.hd u_InvalidRoad_Unlike u_InvalidRoad_InvalidRoad
    | 12, hx => by cases hx; rw [n_TooMany] at hn; cases hn; exact kit_ownF e_TooMany.c.o.tyC e_TooMany.c.e.hd u_InvalidRoad_TooMany u_InvalidRoad_InvalidRoad
    | 13, hx => by cases hx; rw [n_TooLong] at hn; cases hn; exact kit_ownF e_TooLong.c.o.tyC e_TooLong.c.e.hd u_InvalidRoad_TooLong u_InvalidRoad_InvalidRoad
    | 14, hx => by cases hx; rw [n_NothingToUndo] at hn; cases hn; exact kit_ownF ty_NothingToUndo hd_NothingToUndo u_InvalidRoad_NothingToUndo u_InvalidRoad_InvalidRoad
    | 15, hx => by cases hx; rw [n_NothingToRedo] at hn; cases hn; exact kit_ownF ty_NothingToRedo hd_NothingToRedo u_InvalidRoad_NothingToRedo u_InvalidRoad_InvalidRoad
    | m + 16, hx => by simp at hx
    , fun D hn => by rw [n_SwapError] at hn; cases hn; exact kit_ownF ty_SwapError hd_SwapError us_InvalidRoad u_InvalidRoad_InvalidRoad, kit_type rfl ut_InvalidRoad⟩
  have kd_InvalidLine : KindI kindNames K 9 C_InvalidLine := ⟨e_InvalidLine.c.e, ⟨e_InvalidLine.c.e.hg, e_InvalidLine.c.e.hk, e_InvalidLine.c.e.hs, e_InvalidLine.c.e.hd⟩, e_InvalidLine.c.v, fun j x D hx hn => match j, hx with
    | 0, hx => by cases hx; rw [n_InvalidNumber] at hn; cases hn; exact kit_ownF e_InvalidNumber.c.o.tyC e_InvalidNumber.c.e.hd u_InvalidLine_InvalidNumber u_InvalidLine_InvalidLine
    | 1, hx => by cases hx; rw [n_InvalidWord] at hn; cases hn; exact kit_ownF e_InvalidWord.c.o.tyC e_InvalidWord.c.e.hd u_InvalidLine_InvalidWord u_InvalidLine_InvalidLine
    | 2, hx => by cases hx; rw [n_InvalidJoints] at hn; cases hn; exact kit_ownF e_InvalidJoints.c.o.tyC e_InvalidJoints.c.e.hd u_InvalidLine_InvalidJoints u_InvalidLine_InvalidLine
    | 3, hx => by cases hx; rw [n_InvalidPrices] at hn; cases hn; exact kit_ownF e_InvalidPrices.c.o.tyC e_InvalidPrices.c.e.hd u_InvalidLine_InvalidPrices u_InvalidLine_InvalidLine
    | 4, hx => by cases hx; rw [n_InvalidList] at hn; cases hn; exact kit_ownF e_InvalidList.c.o.tyC e_InvalidList.c.e.hd u_InvalidLine_InvalidList u_InvalidLine_InvalidLine
    | 5, hx => by cases hx; rw [n_InvalidTrain] at hn; cases hn; exact kit_ownF e_InvalidTrain.c.o.tyC e_InvalidTrain.c.e.hd u_InvalidLine_InvalidTrain u_InvalidLine_InvalidLine
    | 6, hx => by cases hx; rw [n_InvalidMachine] at hn; cases hn; exact kit_ownF e_InvalidMachine.c.o.tyC e_InvalidMachine.c.e.hd u_InvalidLine_InvalidMachine u_InvalidLine_InvalidLine
    | 7, hx => by cases hx; rw [n_InvalidFar] at hn; cases hn; exact kit_ownF e_InvalidFar.c.o.tyC e_InvalidFar.c.e.hd u_InvalidLine_InvalidFar u_InvalidLine_InvalidLine
    | 8, hx => by cases hx; rw [n_InvalidRoad] at hn; cases hn; exact kit_ownF e_InvalidRoad.c.o.tyC e_InvalidRoad.c.e.hd u_InvalidLine_InvalidRoad u_InvalidLine_InvalidLine
    | 9, hx => by cases hx; rw [n_InvalidLine] at hn; cases hn; exact kit_ownF e_InvalidLine.c.o.tyC e_InvalidLine.c.e.hd u_InvalidLine_InvalidLine u_InvalidLine_InvalidLine
    | 10, hx => by cases hx; rw [n_InvalidDeed] at hn; cases hn; exact kit_ownF e_InvalidDeed.c.o.tyC e_InvalidDeed.c.e.hd u_InvalidLine_InvalidDeed u_InvalidLine_InvalidLine
    | 11, hx => by cases hx; rw [n_Unlike] at hn; cases hn; exact kit_ownF e_Unlike.c.o.tyC e_Unlike.c.e.hd u_InvalidLine_Unlike u_InvalidLine_InvalidLine
    | 12, hx => by cases hx; rw [n_TooMany] at hn; cases hn; exact kit_ownF e_TooMany.c.o.tyC e_TooMany.c.e.hd u_InvalidLine_TooMany u_InvalidLine_InvalidLine
    | 13, hx => by cases hx; rw [n_TooLong] at hn; cases hn; exact kit_ownF e_TooLong.c.o.tyC e_TooLong.c.e.hd u_InvalidLine_TooLong u_InvalidLine_InvalidLine
    | 14, hx => by cases hx; rw [n_NothingToUndo] at hn; cases hn; exact kit_ownF ty_NothingToUndo hd_NothingToUndo u_InvalidLine_NothingToUndo u_InvalidLine_InvalidLine
    | 15, hx => by cases hx; rw [n_NothingToRedo] at hn; cases hn; exact kit_ownF ty_NothingToRedo hd_NothingToRedo u_InvalidLine_NothingToRedo u_InvalidLine_InvalidLine
    | m + 16, hx => by simp at hx
    , fun D hn => by rw [n_SwapError] at hn; cases hn; exact kit_ownF ty_SwapError hd_SwapError us_InvalidLine u_InvalidLine_InvalidLine, kit_type rfl ut_InvalidLine⟩
  have kd_InvalidDeed : KindI kindNames K 10 C_InvalidDeed := ⟨e_InvalidDeed.c.e, ⟨e_InvalidDeed.c.e.hg, e_InvalidDeed.c.e.hk, e_InvalidDeed.c.e.hs, e_InvalidDeed.c.e.hd⟩, e_InvalidDeed.c.v, fun j x D hx hn => match j, hx with
    | 0, hx => by cases hx; rw [n_InvalidNumber] at hn; cases hn; exact kit_ownF e_InvalidNumber.c.o.tyC e_InvalidNumber.c.e.hd u_InvalidDeed_InvalidNumber u_InvalidDeed_InvalidDeed
    | 1, hx => by cases hx; rw [n_InvalidWord] at hn; cases hn; exact kit_ownF e_InvalidWord.c.o.tyC e_InvalidWord.c.e.hd u_InvalidDeed_InvalidWord u_InvalidDeed_InvalidDeed
    | 2, hx => by cases hx; rw [n_InvalidJoints] at hn; cases hn; exact kit_ownF e_InvalidJoints.c.o.tyC e_InvalidJoints.c.e.hd u_InvalidDeed_InvalidJoints u_InvalidDeed_InvalidDeed
    | 3, hx => by cases hx; rw [n_InvalidPrices] at hn; cases hn; exact kit_ownF e_InvalidPrices.c.o.tyC e_InvalidPrices.c.e.hd u_InvalidDeed_InvalidPrices u_InvalidDeed_InvalidDeed
    | 4, hx => by cases hx; rw [n_InvalidList] at hn; cases hn; exact kit_ownF e_InvalidList.c.o.tyC e_InvalidList.c.e.hd u_InvalidDeed_InvalidList u_InvalidDeed_InvalidDeed
    | 5, hx => by cases hx; rw [n_InvalidTrain] at hn; cases hn; exact kit_ownF e_InvalidTrain.c.o.tyC e_InvalidTrain.c.e.hd u_InvalidDeed_InvalidTrain u_InvalidDeed_InvalidDeed
    | 6, hx => by cases hx; rw [n_InvalidMachine] at hn; cases hn; exact kit_ownF e_InvalidMachine.c.o.tyC e_InvalidMachine.c.e.hd u_InvalidDeed_InvalidMachine u_InvalidDeed_InvalidDeed
    | 7, hx => by cases hx; rw [n_InvalidFar] at hn; cases hn; exact kit_ownF e_InvalidFar.c.o.tyC e_InvalidFar.c.e.hd u_InvalidDeed_InvalidFar u_InvalidDeed_InvalidDeed
    | 8, hx => by cases hx; rw [n_InvalidRoad] at hn; cases hn; exact kit_ownF e_InvalidRoad.c.o.tyC e_InvalidRoad.c.e.hd u_InvalidDeed_InvalidRoad u_InvalidDeed_InvalidDeed
    | 9, hx => by cases hx; rw [n_InvalidLine] at hn; cases hn; exact kit_ownF e_InvalidLine.c.o.tyC e_InvalidLine.c.e.hd u_InvalidDeed_InvalidLine u_InvalidDeed_InvalidDeed
    | 10, hx => by cases hx; rw [n_InvalidDeed] at hn; cases hn; exact kit_ownF e_InvalidDeed.c.o.tyC e_InvalidDeed.c.e.hd u_InvalidDeed_InvalidDeed u_InvalidDeed_InvalidDeed
    | 11, hx => by cases hx; rw [n_Unlike] at hn; cases hn; exact kit_ownF e_Unlike.c.o.tyC e_Unlike.c.e.hd u_InvalidDeed_Unlike u_InvalidDeed_InvalidDeed
    | 12, hx => by cases hx; rw [n_TooMany] at hn; cases hn; exact kit_ownF e_TooMany.c.o.tyC e_TooMany.c.e.hd u_InvalidDeed_TooMany u_InvalidDeed_InvalidDeed
    | 13, hx => by cases hx; rw [n_TooLong] at hn; cases hn; exact kit_ownF e_TooLong.c.o.tyC e_TooLong.c.e.hd u_InvalidDeed_TooLong u_InvalidDeed_InvalidDeed
    | 14, hx => by cases hx; rw [n_NothingToUndo] at hn; cases hn; exact kit_ownF ty_NothingToUndo hd_NothingToUndo u_InvalidDeed_NothingToUndo u_InvalidDeed_InvalidDeed
    | 15, hx => by cases hx; rw [n_NothingToRedo] at hn; cases hn; exact kit_ownF ty_NothingToRedo hd_NothingToRedo u_InvalidDeed_NothingToRedo u_InvalidDeed_InvalidDeed
    | m + 16, hx => by simp at hx
    , fun D hn => by rw [n_SwapError] at hn; cases hn; exact kit_ownF ty_SwapError hd_SwapError us_InvalidDeed u_InvalidDeed_InvalidDeed, kit_type rfl ut_InvalidDeed⟩
  have kd_Unlike : KindI kindNames K 11 C_Unlike := ⟨e_Unlike.c.e, ⟨e_Unlike.c.e.hg, e_Unlike.c.e.hk, e_Unlike.c.e.hs, e_Unlike.c.e.hd⟩, e_Unlike.c.v, fun j x D hx hn => match j, hx with
    | 0, hx => by cases hx; rw [n_InvalidNumber] at hn; cases hn; exact kit_ownF e_InvalidNumber.c.o.tyC e_InvalidNumber.c.e.hd u_Unlike_InvalidNumber u_Unlike_Unlike
    | 1, hx => by cases hx; rw [n_InvalidWord] at hn; cases hn; exact kit_ownF e_InvalidWord.c.o.tyC e_InvalidWord.c.e.hd u_Unlike_InvalidWord u_Unlike_Unlike
    | 2, hx => by cases hx; rw [n_InvalidJoints] at hn; cases hn; exact kit_ownF e_InvalidJoints.c.o.tyC e_InvalidJoints.c.e.hd u_Unlike_InvalidJoints u_Unlike_Unlike
    | 3, hx => by cases hx; rw [n_InvalidPrices] at hn; cases hn; exact kit_ownF e_InvalidPrices.c.o.tyC e_InvalidPrices.c.e.hd u_Unlike_InvalidPrices u_Unlike_Unlike
    | 4, hx => by cases hx; rw [n_InvalidList] at hn; cases hn; exact kit_ownF e_InvalidList.c.o.tyC e_InvalidList.c.e.hd u_Unlike_InvalidList u_Unlike_Unlike
    | 5, hx => by cases hx; rw [n_InvalidTrain] at hn; cases hn; exact kit_ownF e_InvalidTrain.c.o.tyC e_InvalidTrain.c.e.hd u_Unlike_InvalidTrain u_Unlike_Unlike
    | 6, hx => by cases hx; rw [n_InvalidMachine] at hn; cases hn; exact kit_ownF e_InvalidMachine.c.o.tyC e_InvalidMachine.c.e.hd u_Unlike_InvalidMachine u_Unlike_Unlike
    | 7, hx => by cases hx; rw [n_InvalidFar] at hn; cases hn; exact kit_ownF e_InvalidFar.c.o.tyC e_InvalidFar.c.e.hd u_Unlike_InvalidFar u_Unlike_Unlike
    | 8, hx => by cases hx; rw [n_InvalidRoad] at hn; cases hn; exact kit_ownF e_InvalidRoad.c.o.tyC e_InvalidRoad.c.e.hd u_Unlike_InvalidRoad u_Unlike_Unlike
    | 9, hx => by cases hx; rw [n_InvalidLine] at hn; cases hn; exact kit_ownF e_InvalidLine.c.o.tyC e_InvalidLine.c.e.hd u_Unlike_InvalidLine u_Unlike_Unlike
    | 10, hx => by cases hx; rw [n_InvalidDeed] at hn; cases hn; exact kit_ownF e_InvalidDeed.c.o.tyC e_InvalidDeed.c.e.hd u_Unlike_InvalidDeed u_Unlike_Unlike
    | 11, hx => by cases hx; rw [n_Unlike] at hn; cases hn; exact kit_ownF e_Unlike.c.o.tyC e_Unlike.c.e.hd u_Unlike_Unlike u_Unlike_Unlike
    | 12, hx => by cases hx; rw [n_TooMany] at hn; cases hn; exact kit_ownF e_TooMany.c.o.tyC e_TooMany.c.e.hd u_Unlike_TooMany u_Unlike_Unlike
    | 13, hx => by cases hx; rw [n_TooLong] at hn; cases hn; exact kit_ownF e_TooLong.c.o.tyC e_TooLong.c.e.hd u_Unlike_TooLong u_Unlike_Unlike
    | 14, hx => by cases hx; rw [n_NothingToUndo] at hn; cases hn; exact kit_ownF ty_NothingToUndo hd_NothingToUndo u_Unlike_NothingToUndo u_Unlike_Unlike
    | 15, hx => by cases hx; rw [n_NothingToRedo] at hn; cases hn; exact kit_ownF ty_NothingToRedo hd_NothingToRedo u_Unlike_NothingToRedo u_Unlike_Unlike
    | m + 16, hx => by simp at hx
    , fun D hn => by rw [n_SwapError] at hn; cases hn; exact kit_ownF ty_SwapError hd_SwapError us_Unlike u_Unlike_Unlike, kit_type rfl ut_Unlike⟩
  have kd_TooMany : KindI kindNames K 12 C_TooMany := ⟨e_TooMany.c.e, ⟨e_TooMany.c.e.hg, e_TooMany.c.e.hk, e_TooMany.c.e.hs, e_TooMany.c.e.hd⟩, e_TooMany.c.v, fun j x D hx hn => match j, hx with
    | 0, hx => by cases hx; rw [n_InvalidNumber] at hn; cases hn; exact kit_ownF e_InvalidNumber.c.o.tyC e_InvalidNumber.c.e.hd u_TooMany_InvalidNumber u_TooMany_TooMany
    | 1, hx => by cases hx; rw [n_InvalidWord] at hn; cases hn; exact kit_ownF e_InvalidWord.c.o.tyC e_InvalidWord.c.e.hd u_TooMany_InvalidWord u_TooMany_TooMany
    | 2, hx => by cases hx; rw [n_InvalidJoints] at hn; cases hn; exact kit_ownF e_InvalidJoints.c.o.tyC e_InvalidJoints.c.e.hd u_TooMany_InvalidJoints u_TooMany_TooMany
    | 3, hx => by cases hx; rw [n_InvalidPrices] at hn; cases hn; exact kit_ownF e_InvalidPrices.c.o.tyC e_InvalidPrices.c.e.hd u_TooMany_InvalidPrices u_TooMany_TooMany
    | 4, hx => by cases hx; rw [n_InvalidList] at hn; cases hn; exact kit_ownF e_InvalidList.c.o.tyC e_InvalidList.c.e.hd u_TooMany_InvalidList u_TooMany_TooMany
    | 5, hx => by cases hx; rw [n_InvalidTrain] at hn; cases hn; exact kit_ownF e_InvalidTrain.c.o.tyC e_InvalidTrain.c.e.hd u_TooMany_InvalidTrain u_TooMany_TooMany
    | 6, hx => by cases hx; rw [n_InvalidMachine] at hn; cases hn; exact kit_ownF e_InvalidMachine.c.o.tyC e_InvalidMachine.c.e.hd u_TooMany_InvalidMachine u_TooMany_TooMany
    | 7, hx => by cases hx; rw [n_InvalidFar] at hn; cases hn; exact kit_ownF e_InvalidFar.c.o.tyC e_InvalidFar.c.e.hd u_TooMany_InvalidFar u_TooMany_TooMany
    | 8, hx => by cases hx; rw [n_InvalidRoad] at hn; cases hn; exact kit_ownF e_InvalidRoad.c.o.tyC e_InvalidRoad.c.e.hd u_TooMany_InvalidRoad u_TooMany_TooMany
    | 9, hx => by cases hx; rw [n_InvalidLine] at hn; cases hn; exact kit_ownF e_InvalidLine.c.o.tyC e_InvalidLine.c.e.hd u_TooMany_InvalidLine u_TooMany_TooMany
    | 10, hx => by cases hx; rw [n_InvalidDeed] at hn; cases hn; exact kit_ownF e_InvalidDeed.c.o.tyC e_InvalidDeed.c.e.hd u_TooMany_InvalidDeed u_TooMany_TooMany
    | 11, hx => by cases hx; rw [n_Unlike] at hn; cases hn; exact kit_ownF e_Unlike.c.o.tyC e_Unlike.c.e.hd u_TooMany_Unlike u_TooMany_TooMany
    | 12, hx => by cases hx; rw [n_TooMany] at hn; cases hn; exact kit_ownF e_TooMany.c.o.tyC e_TooMany.c.e.hd u_TooMany_TooMany u_TooMany_TooMany
    | 13, hx => by cases hx; rw [n_TooLong] at hn; cases hn; exact kit_ownF e_TooLong.c.o.tyC e_TooLong.c.e.hd u_TooMany_TooLong u_TooMany_TooMany
    | 14, hx => by cases hx; rw [n_NothingToUndo] at hn; cases hn; exact kit_ownF ty_NothingToUndo hd_NothingToUndo u_TooMany_NothingToUndo u_TooMany_TooMany
    | 15, hx => by cases hx; rw [n_NothingToRedo] at hn; cases hn; exact kit_ownF ty_NothingToRedo hd_NothingToRedo u_TooMany_NothingToRedo u_TooMany_TooMany
    | m + 16, hx => by simp at hx
    , fun D hn => by rw [n_SwapError] at hn; cases hn; exact kit_ownF ty_SwapError hd_SwapError us_TooMany u_TooMany_TooMany, kit_type rfl ut_TooMany⟩
  have kd_TooLong : KindI kindNames K 13 C_TooLong := ⟨e_TooLong.c.e, ⟨e_TooLong.c.e.hg, e_TooLong.c.e.hk, e_TooLong.c.e.hs, e_TooLong.c.e.hd⟩, e_TooLong.c.v, fun j x D hx hn => match j, hx with
    | 0, hx => by cases hx; rw [n_InvalidNumber] at hn; cases hn; exact kit_ownF e_InvalidNumber.c.o.tyC e_InvalidNumber.c.e.hd u_TooLong_InvalidNumber u_TooLong_TooLong
    | 1, hx => by cases hx; rw [n_InvalidWord] at hn; cases hn; exact kit_ownF e_InvalidWord.c.o.tyC e_InvalidWord.c.e.hd u_TooLong_InvalidWord u_TooLong_TooLong
    | 2, hx => by cases hx; rw [n_InvalidJoints] at hn; cases hn; exact kit_ownF e_InvalidJoints.c.o.tyC e_InvalidJoints.c.e.hd u_TooLong_InvalidJoints u_TooLong_TooLong
    | 3, hx => by cases hx; rw [n_InvalidPrices] at hn; cases hn; exact kit_ownF e_InvalidPrices.c.o.tyC e_InvalidPrices.c.e.hd u_TooLong_InvalidPrices u_TooLong_TooLong
    | 4, hx => by cases hx; rw [n_InvalidList] at hn; cases hn; exact kit_ownF e_InvalidList.c.o.tyC e_InvalidList.c.e.hd u_TooLong_InvalidList u_TooLong_TooLong
    | 5, hx => by cases hx; rw [n_InvalidTrain] at hn; cases hn; exact kit_ownF e_InvalidTrain.c.o.tyC e_InvalidTrain.c.e.hd u_TooLong_InvalidTrain u_TooLong_TooLong
    | 6, hx => by cases hx; rw [n_InvalidMachine] at hn; cases hn; exact kit_ownF e_InvalidMachine.c.o.tyC e_InvalidMachine.c.e.hd u_TooLong_InvalidMachine u_TooLong_TooLong
    | 7, hx => by cases hx; rw [n_InvalidFar] at hn; cases hn; exact kit_ownF e_InvalidFar.c.o.tyC e_InvalidFar.c.e.hd u_TooLong_InvalidFar u_TooLong_TooLong
    | 8, hx => by cases hx; rw [n_InvalidRoad] at hn; cases hn; exact kit_ownF e_InvalidRoad.c.o.tyC e_InvalidRoad.c.e.hd u_TooLong_InvalidRoad u_TooLong_TooLong
    | 9, hx => by cases hx; rw [n_InvalidLine] at hn; cases hn; exact kit_ownF e_InvalidLine.c.o.tyC e_InvalidLine.c.e.hd u_TooLong_InvalidLine u_TooLong_TooLong
    | 10, hx => by cases hx; rw [n_InvalidDeed] at hn; cases hn; exact kit_ownF e_InvalidDeed.c.o.tyC e_InvalidDeed.c.e.hd u_TooLong_InvalidDeed u_TooLong_TooLong
    | 11, hx => by cases hx; rw [n_Unlike] at hn; cases hn; exact kit_ownF e_Unlike.c.o.tyC e_Unlike.c.e.hd u_TooLong_Unlike u_TooLong_TooLong
    | 12, hx => by cases hx; rw [n_TooMany] at hn; cases hn; exact kit_ownF e_TooMany.c.o.tyC e_TooMany.c.e.hd u_TooLong_TooMany u_TooLong_TooLong
    | 13, hx => by cases hx; rw [n_TooLong] at hn; cases hn; exact kit_ownF e_TooLong.c.o.tyC e_TooLong.c.e.hd u_TooLong_TooLong u_TooLong_TooLong
    | 14, hx => by cases hx; rw [n_NothingToUndo] at hn; cases hn; exact kit_ownF ty_NothingToUndo hd_NothingToUndo u_TooLong_NothingToUndo u_TooLong_TooLong
    | 15, hx => by cases hx; rw [n_NothingToRedo] at hn; cases hn; exact kit_ownF ty_NothingToRedo hd_NothingToRedo u_TooLong_NothingToRedo u_TooLong_TooLong
    | m + 16, hx => by simp at hx
    , fun D hn => by rw [n_SwapError] at hn; cases hn; exact kit_ownF ty_SwapError hd_SwapError us_TooLong u_TooLong_TooLong, kit_type rfl ut_TooLong⟩
  have kd_NothingToUndo : KindI kindNames K 14 C_NothingToUndo := ⟨x_NothingToUndo, ⟨x_NothingToUndo.hg, x_NothingToUndo.hk, x_NothingToUndo.hs, x_NothingToUndo.hd⟩, v_NothingToUndo, fun j x D hx hn => match j, hx with
    | 0, hx => by cases hx; rw [n_InvalidNumber] at hn; cases hn; exact kit_ownF e_InvalidNumber.c.o.tyC e_InvalidNumber.c.e.hd u_NothingToUndo_InvalidNumber u_NothingToUndo_NothingToUndo
    | 1, hx => by cases hx; rw [n_InvalidWord] at hn; cases hn; exact kit_ownF e_InvalidWord.c.o.tyC e_InvalidWord.c.e.hd u_NothingToUndo_InvalidWord u_NothingToUndo_NothingToUndo
    | 2, hx => by cases hx; rw [n_InvalidJoints] at hn; cases hn; exact kit_ownF e_InvalidJoints.c.o.tyC e_InvalidJoints.c.e.hd u_NothingToUndo_InvalidJoints u_NothingToUndo_NothingToUndo
    | 3, hx => by cases hx; rw [n_InvalidPrices] at hn; cases hn; exact kit_ownF e_InvalidPrices.c.o.tyC e_InvalidPrices.c.e.hd u_NothingToUndo_InvalidPrices u_NothingToUndo_NothingToUndo
    | 4, hx => by cases hx; rw [n_InvalidList] at hn; cases hn; exact kit_ownF e_InvalidList.c.o.tyC e_InvalidList.c.e.hd u_NothingToUndo_InvalidList u_NothingToUndo_NothingToUndo
    | 5, hx => by cases hx; rw [n_InvalidTrain] at hn; cases hn; exact kit_ownF e_InvalidTrain.c.o.tyC e_InvalidTrain.c.e.hd u_NothingToUndo_InvalidTrain u_NothingToUndo_NothingToUndo
    | 6, hx => by cases hx; rw [n_InvalidMachine] at hn; cases hn; exact kit_ownF e_InvalidMachine.c.o.tyC e_InvalidMachine.c.e.hd u_NothingToUndo_InvalidMachine u_NothingToUndo_NothingToUndo
    | 7, hx => by cases hx; rw [n_InvalidFar] at hn; cases hn; exact kit_ownF e_InvalidFar.c.o.tyC e_InvalidFar.c.e.hd u_NothingToUndo_InvalidFar u_NothingToUndo_NothingToUndo
    | 8, hx => by cases hx; rw [n_InvalidRoad] at hn; cases hn; exact kit_ownF e_InvalidRoad.c.o.tyC e_InvalidRoad.c.e.hd u_NothingToUndo_InvalidRoad u_NothingToUndo_NothingToUndo
    | 9, hx => by cases hx; rw [n_InvalidLine] at hn; cases hn; exact kit_ownF e_InvalidLine.c.o.tyC e_InvalidLine.c.e.hd u_NothingToUndo_InvalidLine u_NothingToUndo_NothingToUndo
    | 10, hx => by cases hx; rw [n_InvalidDeed] at hn; cases hn; exact kit_ownF e_InvalidDeed.c.o.tyC e_InvalidDeed.c.e.hd u_NothingToUndo_InvalidDeed u_NothingToUndo_NothingToUndo
    | 11, hx => by cases hx; rw [n_Unlike] at hn; cases hn; exact kit_ownF e_Unlike.c.o.tyC e_Unlike.c.e.hd u_NothingToUndo_Unlike u_NothingToUndo_NothingToUndo
    | 12, hx => by cases hx; rw [n_TooMany] at hn; cases hn; exact kit_ownF e_TooMany.c.o.tyC e_TooMany.c.e.hd u_NothingToUndo_TooMany u_NothingToUndo_NothingToUndo
    | 13, hx => by cases hx; rw [n_TooLong] at hn; cases hn; exact kit_ownF e_TooLong.c.o.tyC e_TooLong.c.e.hd u_NothingToUndo_TooLong u_NothingToUndo_NothingToUndo
    | 14, hx => by cases hx; rw [n_NothingToUndo] at hn; cases hn; exact kit_ownF ty_NothingToUndo hd_NothingToUndo u_NothingToUndo_NothingToUndo u_NothingToUndo_NothingToUndo
    | 15, hx => by cases hx; rw [n_NothingToRedo] at hn; cases hn; exact kit_ownF ty_NothingToRedo hd_NothingToRedo u_NothingToUndo_NothingToRedo u_NothingToUndo_NothingToUndo
    | m + 16, hx => by simp at hx
    , fun D hn => by rw [n_SwapError] at hn; cases hn; exact kit_ownF ty_SwapError hd_SwapError us_NothingToUndo u_NothingToUndo_NothingToUndo, kit_type rfl ut_NothingToUndo⟩
  have kd_NothingToRedo : KindI kindNames K 15 C_NothingToRedo := ⟨x_NothingToRedo, ⟨x_NothingToRedo.hg, x_NothingToRedo.hk, x_NothingToRedo.hs, x_NothingToRedo.hd⟩, v_NothingToRedo, fun j x D hx hn => match j, hx with
    | 0, hx => by cases hx; rw [n_InvalidNumber] at hn; cases hn; exact kit_ownF e_InvalidNumber.c.o.tyC e_InvalidNumber.c.e.hd u_NothingToRedo_InvalidNumber u_NothingToRedo_NothingToRedo
    | 1, hx => by cases hx; rw [n_InvalidWord] at hn; cases hn; exact kit_ownF e_InvalidWord.c.o.tyC e_InvalidWord.c.e.hd u_NothingToRedo_InvalidWord u_NothingToRedo_NothingToRedo
    | 2, hx => by cases hx; rw [n_InvalidJoints] at hn; cases hn; exact kit_ownF e_InvalidJoints.c.o.tyC e_InvalidJoints.c.e.hd u_NothingToRedo_InvalidJoints u_NothingToRedo_NothingToRedo
    | 3, hx => by cases hx; rw [n_InvalidPrices] at hn; cases hn; exact kit_ownF e_InvalidPrices.c.o.tyC e_InvalidPrices.c.e.hd u_NothingToRedo_InvalidPrices u_NothingToRedo_NothingToRedo
    | 4, hx => by cases hx; rw [n_InvalidList] at hn; cases hn; exact kit_ownF e_InvalidList.c.o.tyC e_InvalidList.c.e.hd u_NothingToRedo_InvalidList u_NothingToRedo_NothingToRedo
    | 5, hx => by cases hx; rw [n_InvalidTrain] at hn; cases hn; exact kit_ownF e_InvalidTrain.c.o.tyC e_InvalidTrain.c.e.hd u_NothingToRedo_InvalidTrain u_NothingToRedo_NothingToRedo
    | 6, hx => by cases hx; rw [n_InvalidMachine] at hn; cases hn; exact kit_ownF e_InvalidMachine.c.o.tyC e_InvalidMachine.c.e.hd u_NothingToRedo_InvalidMachine u_NothingToRedo_NothingToRedo
    | 7, hx => by cases hx; rw [n_InvalidFar] at hn; cases hn; exact kit_ownF e_InvalidFar.c.o.tyC e_InvalidFar.c.e.hd u_NothingToRedo_InvalidFar u_NothingToRedo_NothingToRedo
    | 8, hx => by cases hx; rw [n_InvalidRoad] at hn; cases hn; exact kit_ownF e_InvalidRoad.c.o.tyC e_InvalidRoad.c.e.hd u_NothingToRedo_InvalidRoad u_NothingToRedo_NothingToRedo
    | 9, hx => by cases hx; rw [n_InvalidLine] at hn; cases hn; exact kit_ownF e_InvalidLine.c.o.tyC e_InvalidLine.c.e.hd u_NothingToRedo_InvalidLine u_NothingToRedo_NothingToRedo
    | 10, hx => by cases hx; rw [n_InvalidDeed] at hn; cases hn; exact kit_ownF e_InvalidDeed.c.o.tyC e_InvalidDeed.c.e.hd u_NothingToRedo_InvalidDeed u_NothingToRedo_NothingToRedo
    | 11, hx => by cases hx; rw [n_Unlike] at hn; cases hn; exact kit_ownF e_Unlike.c.o.tyC e_Unlike.c.e.hd u_NothingToRedo_Unlike u_NothingToRedo_NothingToRedo
    | 12, hx => by cases hx; rw [n_TooMany] at hn; cases hn; exact kit_ownF e_TooMany.c.o.tyC e_TooMany.c.e.hd u_NothingToRedo_TooMany u_NothingToRedo_NothingToRedo
    | 13, hx => by cases hx; rw [n_TooLong] at hn; cases hn; exact kit_ownF e_TooLong.c.o.tyC e_TooLong.c.e.hd u_NothingToRedo_TooLong u_NothingToRedo_NothingToRedo
    | 14, hx => by cases hx; rw [n_NothingToUndo] at hn; cases hn; exact kit_ownF ty_NothingToUndo hd_NothingToUndo u_NothingToRedo_NothingToUndo u_NothingToRedo_NothingToRedo
    | 15, hx => by cases hx; rw [n_NothingToRedo] at hn; cases hn; exact kit_ownF ty_NothingToRedo hd_NothingToRedo u_NothingToRedo_NothingToRedo u_NothingToRedo_NothingToRedo
    | m + 16, hx => by simp at hx
    , fun D hn => by rw [n_SwapError] at hn; cases hn; exact kit_ownF ty_SwapError hd_SwapError us_NothingToRedo u_NothingToRedo_NothingToRedo, kit_type rfl ut_NothingToRedo⟩
  let T : Txt K mg := { C_InvalidDeed := _, n_InvalidDeed := n_InvalidDeed, kd_InvalidDeed := kd_InvalidDeed, fI_InvalidDeed := _, fc_InvalidDeed := _, e_InvalidDeed := e_InvalidDeed, C_InvalidFar := _, n_InvalidFar := n_InvalidFar, kd_InvalidFar := kd_InvalidFar, fI_InvalidFar := _, fc_InvalidFar := _, e_InvalidFar := e_InvalidFar, C_InvalidJoints := _, n_InvalidJoints := n_InvalidJoints, kd_InvalidJoints := kd_InvalidJoints, fI_InvalidJoints := _, fc_InvalidJoints := _, e_InvalidJoints := e_InvalidJoints, C_InvalidLine := _, n_InvalidLine := n_InvalidLine, kd_InvalidLine := kd_InvalidLine, fI_InvalidLine := _, fc_InvalidLine := _, e_InvalidLine := e_InvalidLine, C_InvalidList := _, n_InvalidList := n_InvalidList, kd_InvalidList := kd_InvalidList, fI_InvalidList := _, fc_InvalidList := _, e_InvalidList := e_InvalidList, C_InvalidMachine := _, n_InvalidMachine := n_InvalidMachine, kd_InvalidMachine := kd_InvalidMachine, fI_InvalidMachine := _, fc_InvalidMachine := _, e_InvalidMachine := e_InvalidMachine, C_InvalidNumber := _, n_InvalidNumber := n_InvalidNumber, kd_InvalidNumber := kd_InvalidNumber, fI_InvalidNumber := _, fc_InvalidNumber := _, e_InvalidNumber := e_InvalidNumber, C_InvalidPrices := _, n_InvalidPrices := n_InvalidPrices, kd_InvalidPrices := kd_InvalidPrices, fI_InvalidPrices := _, fc_InvalidPrices := _, e_InvalidPrices := e_InvalidPrices, C_InvalidRoad := _, n_InvalidRoad := n_InvalidRoad, kd_InvalidRoad := kd_InvalidRoad, fI_InvalidRoad := _, fc_InvalidRoad := _, e_InvalidRoad := e_InvalidRoad, C_InvalidTrain := _, n_InvalidTrain := n_InvalidTrain, kd_InvalidTrain := kd_InvalidTrain, fI_InvalidTrain := _, fc_InvalidTrain := _, e_InvalidTrain := e_InvalidTrain, C_InvalidWord := _, n_InvalidWord := n_InvalidWord, kd_InvalidWord := kd_InvalidWord, fI_InvalidWord := _, fc_InvalidWord := _, e_InvalidWord := e_InvalidWord, C_NothingToRedo := _, n_NothingToRedo := n_NothingToRedo, kd_NothingToRedo := kd_NothingToRedo, m_NothingToRedo := PySem.W.mg_of X G n_NothingToRedo, q_NothingToRedo := q_NothingToRedo, k_NothingToRedo := k_NothingToRedo, C_NothingToUndo := _, n_NothingToUndo := n_NothingToUndo, kd_NothingToUndo := kd_NothingToUndo, m_NothingToUndo := PySem.W.mg_of X G n_NothingToUndo, q_NothingToUndo := q_NothingToUndo, k_NothingToUndo := k_NothingToUndo, C_SwapError := _, n_SwapError := n_SwapError, m_SwapError := PySem.W.mg_of X G n_SwapError, C_TooLong := _, n_TooLong := n_TooLong, kd_TooLong := kd_TooLong, fI_TooLong := _, fc_TooLong := _, e_TooLong := e_TooLong, C_TooMany := _, n_TooMany := n_TooMany, kd_TooMany := kd_TooMany, fI_TooMany := _, fc_TooMany := _, e_TooMany := e_TooMany, C_Unlike := _, n_Unlike := n_Unlike, kd_Unlike := kd_Unlike, fI_Unlike := _, fc_Unlike := _, e_Unlike := e_Unlike, f__law_hash := _, fd__law_hash := _, F__law_hash := F__law_hash, m__law_hash := PySem.W.mg_of X G a__law_hash, b__law_hash := b__law_hash, f__law_cell := _, fd__law_cell := _, F__law_cell := F__law_cell, m__law_cell := PySem.W.mg_of X G a__law_cell, b__law_cell := b__law_cell, f__law_random := _, fd__law_random := _, F__law_random := F__law_random, m__law_random := PySem.W.mg_of X G a__law_random, b__law_random := b__law_random, f__law_generator := _, fd__law_generator := _, F__law_generator := F__law_generator, m__law_generator := PySem.W.mg_of X G a__law_generator, b__law_generator := b__law_generator, f__law_made := _, fd__law_made := _, F__law_made := F__law_made, m__law_made := PySem.W.mg_of X G a__law_made, b__law_made := b__law_made, f__law_named := _, fd__law_named := _, F__law_named := F__law_named, m__law_named := PySem.W.mg_of X G a__law_named, b__law_named := b__law_named, f__law_empty := _, fd__law_empty := _, F__law_empty := F__law_empty, m__law_empty := PySem.W.mg_of X G a__law_empty, b__law_empty := b__law_empty, f__law_kinds := _, fd__law_kinds := _, F__law_kinds := F__law_kinds, m__law_kinds := PySem.W.mg_of X G a__law_kinds, b__law_kinds := b__law_kinds, f__law_row_right := _, fd__law_row_right := _, F__law_row_right := F__law_row_right, m__law_row_right := PySem.W.mg_of X G a__law_row_right, b__law_row_right := b__law_row_right, f_law := _, fd_law := _, F_law := F_law, m_law := PySem.W.mg_of X G a_law, b_law := b_law, z_ValueError := PySem.W.mg_none_of X G z_ValueError, z_enumerate := PySem.W.mg_none_of X G z_enumerate, z_int := PySem.W.mg_none_of X G z_int, z_isinstance := PySem.W.mg_none_of X G z_isinstance, z_len := PySem.W.mg_none_of X G z_len, z_max := PySem.W.mg_none_of X G z_max, z_range := PySem.W.mg_none_of X G z_range, z_repr := PySem.W.mg_none_of X G z_repr, z_sum := PySem.W.mg_none_of X G z_sum }
  exact ⟨PySem.W.fnOf "law" "law" (defArgs s_law) (defBody s_law) (defScope s_law) .none kV_law dc_law pm_law an_law cd_law ct_law, fun s v => .of_eq rfl, fun base _ _ => ok_law T⟩
theorem walk {l : PySem.W.OpenLaw} {q : Program} {loose : List Str} {XP : (Str → Option Value) → Heap → Prop} {YP : World → Heap → Prop} {d : DefRec} {K : Params → PySem.W.Frag} (hn : l.most = some 63) (hdf : d.params.defaults = [])
    (hY : ∀ (w : World) (h : Heap), YP w h → (K w.params).In h)
    (F : ∀ (w : World) (mg : Str → Option Value) (fa : Addr) (h : Heap), (K w.params).In h → h.Ns mainGlobals mg → mg d.name = some (.ref fa) →
      ∃ fd : FuncData, (∀ (s : Shared) (u : Value), BindsTo s fd ⟨[u], []⟩ [("_law_script", u)]) ∧ ∀ base : Heap, (K w.params).In base → base.Ns mainGlobals mg → FnC l.prog w (K w.params) mg base CX0 6 fa fd ["_law_script"] (sp_law (K w.params))) :
    PySem.W.WalkO q loose XP YP l.row.toRowW d [] (fun f vs => PySem.call f vs) :=
  walkC (n := 63) (k := 6) (x := "_law_script") (sp := fun w => sp_law (K w.params)) hn (by decide) hdf ⟨rfl, by decide, by decide⟩ hY F (fun _ _ a ns hl _ hS => ⟨a, ns, rfl, hS, hl, fun _ => rfl⟩)
end K05
open PySem PySem.W PyProof.Rows
set_option maxRecDepth 100000 in
set_option maxHeartbeats 0 in
theorem PySem.Challenge.cw_sideswaps_k05_errors_by_their_classes_holds : PySem.Challenge.rw_sideswaps_k05_errors_by_their_classes.Holds := by
  w_on; o_law; k_head; (case hw => w_witness2)
  k_fill
  refine K05.walk (l := PySem.Challenge.rw_sideswaps_k05_errors_by_their_classes) rfl rfl (fun w h Y => PySem.W.kIn_of Y) ?F
  case F =>
    intro w mg fa h KX G hmg
    refine' K05.all_mk KX G hmg ?a__law_hash ?l__law_hash ?c__law_hash ?k__law_hash ?a__law_cell ?l__law_cell ?c__law_cell ?k__law_cell ?a__law_random ?l__law_random ?c__law_random ?k__law_random ?a__law_generator ?l__law_generator ?c__law_generator ?k__law_generator ?a__law_made ?l__law_made ?c__law_made ?k__law_made ?a__law_named ?l__law_named ?c__law_named ?k__law_named ?a__law_empty ?l__law_empty ?c__law_empty ?k__law_empty ?a__law_kinds ?l__law_kinds ?c__law_kinds ?k__law_kinds ?a__law_row_right ?l__law_row_right ?c__law_row_right ?k__law_row_right ?a_law ?l_law ?c_law ?k_law ?n_InvalidDeed ?e_InvalidDeed ?n_InvalidFar ?e_InvalidFar ?n_InvalidJoints ?e_InvalidJoints ?n_InvalidLine ?e_InvalidLine ?n_InvalidList ?e_InvalidList ?n_InvalidMachine ?e_InvalidMachine ?n_InvalidNumber ?e_InvalidNumber ?n_InvalidPrices ?e_InvalidPrices ?n_InvalidRoad ?e_InvalidRoad ?n_InvalidTrain ?e_InvalidTrain ?n_InvalidWord ?e_InvalidWord ?n_NothingToRedo ?ty_NothingToRedo ?hd_NothingToRedo ?q_NothingToRedo ?k_NothingToRedo ?x_NothingToRedo ?v_NothingToRedo ?n_NothingToUndo ?ty_NothingToUndo ?hd_NothingToUndo ?q_NothingToUndo ?k_NothingToUndo ?x_NothingToUndo ?v_NothingToUndo ?n_SwapError ?ty_SwapError ?hd_SwapError ?n_TooLong ?e_TooLong ?n_TooMany ?e_TooMany ?n_Unlike ?e_Unlike ?u_InvalidNumber_InvalidNumber ?u_InvalidNumber_InvalidWord ?u_InvalidNumber_InvalidJoints ?u_InvalidNumber_InvalidPrices ?u_InvalidNumber_InvalidList ?u_InvalidNumber_InvalidTrain ?u_InvalidNumber_InvalidMachine ?u_InvalidNumber_InvalidFar ?u_InvalidNumber_InvalidRoad ?u_InvalidNumber_InvalidLine ?u_InvalidNumber_InvalidDeed ?u_InvalidNumber_Unlike ?u_InvalidNumber_TooMany ?u_InvalidNumber_TooLong ?u_InvalidNumber_NothingToUndo ?u_InvalidNumber_NothingToRedo ?us_InvalidNumber ?ut_InvalidNumber ?u_InvalidWord_InvalidNumber ?u_InvalidWord_InvalidWord ?u_InvalidWord_InvalidJoints ?u_InvalidWord_InvalidPrices ?u_InvalidWord_InvalidList ?u_InvalidWord_InvalidTrain ?u_InvalidWord_InvalidMachine ?u_InvalidWord_InvalidFar ?u_InvalidWord_InvalidRoad ?u_InvalidWord_InvalidLine ?u_InvalidWord_InvalidDeed ?u_InvalidWord_Unlike ?u_InvalidWord_TooMany ?u_InvalidWord_TooLong ?u_InvalidWord_NothingToUndo ?u_InvalidWord_NothingToRedo ?us_InvalidWord ?ut_InvalidWord ?u_InvalidJoints_InvalidNumber ?u_InvalidJoints_InvalidWord ?u_InvalidJoints_InvalidJoints ?u_InvalidJoints_InvalidPrices ?u_InvalidJoints_InvalidList ?u_InvalidJoints_InvalidTrain ?u_InvalidJoints_InvalidMachine ?u_InvalidJoints_InvalidFar ?u_InvalidJoints_InvalidRoad ?u_InvalidJoints_InvalidLine ?u_InvalidJoints_InvalidDeed ?u_InvalidJoints_Unlike ?u_InvalidJoints_TooMany ?u_InvalidJoints_TooLong ?u_InvalidJoints_NothingToUndo ?u_InvalidJoints_NothingToRedo ?us_InvalidJoints ?ut_InvalidJoints ?u_InvalidPrices_InvalidNumber ?u_InvalidPrices_InvalidWord ?u_InvalidPrices_InvalidJoints ?u_InvalidPrices_InvalidPrices ?u_InvalidPrices_InvalidList ?u_InvalidPrices_InvalidTrain ?u_InvalidPrices_InvalidMachine ?u_InvalidPrices_InvalidFar ?u_InvalidPrices_InvalidRoad ?u_InvalidPrices_InvalidLine ?u_InvalidPrices_InvalidDeed ?u_InvalidPrices_Unlike ?u_InvalidPrices_TooMany ?u_InvalidPrices_TooLong ?u_InvalidPrices_NothingToUndo ?u_InvalidPrices_NothingToRedo ?us_InvalidPrices ?ut_InvalidPrices ?u_InvalidList_InvalidNumber ?u_InvalidList_InvalidWord ?u_InvalidList_InvalidJoints ?u_InvalidList_InvalidPrices ?u_InvalidList_InvalidList ?u_InvalidList_InvalidTrain ?u_InvalidList_InvalidMachine ?u_InvalidList_InvalidFar ?u_InvalidList_InvalidRoad ?u_InvalidList_InvalidLine ?u_InvalidList_InvalidDeed ?u_InvalidList_Unlike ?u_InvalidList_TooMany ?u_InvalidList_TooLong ?u_InvalidList_NothingToUndo ?u_InvalidList_NothingToRedo ?us_InvalidList ?ut_InvalidList ?u_InvalidTrain_InvalidNumber ?u_InvalidTrain_InvalidWord ?u_InvalidTrain_InvalidJoints ?u_InvalidTrain_InvalidPrices ?u_InvalidTrain_InvalidList ?u_InvalidTrain_InvalidTrain ?u_InvalidTrain_InvalidMachine ?u_InvalidTrain_InvalidFar ?u_InvalidTrain_InvalidRoad ?u_InvalidTrain_InvalidLine ?u_InvalidTrain_InvalidDeed ?u_InvalidTrain_Unlike ?u_InvalidTrain_TooMany ?u_InvalidTrain_TooLong ?u_InvalidTrain_NothingToUndo ?u_InvalidTrain_NothingToRedo ?us_InvalidTrain ?ut_InvalidTrain ?u_InvalidMachine_InvalidNumber ?u_InvalidMachine_InvalidWord ?u_InvalidMachine_InvalidJoints ?u_InvalidMachine_InvalidPrices ?u_InvalidMachine_InvalidList ?u_InvalidMachine_InvalidTrain ?u_InvalidMachine_InvalidMachine ?u_InvalidMachine_InvalidFar ?u_InvalidMachine_InvalidRoad ?u_InvalidMachine_InvalidLine ?u_InvalidMachine_InvalidDeed ?u_InvalidMachine_Unlike ?u_InvalidMachine_TooMany ?u_InvalidMachine_TooLong ?u_InvalidMachine_NothingToUndo ?u_InvalidMachine_NothingToRedo ?us_InvalidMachine ?ut_InvalidMachine ?u_InvalidFar_InvalidNumber ?u_InvalidFar_InvalidWord ?u_InvalidFar_InvalidJoints ?u_InvalidFar_InvalidPrices ?u_InvalidFar_InvalidList ?u_InvalidFar_InvalidTrain ?u_InvalidFar_InvalidMachine ?u_InvalidFar_InvalidFar ?u_InvalidFar_InvalidRoad ?u_InvalidFar_InvalidLine ?u_InvalidFar_InvalidDeed ?u_InvalidFar_Unlike ?u_InvalidFar_TooMany ?u_InvalidFar_TooLong ?u_InvalidFar_NothingToUndo ?u_InvalidFar_NothingToRedo ?us_InvalidFar ?ut_InvalidFar ?u_InvalidRoad_InvalidNumber ?u_InvalidRoad_InvalidWord ?u_InvalidRoad_InvalidJoints ?u_InvalidRoad_InvalidPrices ?u_InvalidRoad_InvalidList ?u_InvalidRoad_InvalidTrain ?u_InvalidRoad_InvalidMachine ?u_InvalidRoad_InvalidFar ?u_InvalidRoad_InvalidRoad ?u_InvalidRoad_InvalidLine ?u_InvalidRoad_InvalidDeed ?u_InvalidRoad_Unlike ?u_InvalidRoad_TooMany ?u_InvalidRoad_TooLong ?u_InvalidRoad_NothingToUndo ?u_InvalidRoad_NothingToRedo ?us_InvalidRoad ?ut_InvalidRoad ?u_InvalidLine_InvalidNumber ?u_InvalidLine_InvalidWord ?u_InvalidLine_InvalidJoints ?u_InvalidLine_InvalidPrices ?u_InvalidLine_InvalidList ?u_InvalidLine_InvalidTrain ?u_InvalidLine_InvalidMachine ?u_InvalidLine_InvalidFar ?u_InvalidLine_InvalidRoad ?u_InvalidLine_InvalidLine ?u_InvalidLine_InvalidDeed ?u_InvalidLine_Unlike ?u_InvalidLine_TooMany ?u_InvalidLine_TooLong ?u_InvalidLine_NothingToUndo ?u_InvalidLine_NothingToRedo ?us_InvalidLine ?ut_InvalidLine ?u_InvalidDeed_InvalidNumber ?u_InvalidDeed_InvalidWord ?u_InvalidDeed_InvalidJoints ?u_InvalidDeed_InvalidPrices ?u_InvalidDeed_InvalidList ?u_InvalidDeed_InvalidTrain ?u_InvalidDeed_InvalidMachine ?u_InvalidDeed_InvalidFar ?u_InvalidDeed_InvalidRoad ?u_InvalidDeed_InvalidLine ?u_InvalidDeed_InvalidDeed ?u_InvalidDeed_Unlike ?u_InvalidDeed_TooMany ?u_InvalidDeed_TooLong ?u_InvalidDeed_NothingToUndo ?u_InvalidDeed_NothingToRedo ?us_InvalidDeed ?ut_InvalidDeed ?u_Unlike_InvalidNumber ?u_Unlike_InvalidWord ?u_Unlike_InvalidJoints ?u_Unlike_InvalidPrices ?u_Unlike_InvalidList ?u_Unlike_InvalidTrain ?u_Unlike_InvalidMachine ?u_Unlike_InvalidFar ?u_Unlike_InvalidRoad ?u_Unlike_InvalidLine ?u_Unlike_InvalidDeed ?u_Unlike_Unlike ?u_Unlike_TooMany ?u_Unlike_TooLong ?u_Unlike_NothingToUndo ?u_Unlike_NothingToRedo ?us_Unlike ?ut_Unlike ?u_TooMany_InvalidNumber ?u_TooMany_InvalidWord ?u_TooMany_InvalidJoints ?u_TooMany_InvalidPrices ?u_TooMany_InvalidList ?u_TooMany_InvalidTrain ?u_TooMany_InvalidMachine ?u_TooMany_InvalidFar ?u_TooMany_InvalidRoad ?u_TooMany_InvalidLine ?u_TooMany_InvalidDeed ?u_TooMany_Unlike ?u_TooMany_TooMany ?u_TooMany_TooLong ?u_TooMany_NothingToUndo ?u_TooMany_NothingToRedo ?us_TooMany ?ut_TooMany ?u_TooLong_InvalidNumber ?u_TooLong_InvalidWord ?u_TooLong_InvalidJoints ?u_TooLong_InvalidPrices ?u_TooLong_InvalidList ?u_TooLong_InvalidTrain ?u_TooLong_InvalidMachine ?u_TooLong_InvalidFar ?u_TooLong_InvalidRoad ?u_TooLong_InvalidLine ?u_TooLong_InvalidDeed ?u_TooLong_Unlike ?u_TooLong_TooMany ?u_TooLong_TooLong ?u_TooLong_NothingToUndo ?u_TooLong_NothingToRedo ?us_TooLong ?ut_TooLong ?u_NothingToUndo_InvalidNumber ?u_NothingToUndo_InvalidWord ?u_NothingToUndo_InvalidJoints ?u_NothingToUndo_InvalidPrices ?u_NothingToUndo_InvalidList ?u_NothingToUndo_InvalidTrain ?u_NothingToUndo_InvalidMachine ?u_NothingToUndo_InvalidFar ?u_NothingToUndo_InvalidRoad ?u_NothingToUndo_InvalidLine ?u_NothingToUndo_InvalidDeed ?u_NothingToUndo_Unlike ?u_NothingToUndo_TooMany ?u_NothingToUndo_TooLong ?u_NothingToUndo_NothingToUndo ?u_NothingToUndo_NothingToRedo ?us_NothingToUndo ?ut_NothingToUndo ?u_NothingToRedo_InvalidNumber ?u_NothingToRedo_InvalidWord ?u_NothingToRedo_InvalidJoints ?u_NothingToRedo_InvalidPrices ?u_NothingToRedo_InvalidList ?u_NothingToRedo_InvalidTrain ?u_NothingToRedo_InvalidMachine ?u_NothingToRedo_InvalidFar ?u_NothingToRedo_InvalidRoad ?u_NothingToRedo_InvalidLine ?u_NothingToRedo_InvalidDeed ?u_NothingToRedo_Unlike ?u_NothingToRedo_TooMany ?u_NothingToRedo_TooLong ?u_NothingToRedo_NothingToUndo ?u_NothingToRedo_NothingToRedo ?us_NothingToRedo ?ut_NothingToRedo ?z_ValueError ?z_enumerate ?z_int ?z_isinstance ?z_len ?z_max ?z_range ?z_repr ?z_sum
    (case a__law_hash => k_is)
    (case l__law_hash => k_is)
    (case c__law_hash => k_is)
    (case k__law_hash => k_is)
    (case a__law_cell => k_is)
    (case l__law_cell => k_is)
    (case c__law_cell => k_is)
    (case k__law_cell => k_is)
    (case a__law_random => k_is)
    (case l__law_random => k_is)
    (case c__law_random => k_is)
    (case k__law_random => k_is)
    (case a__law_generator => k_is)
    (case l__law_generator => k_is)
    (case c__law_generator => k_is)
    (case k__law_generator => k_is)
    (case a__law_made => k_is)
    (case l__law_made => k_is)
    (case c__law_made => k_is)
    (case k__law_made => k_is)
    (case a__law_named => k_is)
    (case l__law_named => k_is)
    (case c__law_named => k_is)
    (case k__law_named => k_is)
    (case a__law_empty => k_is)
    (case l__law_empty => k_is)
    (case c__law_empty => k_is)
    (case k__law_empty => k_is)
    (case a__law_kinds => k_is)
    (case l__law_kinds => k_is)
    (case c__law_kinds => k_is)
    (case k__law_kinds => k_is)
    (case a__law_row_right => k_is)
    (case l__law_row_right => k_is)
    (case c__law_row_right => k_is)
    (case k__law_row_right => k_is)
    (case a_law => k_is)
    (case l_law => k_is)
    (case c_law => k_is)
    (case k_law => k_is)
    (case n_InvalidDeed => k_is)
    (case e_InvalidDeed =>
      refine' Sw.errI_mk (Sw.err_mk KX G ?zza_InvalidDeed ?zzo_InvalidDeed ?zzi_InvalidDeed ?zzr_InvalidDeed ?zzsa_InvalidDeed ?zzec_InvalidDeed ?zzty_InvalidDeed ?zzkc_InvalidDeed ?zzti_InvalidDeed ?zzv_InvalidDeed ?zzhg_InvalidDeed ?zzhk_InvalidDeed ?zzhd_InvalidDeed ?zzha_InvalidDeed ?zzhn_InvalidDeed ?zzht_InvalidDeed ?zzhm_InvalidDeed) ?zzl_InvalidDeed ?zzcd_InvalidDeed ?zzlT_InvalidDeed ?zzk_InvalidDeed
      (case zza_InvalidDeed => k_is)
      (case zzo_InvalidDeed => k_is)
      (case zzi_InvalidDeed => k_is)
      (case zzr_InvalidDeed => exact rfl)
      (case zzsa_InvalidDeed => k_is)
      (case zzec_InvalidDeed => k_is)
      (case zzty_InvalidDeed => k_is)
      (case zzkc_InvalidDeed => k_is)
      (case zzti_InvalidDeed => k_is)
      (case zzv_InvalidDeed => k_is)
      (case zzhg_InvalidDeed => k_is)
      (case zzhk_InvalidDeed => k_is)
      (case zzhd_InvalidDeed => k_is)
      (case zzha_InvalidDeed => k_is)
      (case zzhn_InvalidDeed => k_is)
      (case zzht_InvalidDeed => k_is)
      (case zzhm_InvalidDeed => k_is)
      (case zzl_InvalidDeed => k_is)
      (case zzcd_InvalidDeed => k_is)
      (case zzlT_InvalidDeed => k_is)
      (case zzk_InvalidDeed => k_is))
    (case n_InvalidFar => k_is)
    (case e_InvalidFar =>
      refine' Sw.errI_mk (Sw.err_mk KX G ?zza_InvalidFar ?zzo_InvalidFar ?zzi_InvalidFar ?zzr_InvalidFar ?zzsa_InvalidFar ?zzec_InvalidFar ?zzty_InvalidFar ?zzkc_InvalidFar ?zzti_InvalidFar ?zzv_InvalidFar ?zzhg_InvalidFar ?zzhk_InvalidFar ?zzhd_InvalidFar ?zzha_InvalidFar ?zzhn_InvalidFar ?zzht_InvalidFar ?zzhm_InvalidFar) ?zzl_InvalidFar ?zzcd_InvalidFar ?zzlT_InvalidFar ?zzk_InvalidFar
      (case zza_InvalidFar => k_is)
      (case zzo_InvalidFar => k_is)
      (case zzi_InvalidFar => k_is)
      (case zzr_InvalidFar => exact rfl)
      (case zzsa_InvalidFar => k_is)
      (case zzec_InvalidFar => k_is)
      (case zzty_InvalidFar => k_is)
      (case zzkc_InvalidFar => k_is)
      (case zzti_InvalidFar => k_is)
      (case zzv_InvalidFar => k_is)
      (case zzhg_InvalidFar => k_is)
      (case zzhk_InvalidFar => k_is)
      (case zzhd_InvalidFar => k_is)
      (case zzha_InvalidFar => k_is)
      (case zzhn_InvalidFar => k_is)
      (case zzht_InvalidFar => k_is)
      (case zzhm_InvalidFar => k_is)
      (case zzl_InvalidFar => k_is)
      (case zzcd_InvalidFar => k_is)
      (case zzlT_InvalidFar => k_is)
      (case zzk_InvalidFar => k_is))
    (case n_InvalidJoints => k_is)
    (case e_InvalidJoints =>
      refine' Sw.errI_mk (Sw.err_mk KX G ?zza_InvalidJoints ?zzo_InvalidJoints ?zzi_InvalidJoints ?zzr_InvalidJoints ?zzsa_InvalidJoints ?zzec_InvalidJoints ?zzty_InvalidJoints ?zzkc_InvalidJoints ?zzti_InvalidJoints ?zzv_InvalidJoints ?zzhg_InvalidJoints ?zzhk_InvalidJoints ?zzhd_InvalidJoints ?zzha_InvalidJoints ?zzhn_InvalidJoints ?zzht_InvalidJoints ?zzhm_InvalidJoints) ?zzl_InvalidJoints ?zzcd_InvalidJoints ?zzlT_InvalidJoints ?zzk_InvalidJoints
      (case zza_InvalidJoints => k_is)
      (case zzo_InvalidJoints => k_is)
      (case zzi_InvalidJoints => k_is)
      (case zzr_InvalidJoints => exact rfl)
      (case zzsa_InvalidJoints => k_is)
      (case zzec_InvalidJoints => k_is)
      (case zzty_InvalidJoints => k_is)
      (case zzkc_InvalidJoints => k_is)
      (case zzti_InvalidJoints => k_is)
      (case zzv_InvalidJoints => k_is)
      (case zzhg_InvalidJoints => k_is)
      (case zzhk_InvalidJoints => k_is)
      (case zzhd_InvalidJoints => k_is)
      (case zzha_InvalidJoints => k_is)
      (case zzhn_InvalidJoints => k_is)
      (case zzht_InvalidJoints => k_is)
      (case zzhm_InvalidJoints => k_is)
      (case zzl_InvalidJoints => k_is)
      (case zzcd_InvalidJoints => k_is)
      (case zzlT_InvalidJoints => k_is)
      (case zzk_InvalidJoints => k_is))
    (case n_InvalidLine => k_is)
    (case e_InvalidLine =>
      refine' Sw.errI_mk (Sw.err_mk KX G ?zza_InvalidLine ?zzo_InvalidLine ?zzi_InvalidLine ?zzr_InvalidLine ?zzsa_InvalidLine ?zzec_InvalidLine ?zzty_InvalidLine ?zzkc_InvalidLine ?zzti_InvalidLine ?zzv_InvalidLine ?zzhg_InvalidLine ?zzhk_InvalidLine ?zzhd_InvalidLine ?zzha_InvalidLine ?zzhn_InvalidLine ?zzht_InvalidLine ?zzhm_InvalidLine) ?zzl_InvalidLine ?zzcd_InvalidLine ?zzlT_InvalidLine ?zzk_InvalidLine
      (case zza_InvalidLine => k_is)
      (case zzo_InvalidLine => k_is)
      (case zzi_InvalidLine => k_is)
      (case zzr_InvalidLine => exact rfl)
      (case zzsa_InvalidLine => k_is)
      (case zzec_InvalidLine => k_is)
      (case zzty_InvalidLine => k_is)
      (case zzkc_InvalidLine => k_is)
      (case zzti_InvalidLine => k_is)
      (case zzv_InvalidLine => k_is)
      (case zzhg_InvalidLine => k_is)
      (case zzhk_InvalidLine => k_is)
      (case zzhd_InvalidLine => k_is)
      (case zzha_InvalidLine => k_is)
      (case zzhn_InvalidLine => k_is)
      (case zzht_InvalidLine => k_is)
      (case zzhm_InvalidLine => k_is)
      (case zzl_InvalidLine => k_is)
      (case zzcd_InvalidLine => k_is)
      (case zzlT_InvalidLine => k_is)
      (case zzk_InvalidLine => k_is))
    (case n_InvalidList => k_is)
    (case e_InvalidList =>
      refine' Sw.errI_mk (Sw.err_mk KX G ?zza_InvalidList ?zzo_InvalidList ?zzi_InvalidList ?zzr_InvalidList ?zzsa_InvalidList ?zzec_InvalidList ?zzty_InvalidList ?zzkc_InvalidList ?zzti_InvalidList ?zzv_InvalidList ?zzhg_InvalidList ?zzhk_InvalidList ?zzhd_InvalidList ?zzha_InvalidList ?zzhn_InvalidList ?zzht_InvalidList ?zzhm_InvalidList) ?zzl_InvalidList ?zzcd_InvalidList ?zzlT_InvalidList ?zzk_InvalidList
      (case zza_InvalidList => k_is)
      (case zzo_InvalidList => k_is)
      (case zzi_InvalidList => k_is)
      (case zzr_InvalidList => exact rfl)
      (case zzsa_InvalidList => k_is)
      (case zzec_InvalidList => k_is)
      (case zzty_InvalidList => k_is)
      (case zzkc_InvalidList => k_is)
      (case zzti_InvalidList => k_is)
      (case zzv_InvalidList => k_is)
      (case zzhg_InvalidList => k_is)
      (case zzhk_InvalidList => k_is)
      (case zzhd_InvalidList => k_is)
      (case zzha_InvalidList => k_is)
      (case zzhn_InvalidList => k_is)
      (case zzht_InvalidList => k_is)
      (case zzhm_InvalidList => k_is)
      (case zzl_InvalidList => k_is)
      (case zzcd_InvalidList => k_is)
      (case zzlT_InvalidList => k_is)
      (case zzk_InvalidList => k_is))
    (case n_InvalidMachine => k_is)
    (case e_InvalidMachine =>
      refine' Sw.errI_mk (Sw.err_mk KX G ?zza_InvalidMachine ?zzo_InvalidMachine ?zzi_InvalidMachine ?zzr_InvalidMachine ?zzsa_InvalidMachine ?zzec_InvalidMachine ?zzty_InvalidMachine ?zzkc_InvalidMachine ?zzti_InvalidMachine ?zzv_InvalidMachine ?zzhg_InvalidMachine ?zzhk_InvalidMachine ?zzhd_InvalidMachine ?zzha_InvalidMachine ?zzhn_InvalidMachine ?zzht_InvalidMachine ?zzhm_InvalidMachine) ?zzl_InvalidMachine ?zzcd_InvalidMachine ?zzlT_InvalidMachine ?zzk_InvalidMachine
      (case zza_InvalidMachine => k_is)
      (case zzo_InvalidMachine => k_is)
      (case zzi_InvalidMachine => k_is)
      (case zzr_InvalidMachine => exact rfl)
      (case zzsa_InvalidMachine => k_is)
      (case zzec_InvalidMachine => k_is)
      (case zzty_InvalidMachine => k_is)
      (case zzkc_InvalidMachine => k_is)
      (case zzti_InvalidMachine => k_is)
      (case zzv_InvalidMachine => k_is)
      (case zzhg_InvalidMachine => k_is)
      (case zzhk_InvalidMachine => k_is)
      (case zzhd_InvalidMachine => k_is)
      (case zzha_InvalidMachine => k_is)
      (case zzhn_InvalidMachine => k_is)
      (case zzht_InvalidMachine => k_is)
      (case zzhm_InvalidMachine => k_is)
      (case zzl_InvalidMachine => k_is)
      (case zzcd_InvalidMachine => k_is)
      (case zzlT_InvalidMachine => k_is)
      (case zzk_InvalidMachine => k_is))
    (case n_InvalidNumber => k_is)
    (case e_InvalidNumber =>
      refine' Sw.errI_mk (Sw.err_mk KX G ?zza_InvalidNumber ?zzo_InvalidNumber ?zzi_InvalidNumber ?zzr_InvalidNumber ?zzsa_InvalidNumber ?zzec_InvalidNumber ?zzty_InvalidNumber ?zzkc_InvalidNumber ?zzti_InvalidNumber ?zzv_InvalidNumber ?zzhg_InvalidNumber ?zzhk_InvalidNumber ?zzhd_InvalidNumber ?zzha_InvalidNumber ?zzhn_InvalidNumber ?zzht_InvalidNumber ?zzhm_InvalidNumber) ?zzl_InvalidNumber ?zzcd_InvalidNumber ?zzlT_InvalidNumber ?zzk_InvalidNumber
      (case zza_InvalidNumber => k_is)
      (case zzo_InvalidNumber => k_is)
      (case zzi_InvalidNumber => k_is)
      (case zzr_InvalidNumber => exact rfl)
      (case zzsa_InvalidNumber => k_is)
      (case zzec_InvalidNumber => k_is)
      (case zzty_InvalidNumber => k_is)
      (case zzkc_InvalidNumber => k_is)
      (case zzti_InvalidNumber => k_is)
      (case zzv_InvalidNumber => k_is)
      (case zzhg_InvalidNumber => k_is)
      (case zzhk_InvalidNumber => k_is)
      (case zzhd_InvalidNumber => k_is)
      (case zzha_InvalidNumber => k_is)
      (case zzhn_InvalidNumber => k_is)
      (case zzht_InvalidNumber => k_is)
      (case zzhm_InvalidNumber => k_is)
      (case zzl_InvalidNumber => k_is)
      (case zzcd_InvalidNumber => k_is)
      (case zzlT_InvalidNumber => k_is)
      (case zzk_InvalidNumber => k_is))
    (case n_InvalidPrices => k_is)
    (case e_InvalidPrices =>
      refine' Sw.errI_mk (Sw.err_mk KX G ?zza_InvalidPrices ?zzo_InvalidPrices ?zzi_InvalidPrices ?zzr_InvalidPrices ?zzsa_InvalidPrices ?zzec_InvalidPrices ?zzty_InvalidPrices ?zzkc_InvalidPrices ?zzti_InvalidPrices ?zzv_InvalidPrices ?zzhg_InvalidPrices ?zzhk_InvalidPrices ?zzhd_InvalidPrices ?zzha_InvalidPrices ?zzhn_InvalidPrices ?zzht_InvalidPrices ?zzhm_InvalidPrices) ?zzl_InvalidPrices ?zzcd_InvalidPrices ?zzlT_InvalidPrices ?zzk_InvalidPrices
      (case zza_InvalidPrices => k_is)
      (case zzo_InvalidPrices => k_is)
      (case zzi_InvalidPrices => k_is)
      (case zzr_InvalidPrices => exact rfl)
      (case zzsa_InvalidPrices => k_is)
      (case zzec_InvalidPrices => k_is)
      (case zzty_InvalidPrices => k_is)
      (case zzkc_InvalidPrices => k_is)
      (case zzti_InvalidPrices => k_is)
      (case zzv_InvalidPrices => k_is)
      (case zzhg_InvalidPrices => k_is)
      (case zzhk_InvalidPrices => k_is)
      (case zzhd_InvalidPrices => k_is)
      (case zzha_InvalidPrices => k_is)
      (case zzhn_InvalidPrices => k_is)
      (case zzht_InvalidPrices => k_is)
      (case zzhm_InvalidPrices => k_is)
      (case zzl_InvalidPrices => k_is)
      (case zzcd_InvalidPrices => k_is)
      (case zzlT_InvalidPrices => k_is)
      (case zzk_InvalidPrices => k_is))
    (case n_InvalidRoad => k_is)
    (case e_InvalidRoad =>
      refine' Sw.errI_mk (Sw.err_mk KX G ?zza_InvalidRoad ?zzo_InvalidRoad ?zzi_InvalidRoad ?zzr_InvalidRoad ?zzsa_InvalidRoad ?zzec_InvalidRoad ?zzty_InvalidRoad ?zzkc_InvalidRoad ?zzti_InvalidRoad ?zzv_InvalidRoad ?zzhg_InvalidRoad ?zzhk_InvalidRoad ?zzhd_InvalidRoad ?zzha_InvalidRoad ?zzhn_InvalidRoad ?zzht_InvalidRoad ?zzhm_InvalidRoad) ?zzl_InvalidRoad ?zzcd_InvalidRoad ?zzlT_InvalidRoad ?zzk_InvalidRoad
      (case zza_InvalidRoad => k_is)
      (case zzo_InvalidRoad => k_is)
      (case zzi_InvalidRoad => k_is)
      (case zzr_InvalidRoad => exact rfl)
      (case zzsa_InvalidRoad => k_is)
      (case zzec_InvalidRoad => k_is)
      (case zzty_InvalidRoad => k_is)
      (case zzkc_InvalidRoad => k_is)
      (case zzti_InvalidRoad => k_is)
      (case zzv_InvalidRoad => k_is)
      (case zzhg_InvalidRoad => k_is)
      (case zzhk_InvalidRoad => k_is)
      (case zzhd_InvalidRoad => k_is)
      (case zzha_InvalidRoad => k_is)
      (case zzhn_InvalidRoad => k_is)
      (case zzht_InvalidRoad => k_is)
      (case zzhm_InvalidRoad => k_is)
      (case zzl_InvalidRoad => k_is)
      (case zzcd_InvalidRoad => k_is)
      (case zzlT_InvalidRoad => k_is)
      (case zzk_InvalidRoad => k_is))
    (case n_InvalidTrain => k_is)
    (case e_InvalidTrain =>
      refine' Sw.errI_mk (Sw.err_mk KX G ?zza_InvalidTrain ?zzo_InvalidTrain ?zzi_InvalidTrain ?zzr_InvalidTrain ?zzsa_InvalidTrain ?zzec_InvalidTrain ?zzty_InvalidTrain ?zzkc_InvalidTrain ?zzti_InvalidTrain ?zzv_InvalidTrain ?zzhg_InvalidTrain ?zzhk_InvalidTrain ?zzhd_InvalidTrain ?zzha_InvalidTrain ?zzhn_InvalidTrain ?zzht_InvalidTrain ?zzhm_InvalidTrain) ?zzl_InvalidTrain ?zzcd_InvalidTrain ?zzlT_InvalidTrain ?zzk_InvalidTrain
      (case zza_InvalidTrain => k_is)
      (case zzo_InvalidTrain => k_is)
      (case zzi_InvalidTrain => k_is)
      (case zzr_InvalidTrain => exact rfl)
      (case zzsa_InvalidTrain => k_is)
      (case zzec_InvalidTrain => k_is)
      (case zzty_InvalidTrain => k_is)
      (case zzkc_InvalidTrain => k_is)
      (case zzti_InvalidTrain => k_is)
      (case zzv_InvalidTrain => k_is)
      (case zzhg_InvalidTrain => k_is)
      (case zzhk_InvalidTrain => k_is)
      (case zzhd_InvalidTrain => k_is)
      (case zzha_InvalidTrain => k_is)
      (case zzhn_InvalidTrain => k_is)
      (case zzht_InvalidTrain => k_is)
      (case zzhm_InvalidTrain => k_is)
      (case zzl_InvalidTrain => k_is)
      (case zzcd_InvalidTrain => k_is)
      (case zzlT_InvalidTrain => k_is)
      (case zzk_InvalidTrain => k_is))
    (case n_InvalidWord => k_is)
    (case e_InvalidWord =>
      refine' Sw.errI_mk (Sw.err_mk KX G ?zza_InvalidWord ?zzo_InvalidWord ?zzi_InvalidWord ?zzr_InvalidWord ?zzsa_InvalidWord ?zzec_InvalidWord ?zzty_InvalidWord ?zzkc_InvalidWord ?zzti_InvalidWord ?zzv_InvalidWord ?zzhg_InvalidWord ?zzhk_InvalidWord ?zzhd_InvalidWord ?zzha_InvalidWord ?zzhn_InvalidWord ?zzht_InvalidWord ?zzhm_InvalidWord) ?zzl_InvalidWord ?zzcd_InvalidWord ?zzlT_InvalidWord ?zzk_InvalidWord
      (case zza_InvalidWord => k_is)
      (case zzo_InvalidWord => k_is)
      (case zzi_InvalidWord => k_is)
      (case zzr_InvalidWord => exact rfl)
      (case zzsa_InvalidWord => k_is)
      (case zzec_InvalidWord => k_is)
      (case zzty_InvalidWord => k_is)
      (case zzkc_InvalidWord => k_is)
      (case zzti_InvalidWord => k_is)
      (case zzv_InvalidWord => k_is)
      (case zzhg_InvalidWord => k_is)
      (case zzhk_InvalidWord => k_is)
      (case zzhd_InvalidWord => k_is)
      (case zzha_InvalidWord => k_is)
      (case zzhn_InvalidWord => k_is)
      (case zzht_InvalidWord => k_is)
      (case zzhm_InvalidWord => k_is)
      (case zzl_InvalidWord => k_is)
      (case zzcd_InvalidWord => k_is)
      (case zzlT_InvalidWord => k_is)
      (case zzk_InvalidWord => k_is))
    (case n_NothingToRedo => k_is)
    (case ty_NothingToRedo => k_is)
    (case hd_NothingToRedo => k_is)
    (case q_NothingToRedo => first | k_is | kx_is | kernel_rfl | exact rfl)
    (case k_NothingToRedo => k_is)
    (case x_NothingToRedo => refine' ⟨?zy0_NothingToRedo, ?zy1_NothingToRedo, ?zy2_NothingToRedo, ?zy3_NothingToRedo, ?zy4_NothingToRedo, ?zy5_NothingToRedo, ?zy6_NothingToRedo, ?zy7_NothingToRedo⟩ <;> k_is)
    (case v_NothingToRedo => k_is)
    (case n_NothingToUndo => k_is)
    (case ty_NothingToUndo => k_is)
    (case hd_NothingToUndo => k_is)
    (case q_NothingToUndo => first | k_is | kx_is | kernel_rfl | exact rfl)
    (case k_NothingToUndo => k_is)
    (case x_NothingToUndo => refine' ⟨?zy0_NothingToUndo, ?zy1_NothingToUndo, ?zy2_NothingToUndo, ?zy3_NothingToUndo, ?zy4_NothingToUndo, ?zy5_NothingToUndo, ?zy6_NothingToUndo, ?zy7_NothingToUndo⟩ <;> k_is)
    (case v_NothingToUndo => k_is)
    (case n_SwapError => k_is)
    (case ty_SwapError => k_is)
    (case hd_SwapError => k_is)
    (case n_TooLong => k_is)
    (case e_TooLong =>
      refine' Sw.errI_mk (Sw.err_mk KX G ?zza_TooLong ?zzo_TooLong ?zzi_TooLong ?zzr_TooLong ?zzsa_TooLong ?zzec_TooLong ?zzty_TooLong ?zzkc_TooLong ?zzti_TooLong ?zzv_TooLong ?zzhg_TooLong ?zzhk_TooLong ?zzhd_TooLong ?zzha_TooLong ?zzhn_TooLong ?zzht_TooLong ?zzhm_TooLong) ?zzl_TooLong ?zzcd_TooLong ?zzlT_TooLong ?zzk_TooLong
      (case zza_TooLong => k_is)
      (case zzo_TooLong => k_is)
      (case zzi_TooLong => k_is)
      (case zzr_TooLong => exact rfl)
      (case zzsa_TooLong => k_is)
      (case zzec_TooLong => k_is)
      (case zzty_TooLong => k_is)
      (case zzkc_TooLong => k_is)
      (case zzti_TooLong => k_is)
      (case zzv_TooLong => k_is)
      (case zzhg_TooLong => k_is)
      (case zzhk_TooLong => k_is)
      (case zzhd_TooLong => k_is)
      (case zzha_TooLong => k_is)
      (case zzhn_TooLong => k_is)
      (case zzht_TooLong => k_is)
      (case zzhm_TooLong => k_is)
      (case zzl_TooLong => k_is)
      (case zzcd_TooLong => k_is)
      (case zzlT_TooLong => k_is)
      (case zzk_TooLong => k_is))
    (case n_TooMany => k_is)
    (case e_TooMany =>
      refine' Sw.errI_mk (Sw.err_mk KX G ?zza_TooMany ?zzo_TooMany ?zzi_TooMany ?zzr_TooMany ?zzsa_TooMany ?zzec_TooMany ?zzty_TooMany ?zzkc_TooMany ?zzti_TooMany ?zzv_TooMany ?zzhg_TooMany ?zzhk_TooMany ?zzhd_TooMany ?zzha_TooMany ?zzhn_TooMany ?zzht_TooMany ?zzhm_TooMany) ?zzl_TooMany ?zzcd_TooMany ?zzlT_TooMany ?zzk_TooMany
      (case zza_TooMany => k_is)
      (case zzo_TooMany => k_is)
      (case zzi_TooMany => k_is)
      (case zzr_TooMany => exact rfl)
      (case zzsa_TooMany => k_is)
      (case zzec_TooMany => k_is)
      (case zzty_TooMany => k_is)
      (case zzkc_TooMany => k_is)
      (case zzti_TooMany => k_is)
      (case zzv_TooMany => k_is)
      (case zzhg_TooMany => k_is)
      (case zzhk_TooMany => k_is)
      (case zzhd_TooMany => k_is)
      (case zzha_TooMany => k_is)
      (case zzhn_TooMany => k_is)
      (case zzht_TooMany => k_is)
      (case zzhm_TooMany => k_is)
      (case zzl_TooMany => k_is)
      (case zzcd_TooMany => k_is)
      (case zzlT_TooMany => k_is)
      (case zzk_TooMany => k_is))
    (case n_Unlike => k_is)
    (case e_Unlike =>
      refine' Sw.errI_mk (Sw.err_mk KX G ?zza_Unlike ?zzo_Unlike ?zzi_Unlike ?zzr_Unlike ?zzsa_Unlike ?zzec_Unlike ?zzty_Unlike ?zzkc_Unlike ?zzti_Unlike ?zzv_Unlike ?zzhg_Unlike ?zzhk_Unlike ?zzhd_Unlike ?zzha_Unlike ?zzhn_Unlike ?zzht_Unlike ?zzhm_Unlike) ?zzl_Unlike ?zzcd_Unlike ?zzlT_Unlike ?zzk_Unlike
      (case zza_Unlike => k_is)
      (case zzo_Unlike => k_is)
      (case zzi_Unlike => k_is)
      (case zzr_Unlike => exact rfl)
      (case zzsa_Unlike => k_is)
      (case zzec_Unlike => k_is)
      (case zzty_Unlike => k_is)
      (case zzkc_Unlike => k_is)
      (case zzti_Unlike => k_is)
      (case zzv_Unlike => k_is)
      (case zzhg_Unlike => k_is)
      (case zzhk_Unlike => k_is)
      (case zzhd_Unlike => k_is)
      (case zzha_Unlike => k_is)
      (case zzhn_Unlike => k_is)
      (case zzht_Unlike => k_is)
      (case zzhm_Unlike => k_is)
      (case zzl_Unlike => k_is)
      (case zzcd_Unlike => k_is)
      (case zzlT_Unlike => k_is)
      (case zzk_Unlike => k_is))
    (case u_InvalidNumber_InvalidNumber => k_is)
    (case u_InvalidNumber_InvalidWord => k_is)
    (case u_InvalidNumber_InvalidJoints => k_is)
    (case u_InvalidNumber_InvalidPrices => k_is)
    (case u_InvalidNumber_InvalidList => k_is)
    (case u_InvalidNumber_InvalidTrain => k_is)
    (case u_InvalidNumber_InvalidMachine => k_is)
    (case u_InvalidNumber_InvalidFar => k_is)
    (case u_InvalidNumber_InvalidRoad => k_is)
    (case u_InvalidNumber_InvalidLine => k_is)
    (case u_InvalidNumber_InvalidDeed => k_is)
    (case u_InvalidNumber_Unlike => k_is)
    (case u_InvalidNumber_TooMany => k_is)
    (case u_InvalidNumber_TooLong => k_is)
    (case u_InvalidNumber_NothingToUndo => k_is)
    (case u_InvalidNumber_NothingToRedo => k_is)
    (case us_InvalidNumber => k_is)
    (case ut_InvalidNumber => k_is)
    (case u_InvalidWord_InvalidNumber => k_is)
    (case u_InvalidWord_InvalidWord => k_is)
    (case u_InvalidWord_InvalidJoints => k_is)
    (case u_InvalidWord_InvalidPrices => k_is)
    (case u_InvalidWord_InvalidList => k_is)
    (case u_InvalidWord_InvalidTrain => k_is)
    (case u_InvalidWord_InvalidMachine => k_is)
    (case u_InvalidWord_InvalidFar => k_is)
    (case u_InvalidWord_InvalidRoad => k_is)
    (case u_InvalidWord_InvalidLine => k_is)
    (case u_InvalidWord_InvalidDeed => k_is)
    (case u_InvalidWord_Unlike => k_is)
    (case u_InvalidWord_TooMany => k_is)
    (case u_InvalidWord_TooLong => k_is)
    (case u_InvalidWord_NothingToUndo => k_is)
    (case u_InvalidWord_NothingToRedo => k_is)
    (case us_InvalidWord => k_is)
    (case ut_InvalidWord => k_is)
    (case u_InvalidJoints_InvalidNumber => k_is)
    (case u_InvalidJoints_InvalidWord => k_is)
    (case u_InvalidJoints_InvalidJoints => k_is)
    (case u_InvalidJoints_InvalidPrices => k_is)
    (case u_InvalidJoints_InvalidList => k_is)
    (case u_InvalidJoints_InvalidTrain => k_is)
    (case u_InvalidJoints_InvalidMachine => k_is)
    (case u_InvalidJoints_InvalidFar => k_is)
    (case u_InvalidJoints_InvalidRoad => k_is)
    (case u_InvalidJoints_InvalidLine => k_is)
    (case u_InvalidJoints_InvalidDeed => k_is)
    (case u_InvalidJoints_Unlike => k_is)
    (case u_InvalidJoints_TooMany => k_is)
    (case u_InvalidJoints_TooLong => k_is)
    (case u_InvalidJoints_NothingToUndo => k_is)
    (case u_InvalidJoints_NothingToRedo => k_is)
    (case us_InvalidJoints => k_is)
    (case ut_InvalidJoints => k_is)
    (case u_InvalidPrices_InvalidNumber => k_is)
    (case u_InvalidPrices_InvalidWord => k_is)
    (case u_InvalidPrices_InvalidJoints => k_is)
    (case u_InvalidPrices_InvalidPrices => k_is)
    (case u_InvalidPrices_InvalidList => k_is)
    (case u_InvalidPrices_InvalidTrain => k_is)
    (case u_InvalidPrices_InvalidMachine => k_is)
    (case u_InvalidPrices_InvalidFar => k_is)
    (case u_InvalidPrices_InvalidRoad => k_is)
    (case u_InvalidPrices_InvalidLine => k_is)
    (case u_InvalidPrices_InvalidDeed => k_is)
    (case u_InvalidPrices_Unlike => k_is)
    (case u_InvalidPrices_TooMany => k_is)
    (case u_InvalidPrices_TooLong => k_is)
    (case u_InvalidPrices_NothingToUndo => k_is)
    (case u_InvalidPrices_NothingToRedo => k_is)
    (case us_InvalidPrices => k_is)
    (case ut_InvalidPrices => k_is)
    (case u_InvalidList_InvalidNumber => k_is)
    (case u_InvalidList_InvalidWord => k_is)
    (case u_InvalidList_InvalidJoints => k_is)
    (case u_InvalidList_InvalidPrices => k_is)
    (case u_InvalidList_InvalidList => k_is)
    (case u_InvalidList_InvalidTrain => k_is)
    (case u_InvalidList_InvalidMachine => k_is)
    (case u_InvalidList_InvalidFar => k_is)
    (case u_InvalidList_InvalidRoad => k_is)
    (case u_InvalidList_InvalidLine => k_is)
    (case u_InvalidList_InvalidDeed => k_is)
    (case u_InvalidList_Unlike => k_is)
    (case u_InvalidList_TooMany => k_is)
    (case u_InvalidList_TooLong => k_is)
    (case u_InvalidList_NothingToUndo => k_is)
    (case u_InvalidList_NothingToRedo => k_is)
    (case us_InvalidList => k_is)
    (case ut_InvalidList => k_is)
    (case u_InvalidTrain_InvalidNumber => k_is)
    (case u_InvalidTrain_InvalidWord => k_is)
    (case u_InvalidTrain_InvalidJoints => k_is)
    (case u_InvalidTrain_InvalidPrices => k_is)
    (case u_InvalidTrain_InvalidList => k_is)
    (case u_InvalidTrain_InvalidTrain => k_is)
    (case u_InvalidTrain_InvalidMachine => k_is)
    (case u_InvalidTrain_InvalidFar => k_is)
    (case u_InvalidTrain_InvalidRoad => k_is)
    (case u_InvalidTrain_InvalidLine => k_is)
    (case u_InvalidTrain_InvalidDeed => k_is)
    (case u_InvalidTrain_Unlike => k_is)
    (case u_InvalidTrain_TooMany => k_is)
    (case u_InvalidTrain_TooLong => k_is)
    (case u_InvalidTrain_NothingToUndo => k_is)
    (case u_InvalidTrain_NothingToRedo => k_is)
    (case us_InvalidTrain => k_is)
    (case ut_InvalidTrain => k_is)
    (case u_InvalidMachine_InvalidNumber => k_is)
    (case u_InvalidMachine_InvalidWord => k_is)
    (case u_InvalidMachine_InvalidJoints => k_is)
    (case u_InvalidMachine_InvalidPrices => k_is)
    (case u_InvalidMachine_InvalidList => k_is)
    (case u_InvalidMachine_InvalidTrain => k_is)
    (case u_InvalidMachine_InvalidMachine => k_is)
    (case u_InvalidMachine_InvalidFar => k_is)
    (case u_InvalidMachine_InvalidRoad => k_is)
    (case u_InvalidMachine_InvalidLine => k_is)
    (case u_InvalidMachine_InvalidDeed => k_is)
    (case u_InvalidMachine_Unlike => k_is)
    (case u_InvalidMachine_TooMany => k_is)
    (case u_InvalidMachine_TooLong => k_is)
    (case u_InvalidMachine_NothingToUndo => k_is)
    (case u_InvalidMachine_NothingToRedo => k_is)
    (case us_InvalidMachine => k_is)
    (case ut_InvalidMachine => k_is)
    (case u_InvalidFar_InvalidNumber => k_is)
    (case u_InvalidFar_InvalidWord => k_is)
    (case u_InvalidFar_InvalidJoints => k_is)
    (case u_InvalidFar_InvalidPrices => k_is)
    (case u_InvalidFar_InvalidList => k_is)
    (case u_InvalidFar_InvalidTrain => k_is)
    (case u_InvalidFar_InvalidMachine => k_is)
    (case u_InvalidFar_InvalidFar => k_is)
    (case u_InvalidFar_InvalidRoad => k_is)
    (case u_InvalidFar_InvalidLine => k_is)
    (case u_InvalidFar_InvalidDeed => k_is)
    (case u_InvalidFar_Unlike => k_is)
    (case u_InvalidFar_TooMany => k_is)
    (case u_InvalidFar_TooLong => k_is)
    (case u_InvalidFar_NothingToUndo => k_is)
    (case u_InvalidFar_NothingToRedo => k_is)
    (case us_InvalidFar => k_is)
    (case ut_InvalidFar => k_is)
    (case u_InvalidRoad_InvalidNumber => k_is)
    (case u_InvalidRoad_InvalidWord => k_is)
    (case u_InvalidRoad_InvalidJoints => k_is)
    (case u_InvalidRoad_InvalidPrices => k_is)
    (case u_InvalidRoad_InvalidList => k_is)
    (case u_InvalidRoad_InvalidTrain => k_is)
    (case u_InvalidRoad_InvalidMachine => k_is)
    (case u_InvalidRoad_InvalidFar => k_is)
    (case u_InvalidRoad_InvalidRoad => k_is)
    (case u_InvalidRoad_InvalidLine => k_is)
    (case u_InvalidRoad_InvalidDeed => k_is)
    (case u_InvalidRoad_Unlike => k_is)
    (case u_InvalidRoad_TooMany => k_is)
    (case u_InvalidRoad_TooLong => k_is)
    (case u_InvalidRoad_NothingToUndo => k_is)
    (case u_InvalidRoad_NothingToRedo => k_is)
    (case us_InvalidRoad => k_is)
    (case ut_InvalidRoad => k_is)
    (case u_InvalidLine_InvalidNumber => k_is)
    (case u_InvalidLine_InvalidWord => k_is)
    (case u_InvalidLine_InvalidJoints => k_is)
    (case u_InvalidLine_InvalidPrices => k_is)
    (case u_InvalidLine_InvalidList => k_is)
    (case u_InvalidLine_InvalidTrain => k_is)
    (case u_InvalidLine_InvalidMachine => k_is)
    (case u_InvalidLine_InvalidFar => k_is)
    (case u_InvalidLine_InvalidRoad => k_is)
    (case u_InvalidLine_InvalidLine => k_is)
    (case u_InvalidLine_InvalidDeed => k_is)
    (case u_InvalidLine_Unlike => k_is)
    (case u_InvalidLine_TooMany => k_is)
    (case u_InvalidLine_TooLong => k_is)
    (case u_InvalidLine_NothingToUndo => k_is)
    (case u_InvalidLine_NothingToRedo => k_is)
    (case us_InvalidLine => k_is)
    (case ut_InvalidLine => k_is)
    (case u_InvalidDeed_InvalidNumber => k_is)
    (case u_InvalidDeed_InvalidWord => k_is)
    (case u_InvalidDeed_InvalidJoints => k_is)
    (case u_InvalidDeed_InvalidPrices => k_is)
    (case u_InvalidDeed_InvalidList => k_is)
    (case u_InvalidDeed_InvalidTrain => k_is)
    (case u_InvalidDeed_InvalidMachine => k_is)
    (case u_InvalidDeed_InvalidFar => k_is)
    (case u_InvalidDeed_InvalidRoad => k_is)
    (case u_InvalidDeed_InvalidLine => k_is)
    (case u_InvalidDeed_InvalidDeed => k_is)
    (case u_InvalidDeed_Unlike => k_is)
    (case u_InvalidDeed_TooMany => k_is)
    (case u_InvalidDeed_TooLong => k_is)
    (case u_InvalidDeed_NothingToUndo => k_is)
    (case u_InvalidDeed_NothingToRedo => k_is)
    (case us_InvalidDeed => k_is)
    (case ut_InvalidDeed => k_is)
    (case u_Unlike_InvalidNumber => k_is)
    (case u_Unlike_InvalidWord => k_is)
    (case u_Unlike_InvalidJoints => k_is)
    (case u_Unlike_InvalidPrices => k_is)
    (case u_Unlike_InvalidList => k_is)
    (case u_Unlike_InvalidTrain => k_is)
    (case u_Unlike_InvalidMachine => k_is)
    (case u_Unlike_InvalidFar => k_is)
    (case u_Unlike_InvalidRoad => k_is)
    (case u_Unlike_InvalidLine => k_is)
    (case u_Unlike_InvalidDeed => k_is)
    (case u_Unlike_Unlike => k_is)
    (case u_Unlike_TooMany => k_is)
    (case u_Unlike_TooLong => k_is)
    (case u_Unlike_NothingToUndo => k_is)
    (case u_Unlike_NothingToRedo => k_is)
    (case us_Unlike => k_is)
    (case ut_Unlike => k_is)
    (case u_TooMany_InvalidNumber => k_is)
    (case u_TooMany_InvalidWord => k_is)
    (case u_TooMany_InvalidJoints => k_is)
    (case u_TooMany_InvalidPrices => k_is)
    (case u_TooMany_InvalidList => k_is)
    (case u_TooMany_InvalidTrain => k_is)
    (case u_TooMany_InvalidMachine => k_is)
    (case u_TooMany_InvalidFar => k_is)
    (case u_TooMany_InvalidRoad => k_is)
    (case u_TooMany_InvalidLine => k_is)
    (case u_TooMany_InvalidDeed => k_is)
    (case u_TooMany_Unlike => k_is)
    (case u_TooMany_TooMany => k_is)
    (case u_TooMany_TooLong => k_is)
    (case u_TooMany_NothingToUndo => k_is)
    (case u_TooMany_NothingToRedo => k_is)
    (case us_TooMany => k_is)
    (case ut_TooMany => k_is)
    (case u_TooLong_InvalidNumber => k_is)
    (case u_TooLong_InvalidWord => k_is)
    (case u_TooLong_InvalidJoints => k_is)
    (case u_TooLong_InvalidPrices => k_is)
    (case u_TooLong_InvalidList => k_is)
    (case u_TooLong_InvalidTrain => k_is)
    (case u_TooLong_InvalidMachine => k_is)
    (case u_TooLong_InvalidFar => k_is)
    (case u_TooLong_InvalidRoad => k_is)
    (case u_TooLong_InvalidLine => k_is)
    (case u_TooLong_InvalidDeed => k_is)
    (case u_TooLong_Unlike => k_is)
    (case u_TooLong_TooMany => k_is)
    (case u_TooLong_TooLong => k_is)
    (case u_TooLong_NothingToUndo => k_is)
    (case u_TooLong_NothingToRedo => k_is)
    (case us_TooLong => k_is)
    (case ut_TooLong => k_is)
    (case u_NothingToUndo_InvalidNumber => k_is)
    (case u_NothingToUndo_InvalidWord => k_is)
    (case u_NothingToUndo_InvalidJoints => k_is)
    (case u_NothingToUndo_InvalidPrices => k_is)
    (case u_NothingToUndo_InvalidList => k_is)
    (case u_NothingToUndo_InvalidTrain => k_is)
    (case u_NothingToUndo_InvalidMachine => k_is)
    (case u_NothingToUndo_InvalidFar => k_is)
    (case u_NothingToUndo_InvalidRoad => k_is)
    (case u_NothingToUndo_InvalidLine => k_is)
    (case u_NothingToUndo_InvalidDeed => k_is)
    (case u_NothingToUndo_Unlike => k_is)
    (case u_NothingToUndo_TooMany => k_is)
    (case u_NothingToUndo_TooLong => k_is)
    (case u_NothingToUndo_NothingToUndo => k_is)
    (case u_NothingToUndo_NothingToRedo => k_is)
    (case us_NothingToUndo => k_is)
    (case ut_NothingToUndo => k_is)
    (case u_NothingToRedo_InvalidNumber => k_is)
    (case u_NothingToRedo_InvalidWord => k_is)
    (case u_NothingToRedo_InvalidJoints => k_is)
    (case u_NothingToRedo_InvalidPrices => k_is)
    (case u_NothingToRedo_InvalidList => k_is)
    (case u_NothingToRedo_InvalidTrain => k_is)
    (case u_NothingToRedo_InvalidMachine => k_is)
    (case u_NothingToRedo_InvalidFar => k_is)
    (case u_NothingToRedo_InvalidRoad => k_is)
    (case u_NothingToRedo_InvalidLine => k_is)
    (case u_NothingToRedo_InvalidDeed => k_is)
    (case u_NothingToRedo_Unlike => k_is)
    (case u_NothingToRedo_TooMany => k_is)
    (case u_NothingToRedo_TooLong => k_is)
    (case u_NothingToRedo_NothingToUndo => k_is)
    (case u_NothingToRedo_NothingToRedo => k_is)
    (case us_NothingToRedo => k_is)
    (case ut_NothingToRedo => k_is)
    (case z_ValueError => k_is)
    (case z_enumerate => k_is)
    (case z_int => k_is)
    (case z_isinstance => k_is)
    (case z_len => k_is)
    (case z_max => k_is)
    (case z_range => k_is)
    (case z_repr => k_is)
    (case z_sum => k_is)

