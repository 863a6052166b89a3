import PyProof.Rows.All
import Wide.All
import OpenK.AllK
import Wide.FinOn
import HandS.ForMost
import HandS.Wide
import HandS.WideBits
import HandS.Zip
import HandS.Walk
import HandS.IsInst
import HandS.Defaults
import KE.GoesEnum
import HandS.Codes
import HandS.Style
import HandS.SortInts
import HandS.Replace
import PySem.Challenge.RW_sideswaps_k02_whole_deeds
set_option Elab.async false
set_option linter.all false
set_option maxRecDepth 100000
set_option maxHeartbeats 4000000
/-! Own rules over the hand layer: a great power, zip of two texts, enumerate of a text. -/
namespace Sw
open PySem PySem.Spec PyProof.Rows L2
/-- a ** n while the answer stays small enough -/
def CPowW (i j : Int) : Prop := 0 ≤ j ∧ (Builtin.Int.intBits i : Int) * j ≤ 2 ^ 27
theorem op_powW {X : Cx} : OpR X (binaryOp .Pow) (rI CPowW fun i j => .int (i ^ j.toNat)) :=
  opI fun _ _ _ _ _ _ _ hc q => pow_int hc.1 hc.2 q

/-! ### two texts side by side -/
/-- new pairs of the signs of x and y that stand at one place -/
def Itzs (x y : Str) : It :=
  ⟨fun i _ => i < min x.cps.size y.cps.size,
   fun i H v H' => ∃ T c d, v = .ref T ∧ H T = none ∧ H' = upd H T (.tup [.str ⟨#[c]⟩, .str ⟨#[d]⟩]) ∧ x.cps[i]? = some c ∧ y.cps[i]? = some d,
   fun i _ => min x.cps.size y.cps.size ≤ i⟩
theorem turn_zipS {P : Program} {w : World} {K : PySem.W.Frag} {elts : List Expr} {kk : Nat} {tpos : Pos} {z TI TO i1 i2 : Addr} (x y : Str) (t u : Tok) (S : ZipSep2 z TI TO i1 i2 [i1] [i2]) :
    Turn P w K (.Tuple elts kk tpos) (Itzs x y) [z, TI, TO, i1, i2] z
      (fun i h => i ≤ min x.cps.size y.cps.size ∧ IsZip h z TI TO .none ∧ IsTupOf2 h TI (.ref i1) (.ref i2) ∧ (∃ a b, IsTupOf2 h TO a b) ∧ h.IsStrIter i1 (strIterType x) x t i ∧ h.IsStrIter i2 (strIterType y) y u i) where
  mem := by simp
  obj := fun i h st c hc => by
    obtain ⟨_, hz, hTI, ⟨a, b, hTO⟩, ⟨o1, e1, _, d1⟩, ⟨o2, e2, _, d2⟩⟩ := st
    have cs : c = z ∨ c = TI ∨ c = TO ∨ c = i1 ∨ c = i2 := by simpa using hc
    rcases cs with rfl | rfl | rfl | rfl | rfl
    · exact ⟨_, hz, fun v q => by cases q⟩
    · exact ⟨_, hTI, fun v q => by cases q⟩
    · exact ⟨_, hTO, fun v q => by cases q⟩
    · exact ⟨o1, e1, fun v q => by rw [d1] at q; cases q⟩
    · exact ⟨o2, e2, fun v q => by rw [d2] at q; cases q⟩
  keep := fun i h h' st k => by
    obtain ⟨hle, hz, hTI, ⟨a, b, hTO⟩, h1, h2⟩ := st
    refine ⟨hle, k z (by simp) _ hz, k TI (by simp) _ hTI, ⟨a, b, k TO (by simp) _ hTO⟩, ?_, ?_⟩
    · obtain ⟨o, ho, r⟩ := h1; exact ⟨o, k i1 (by simp) o ho, r⟩
    · obtain ⟨o, ho, r⟩ := h2; exact ⟨o, k i2 (by simp) o ho, r⟩
  item := by
    intro X hP hw hK hc i pins s σ H E I hf st hg
    subst hP hw hK
    obtain ⟨hle, hz, hTI, ⟨a, b, hTO⟩, h1, h2⟩ := st
    have hg' : i < min x.cps.size y.cps.size := hg
    have hx : i < x.cps.size := by omega
    have hy : i < y.cps.size := by omega
    have hh := I.ok.hd hc
    have D1 := Draws.text (prog := X.prog) (w := X.w) (A := X.A.in1) hh i1 x t
    have D2 := Draws.text (prog := X.prog) (w := X.w) (A := X.A.in1) hh i2 y u
    have hzl : z < s.heap.objs.size := Heap.lt_size hz
    refine wpAny_pyNext_zipD2_item S D1 D2 hz hTI hTO h1 h2 hx hy fun v1 v2 h' tk p1 p2 z' TO' h1' h2' hT hsz hk => ?_
    obtain ⟨c, t1, hc1, rfl⟩ := p1
    obtain ⟨d, t2, hd1, rfl⟩ := p2
    refine ⟨_, rfl, wpAny_letOwnedTupleGo_zip (s := { s with heap := h', toks := tk }) z' fun h'' z'' sb => ?_⟩
    have hT2 := (sb.2 _ (Nat.ne_of_gt hzl)).trans hT
    have new : ObjOk X.prog X.w (upd H s.heap.objs.size (.tup [.str ⟨#[c]⟩, .str ⟨#[d]⟩])) h'' s.heap.objs.size (.tup [.str ⟨#[c]⟩, .str ⟨#[d]⟩]) :=
      ⟨by show 2 ≤ sizeLine; decide, [.str ⟨#[c]⟩ t1, .str ⟨#[d]⟩ t2], .cons ⟨_, rfl⟩ (.cons ⟨_, rfl⟩ .nil), ⟨_, hT2, rfl, _, rfl⟩⟩
    have off : ∀ {c : Addr}, c ∉ [z, TI, TO, i1, i2] → c ≠ z ∧ c ≠ TO ∧ c ≠ i1 ∧ c ≠ i2 := fun {c} hb => by
      simp only [List.mem_cons, List.not_mem_nil, or_false, not_or] at hb
      exact ⟨hb.1, hb.2.2.1, hb.2.2.2.1, hb.2.2.2.2⟩
    have I1 := I.turnedNew (h' := h'') (t' := tk) (ch := [z, TI, TO, i1, i2]) (fun c o hb q => by
      obtain ⟨n1, n2, n3, n4⟩ := off hb
      exact (sb.2 c n1).trans (hk c o n1 n2 n3 n4 q)) hf (Nat.le_refl _) new
    refine ⟨.ref s.heap.objs.size, _, I1, rfl, ⟨_, c, d, rfl, I.hok.fresh (Nat.le_refl _), rfl, hc1, hd1⟩, ⟨by omega, z'', ?_, ⟨_, _, (sb.2 _ S.TOz).trans TO'⟩, ?_, ?_⟩, fun c hcm => ?_⟩
    · exact (sb.2 _ S.TIz).trans (hk _ _ S.TIz S.TITO S.TIi1 S.TIi2 hTI)
    · obtain ⟨o, ho, r⟩ := h1'; exact ⟨o, (sb.2 _ (fun e => S.zi1 e.symm)).trans ho, r⟩
    · obtain ⟨o, ho, r⟩ := h2'; exact ⟨o, (sb.2 _ (fun e => S.zi2 e.symm)).trans ho, r⟩
    · have hlt : c < s.heap.objs.size := by
        have cs : c = z ∨ c = TI ∨ c = TO ∨ c = i1 ∨ c = i2 := by simpa using hcm
        rcases cs with rfl | rfl | rfl | rfl | rfl
        · exact hzl
        · exact Heap.lt_size hTI
        · exact Heap.lt_size hTO
        · obtain ⟨_, e1, _⟩ := h1; exact Heap.lt_size e1
        · obtain ⟨_, e2, _⟩ := h2; exact Heap.lt_size e2
      rw [upd_ne (Nat.ne_of_lt hlt)]
      exact (hf c hcm).1
  done := by
    intro X hP hw hK hc i pins s σ H E I hf st hg
    subst hP hw hK
    obtain ⟨hle, hz, hTI, ⟨a, b, hTO⟩, h1, h2⟩ := st
    have hg' : min x.cps.size y.cps.size ≤ i := hg
    have hh := I.ok.hd hc
    have D1 := Draws.text (prog := X.prog) (w := X.w) (A := X.A.in1) hh i1 x t
    have D2 := Draws.text (prog := X.prog) (w := X.w) (A := X.A.in1) hh i2 y u
    refine wpAny_pyNext_zipD2_end S D1 D2 hz hTI hTO h1 h2 (by omega) (by omega) (by omega) fun h' tk hk => ⟨rfl, I.turnedL (t' := tk) (ch := [z, TI, TO, i1, i2]) (fun c o hb q => ?_) hf⟩
    simp only [List.mem_cons, List.not_mem_nil, or_false, not_or] at hb
    exact hk c o hb.1 hb.2.2.1 hb.2.2.2.1 hb.2.2.2.2 q
  self := fun A i s Q E st h => wpAny_pyIter_zip st.2.1 h
def iZipS (ta : TA) : TI := fun σ H R => ta σ H fun vs H1 => ∃ x y, vs = [.str x, .str y] ∧ R (Itzs x y) H1
theorem pi_zipS {X : Cx} {e e2 : Expr} {ta : TA} {p pos tpos : Pos} {elts : List Expr} {kk : Nat} (hg : Gl X "zip") (hm : X.mg "zip" = none) (ha : PA X [e, e2] ta)
    (hs : starEach [e, e2] X.env = (false, eval e X.env) :: starEach [e2] X.env := by rfl) (hpl : (backTo pos (starEach [e2] X.env)).any (·.1) = false := by rfl) :
    PI X (.Tuple elts kk tpos) (.Call (.Name "zip" p) [e, e2] [] pos) (iZipS ta) := by
  refine ⟨fun pins s σ H R I h => ?_⟩
  refine Call_ (ld_blt I hg hm PyProof.Rows.boot_zip (PyProof.Rows.callWith_type1 (thn (ha.run pos pins s σ H _ I h) fun us s1 ⟨vs, H1, I1, r1, q1⟩ => ?_) hs hpl))
  obtain ⟨x, y, ex, q⟩ := q1
  subst ex
  cases r1 with
  | cons r rr =>
    cases rr with
    | cons r' rr =>
    cases rr
    obtain ⟨t, rfl⟩ := r
    obtain ⟨u, rfl⟩ := r'
    refine zip_begins2 (begins_text x t) (begins_text y u) trivial trivial fun h' hz hTI hTO h1 h2 hsz hk => wpAny_pyIter_zip hz ?_
    have I2 : Inv X pins σ H1 { s1 with heap := h' } := I1.kept (t' := s1.toks) hk
    refine ⟨s1.heap.objs.size + 4, [s1.heap.objs.size + 4, s1.heap.objs.size + 2, s1.heap.objs.size + 3, s1.heap.objs.size, s1.heap.objs.size + 1], _, _, H1, rfl, I2,
      turn_zipS x y t u (zip_sep2 (by simp) (by simp)), ⟨Nat.zero_le _, hz, hTI, ⟨_, _, hTO⟩, ⟨_, h1, rfl, rfl⟩, ⟨_, h2, rfl, rfl⟩⟩, fun c hcm => ?_, q⟩
    have hle : s1.heap.objs.size ≤ c := by
      have cs : c = s1.heap.objs.size + 4 ∨ c = s1.heap.objs.size + 2 ∨ c = s1.heap.objs.size + 3 ∨ c = s1.heap.objs.size ∨ c = s1.heap.objs.size + 1 := by simpa using hcm
      rcases cs with e | e | e | e | e <;> rw [e] <;> first | exact Nat.le_refl _ | exact Nat.le_add_right _ _
    exact I1.fpOk hle (I1.hok.fresh hle)
/-- its turns -/
theorem walk_zipS {x y : Str} : Walk (Itzs x y) (min x.cps.size y.cps.size) (fun _ => True) (YPair (fun i => (x.cps[i]?).map fun c => V.str ⟨#[c]⟩) (fun i => (y.cps[i]?).map fun c => V.str ⟨#[c]⟩)) :=
  ⟨fun _ _ hi _ => hi, fun _ _ => Nat.le_refl _, fun i H v H' _ _ yy => by
    obtain ⟨T, c, d, h1, h2, h3, h4, h5⟩ := yy
    exact ⟨T, _, _, h1, h2, h3, by simp [h4], by simp [h5]⟩⟩

/-! ### a text by its places -/
def Ites (x : Str) : It :=
  ⟨fun i _ => i < x.cps.size, fun i H v H' => ∃ T c, v = .ref T ∧ H T = none ∧ H' = upd H T (.tup [.int (i : Nat), .str ⟨#[c]⟩]) ∧ x.cps[i]? = some c, fun i _ => x.cps.size ≤ i⟩
theorem turn_enumS {P : Program} {w : World} {K : PySem.W.Frag} {elts : List Expr} {kk : Nat} {tpos : Pos} (e it : Addr) (x : Str) (t : Tok) (hei : e ≠ it) :
    Turn P w K (.Tuple elts kk tpos) (Ites x) [e, it] e (fun i h => i ≤ x.cps.size ∧ (∃ old, IsEnum h e it ((i : Nat) : Int) old) ∧ h.IsStrIter it (strIterType x) x t i) where
  mem := by simp
  obj := fun i h st b hb => by
    obtain ⟨_, ⟨old, he⟩, ⟨o, ho, hc, hd⟩⟩ := st
    have cs : b = e ∨ b = it := by simpa using hb
    rcases cs with rfl | rfl
    · exact ⟨_, he, fun v q => by cases q⟩
    · exact ⟨o, ho, fun v q => by rw [hd] at q; cases q⟩
  keep := fun i h h' st k => by
    obtain ⟨hle, ⟨old, he⟩, ⟨o, ho, r⟩⟩ := st
    exact ⟨hle, ⟨old, k e (by simp) _ he⟩, ⟨o, k it (by simp) o ho, r⟩⟩
  item := by
    intro X hP hw hK hc i pins s σ H E I hf st hg
    subst hP hw hK
    obtain ⟨hle, ⟨old, he⟩, hit⟩ := st
    have hg' : i < x.cps.size := hg
    have D := Draws.text (prog := X.prog) (w := X.w) (A := X.A.in1) (I.ok.hd hc) it x t
    have hel : e < s.heap.objs.size := Heap.lt_size he
    have hil : it < s.heap.objs.size := by obtain ⟨_, q, _⟩ := hit; exact Heap.lt_size q
    have hei2 : e ∉ [it] := by simpa using hei
    refine wpAny_pyNext_enum_itemD D he hit hg' hei hei2 fun v h' tk p ho hit' hT hsz hk => ?_
    obtain ⟨c, t1, hc1, rfl⟩ := p
    refine ⟨_, rfl, wpAny_letOwnedTupleGo_enum (s := { s with heap := h', toks := tk + 1 }) ho fun h'' he' sb => ?_⟩
    have hT2 := (sb.2 _ (Nat.ne_of_gt hel)).trans hT
    have new : ObjOk X.prog X.w (upd H s.heap.objs.size (.tup [.int (i : Nat), .str ⟨#[c]⟩])) h'' s.heap.objs.size (.tup [.int (i : Nat), .str ⟨#[c]⟩]) :=
      ⟨by show 2 ≤ sizeLine; decide, [.int i tk, .str ⟨#[c]⟩ t1], .cons ⟨_, rfl⟩ (.cons ⟨_, rfl⟩ .nil), ⟨_, hT2, rfl, _, rfl⟩⟩
    have I1 := I.turnedNew (h' := h'') (t' := tk + 1) (ch := [e, it]) (fun b ob hb q => by
      simp only [List.mem_cons, List.not_mem_nil, or_false, not_or] at hb
      exact (sb.2 b hb.1).trans (hk b ob hb.1 hb.2 q)) hf (Nat.le_refl _) new
    refine ⟨.ref s.heap.objs.size, _, I1, rfl, ⟨_, c, rfl, I.hok.fresh (Nat.le_refl _), rfl, hc1⟩, ⟨by omega, ⟨.str ⟨#[c]⟩ t1, ?_⟩, ?_⟩, fun b hb => ?_⟩
    · have e1 : ((i + 1 : Nat) : Int) = (i : Int) + 1 := by omega
      rw [e1]; exact he'
    · obtain ⟨o, ho', r⟩ := hit'; exact ⟨o, (sb.2 it (Ne.symm hei)).trans ho', r⟩
    · have hb' : b < s.heap.objs.size := by
        have cs : b = e ∨ b = it := by simpa using hb
        rcases cs with rfl | rfl
        · exact hel
        · exact hil
      rw [upd_ne (Nat.ne_of_lt hb')]
      exact (hf b hb).1
  done := by
    intro X hP hw hK hc i pins s σ H E I hf st hg
    subst hP hw hK
    obtain ⟨hle, ⟨old, he⟩, hit⟩ := st
    have hg' : x.cps.size ≤ i := hg
    have ei : i = x.cps.size := Nat.le_antisymm hle hg'
    subst ei
    have D := Draws.text (prog := X.prog) (w := X.w) (A := X.A.in1) (I.ok.hd hc) it x t
    obtain ⟨f0, f1, f2, f3, f4, f5⟩ := hf it (by simp)
    exact wpAny_pyNext_enum_endD D he hit fun h' eb => ⟨rfl, I.turned (t' := s.toks) (fun b o hb q => eb b o hb q) f0 f1 f3 f4 f5⟩
  self := fun A i s Q E st h => by
    obtain ⟨_, ⟨old, he⟩, _⟩ := st
    exact wpAny_pyIter_enum he h
def iEnumS (ta : TA) : TI := fun σ H R => ta σ H fun vs H1 => ∃ x, vs = [.str x] ∧ R (Ites x) H1
theorem pi_enumS {X : Cx} {e : Expr} {ta : TA} {p pos tpos : Pos} {elts : List Expr} {kk : Nat} (hg : Gl X "enumerate") (hm : X.mg "enumerate" = none) (ha : PA X [e] ta) (hs : starEach [e] X.env = [(false, eval e X.env)] := by rfl) :
    PI X (.Tuple elts kk tpos) (.Call (.Name "enumerate" p) [e] [] pos) (iEnumS ta) := by
  refine ⟨fun pins s σ H R I h => ?_⟩
  refine Call_ (ld_blt I hg hm boot_enumerate (PyProof.Rows.callWith_type1 (thn (ha.run pos pins s σ H _ I h) fun us s1 ⟨vs, H1, I1, r1, q1⟩ => ?_) hs rfl))
  obtain ⟨x, ex, q⟩ := q1
  subst ex
  cases r1 with
  | cons r rr =>
    cases rr
    obtain ⟨t, rfl⟩ := r
    refine call_enumerate_str fun h' he hit hsz hk => wpAny_pyIter_enum he ?_
    have I2 : Inv X pins σ H1 { s1 with heap := h' } := I1.kept (t' := s1.toks) hk
    refine ⟨s1.heap.objs.size + 1, [s1.heap.objs.size + 1, s1.heap.objs.size], _, _, H1, rfl, I2, turn_enumS (s1.heap.objs.size + 1) s1.heap.objs.size x t (Nat.succ_ne_self _), ⟨Nat.zero_le _, ⟨.none, he⟩, hit⟩, fun b hb => ?_, q⟩
    have hle : s1.heap.objs.size ≤ b := by
      have cs : b = s1.heap.objs.size + 1 ∨ b = s1.heap.objs.size := by simpa using hb
      rcases cs with e | e <;> rw [e] <;> first | exact Nat.le_refl _ | exact Nat.le_add_right _ _
    exact I1.fpOk hle (I1.hok.fresh hle)
theorem walk_enumS {x : Str} : Walk (Ites x) x.cps.size (fun _ => True) (YPair (fun i => some (.int (i : Nat))) (fun i => (x.cps[i]?).map fun c => V.str ⟨#[c]⟩)) :=
  ⟨fun _ _ hi _ => hi, fun _ _ => Nat.le_refl _, fun i H v H' _ _ yy => by
    obtain ⟨T, c, h1, h2, h3, h4⟩ := yy
    exact ⟨T, _, _, h1, h2, h3, rfl, by simp [h4]⟩⟩
end Sw
namespace Sw
open PySem PySem.Spec PyProof.Rows L2
/-! ### the rules that speak of the written part, the part named (within a comprehension) -/
section
variable {X : Cx} (K : PySem.W.Frag)
theorem call_lenK (h : X.K = K := by rfl) : CallR X (.builtin "len") (fun xs H Q => ∃ x n, xs = [x] ∧ LenV K x H n ∧ Q (.int n) H) := h ▸ call_len
theorem call_len_seqK (h : X.K = K := by rfl) : CallR X (.builtin "len") (fun xs H Q => ∃ p ys, xs = [.ref p] ∧ (SqL K H p ys ∨ SqT K H p ys) ∧ Q (.int ys.length) H) := h ▸ call_len_seq
theorem ix_listK (h : X.K = K := by rfl) : IxR X (rIxL K) := h ▸ ix_list
theorem ix_tupK (h : X.K = K := by rfl) : IxR X (rIxT K) := h ▸ ix_tup
theorem op_in_seqK (h : X.K = K := by rfl) : OpR X (compareOp .In) (rIn K false) := h ▸ op_in_seq
theorem sl_listK (h : X.K = K := by rfl) : SlR X (rSlL K) := h ▸ sl_list
theorem cr_sumK (hc : X.calm = true) (h : X.K = K := by rfl) : CallR X (.builtin "sum") (rSum K) := h ▸ cr_sum hc
theorem cr_allK (hc : X.calm = true) (h : X.K = K := by rfl) : CallR X (.builtin "all") (rAll K) := h ▸ cr_all hc
theorem call_isiK (h : X.K = K := by rfl) : CallR X (.builtin "isinstance") (rIsi K) := h ▸ call_isi
theorem pg_tupK {es : List Expr} {k n : Nat} {t : TGs} {pos : Pos} (hc : X.calm = true) (h : PGs X es t) (hK : X.K = K := by rfl)
    (hn : (assignEach es X.env).length = n := by rfl) (hst : (assignEach es X.env).findIdx? (·.1) = none := by rfl) : PG X (.Tuple es k pos) (gTup K n t) := hK ▸ pg_tup hc h hn hst
end
/-- f(k = v, ..), nothing by place -/
theorem pe_callN0 {X : Cx} {CX : CXT} {k : Nat} {f : Addr} {fd : FuncData} {ps ks : List Str} {sp : Sp} {E : XK} {x : Str} {p pos : Pos} {kws : List Keyword} {tk : TA} {g : List Value → List Value → List Value} {gV : List V → List V → List V}
    (F : FnOk X.prog X.w X.K X.mg X.base CX k f fd ps sp) (hr : Room k X.A) (hg : Gl X x) (hm : X.mg x = some (.ref f)) (hk : PySem.W.keepIn X.K (.ref f) = true) (hb : KBn X.K fd ps 0 ks g gV) (hx : Passes CX X E) (hkw : PK X kws tk)
    (hall : (backToKw pos (keywordEach kws X.env)).all (·.1.isSome) = true := by rfl) (hks : (backToKw pos (keywordEach kws X.env)).filterMap (·.1) = ks := by rfl) (hdb : (x == ("__debug__" : Str)) = false := by decide)
    (hpl : ((backTo pos (starEach [] X.env)).any (·.1) || (backToKw pos (keywordEach kws X.env)).any (·.1.isNone)) = false := by rfl) :
    PE X (.Call (.Name x p) [] kws pos) (tCallN 0 ks.length sp gV E tNil tk) := by
  refine ⟨fun pins s σ H Q I h => wpAny_Call_Name_kw (ld_glob I hg hm ?_ hdb)⟩
  refine PySem.W.callWith_KW0 (h₀ := X.base) I.ok.mod.kin hk hall (thn (hkw.run pos pins s σ H _ I h) fun ws s2 ⟨zs, H2, I2, rz, l1, l2, q2⟩ => ⟨I2.kIn, ?_⟩) hpl
  rw [hks]
  exact run_fnN (us := []) F hr hb hx I2 .nil rz l1 l2 q2
end Sw
/-! Words as lists of signs; what a def keeps of the heap; draws. -/
namespace Sw
open PySem PySem.Spec PyProof.Rows L2
/-- the text of these signs -/
abbrev S (l : List Nat) : Str := SX.S l
/-- all that was tracked is as it was, but for what stands at g -/
def But (g : Addr) (H H' : Hp) : Prop := ∀ b o, b ≠ g → H b = some o → H' b = some o
theorem But.refl (g : Addr) (H : Hp) : But g H H := fun _ _ _ h => h
theorem But.trans {g : Addr} {H H1 H2 : Hp} (a : But g H H1) (b : But g H1 H2) : But g H H2 := fun c o n h => b c o n (a c o n h)
theorem But.same {g : Addr} {H H' : Hp} (a : Same H H') : But g H H' := fun c o _ h => a c o h
theorem But.upd {g : Addr} {H : Hp} {o : HO} : But g H (upd H g o) := fun c u n h => by rw [upd_ne n]; exact h
theorem Same.upd {H : Hp} {p : Addr} {o : HO} (hp : H p = none) : Same H (upd H p o) := fun c u h => by rw [upd_ne (ne_of_none h hp)]; exact h
theorem But.new {g p : Addr} {H H1 : Hp} {o : HO} (a : But g H H1) (hp : H1 p = none) : But g H (L2.upd H1 p o) := a.trans (.same (Same.upd hp))
theorem But.seq {K : PySem.W.Frag} {g a : Addr} {H H' : Hp} {xs : List V} (e : But g H H') (n : a ≠ g) (h : SqL K H a xs) : SqL K H' a xs := by
  rcases h with (h | ⟨o, h⟩) | h
  · exact .inl (.inl (e _ _ n h))
  · exact .inl (.inr ⟨o, e _ _ n h⟩)
  · exact .inr h
/-- the drawing state: what is left of the seed, its hash's part, how many were drawn -/
def GenAt (H : Hp) (g : Addr) (n : Nat) : Prop := ∃ x y z : Int, H g = some (.lst [.int x, .int y, .int z]) ∧ (0 ≤ x ∧ x.natAbs < 2 ^ 2000) ∧ (0 ≤ y ∧ y < 2147483647) ∧ (0 ≤ z ∧ z ≤ (n : Int))
theorem GenAt.same {H H' : Hp} {g : Addr} {n : Nat} (e : Same H H') (h : GenAt H g n) : GenAt H' g n := by
  obtain ⟨x, y, z, h0, r⟩ := h
  exact ⟨x, y, z, e _ _ h0, r⟩
theorem GenAt.mono {H : Hp} {g : Addr} {n m : Nat} (h : GenAt H g n) (l : n ≤ m) : GenAt H g m := by
  obtain ⟨x, y, z, h0, hx, hy, hz⟩ := h
  exact ⟨x, y, z, h0, hx, hy, hz.1, by omega⟩
theorem GenAt.new {H : Hp} {g p : Addr} {n : Nat} {o : HO} (h : GenAt H g n) (hp : H p = none) : GenAt (upd H p o) g n := h.same (Same.upd hp)
theorem GenAt.ne {H : Hp} {g p : Addr} {n : Nat} (h : GenAt H g n) (hp : H p = none) : p ≠ g := by
  obtain ⟨x, y, z, h0, _⟩ := h
  exact (ne_of_none h0 hp).symm
/-! ### signs -/
def signB (c : Nat) : Bool := decide (97 ≤ c) && decide (c ≤ 122)
def wordB (l : List Nat) : Bool := l.all signB
def ascB (l : List Nat) : Bool := (l.zip l.tail).all fun p => decide (p.1 < p.2)
def jointsB (l : List Nat) : Bool := wordB l && ascB l
theorem one_lt {c d : Nat} : (([c] : List Nat) < [d]) ↔ c < d := by
  constructor
  · intro h
    cases h with
    | rel h => exact h
    | cons h => cases h
  · exact fun h => List.Lex.rel h
theorem sign_chain (c : Nat) : (if (!decide ((⟨#[c]⟩ : Str).cps.toList < (Str.ofString "a").cps.toList)) = true then !decide ((Str.ofString "z").cps.toList < (⟨#[c]⟩ : Str).cps.toList) else false) = signB c := by
  have e1 : (Str.ofString "a").cps.toList = [97] := by decide +kernel
  have e2 : (Str.ofString "z").cps.toList = [122] := by decide +kernel
  rw [e1, e2]
  show (if (!decide (([c] : List Nat) < [97])) = true then !decide (([122] : List Nat) < [c]) else false) = signB c
  unfold signB
  simp only [one_lt]
  by_cases h1 : c < 97
  · simp [h1, Nat.not_le.mpr h1]
  · by_cases h2 : 122 < c
    · simp [h1, h2]
    · simp [h1, h2, Nat.not_lt.mp h1, Nat.not_lt.mp h2]
theorem size_S {l : List Nat} : (S l).cps.size = l.length := by simp [SX.S]
theorem at_S {l : List Nat} {i : Nat} : (S l).cps[i]? = l[i]? := by simp [SX.S]
theorem len_S (l : List Nat) : (S l).length = l.length := SX.S_len l
theorem take_snoc {α : Type} {l : List α} {i : Nat} {x : α} (h : l[i]? = some x) : l.take (i + 1) = l.take i ++ [x] := by
  rw [List.take_add_one, h]
  rfl
end Sw
namespace Sw
open PySem PySem.Spec PyProof.Rows L2
theorem small_line {n : Nat} (h : n ≤ 100000) : n < sizeLine := Nat.lt_of_le_of_lt h (by decide)
theorem small_le {n : Nat} (h : n ≤ 100000) : n ≤ sizeLine := Nat.le_of_lt (small_line h)
end Sw
namespace Sw
open PySem PySem.Spec PyProof.Rows L2
/-! ### slices of texts -/
theorem cutS_from {l : List Nat} {i : Int} (h : 0 ≤ i) : cutS (S l) (some i) none = S (l.drop i.toNat) := by
  rw [C8.cutS_slice]; exact SX.slice_from h
theorem cutS_to {l : List Nat} {i : Int} (h : 0 ≤ i) : cutS (S l) none (some i) = S (l.take i.toNat) := by
  rw [C8.cutS_slice]; exact SX.slice_to h
end Sw
namespace Sw
open PySem PySem.Spec PyProof.Rows L2
theorem zip_tail {l : List Nat} {i c d : Nat} (h1 : l[i]? = some c) (h2 : (l.drop (1 : Int).toNat)[i]? = some d) : (l.zip l.tail)[i]? = some (c, d) := by
  rw [List.getElem?_zip_eq_some]
  refine ⟨h1, ?_⟩
  have e : l.drop (1 : Int).toNat = l.tail := List.drop_one
  rw [e] at h2
  exact h2
theorem zip_size {l : List Nat} : min (S l).cps.size (S (l.drop (1 : Int).toNat)).cps.size = (l.zip l.tail).length := by
  rw [size_S, size_S, List.length_zip]
  have e : l.drop (1 : Int).toNat = l.tail := List.drop_one
  rw [e]
theorem one_lt_S {c d : Nat} : decide ((⟨#[c]⟩ : Str).cps.toList < (⟨#[d]⟩ : Str).cps.toList) = decide (c < d) := by
  show decide (([c] : List Nat) < [d]) = decide (c < d)
  simp only [one_lt]
end Sw
namespace Sw
open PySem PySem.Spec PyProof.Rows L2
theorem cutS_mid {l : List Nat} {i j : Nat} (h : i ≤ j) (hj : j ≤ l.length) : cutS (S l) (some (i : Int)) (some (j : Int)) = S ((l.drop i).take (j - i)) := by
  unfold cutS
  rw [HT.sIx_nat, HT.sIx_nat, len_S, Nat.min_eq_left hj, Nat.min_eq_left (Nat.le_trans h hj)]
/-! ### the first place of a sign -/
open PySem.StrLaws in
theorem occ_full (s sub : Str) (hi : Nat) (p : Nat) : ∀ (l : List Nat) (f : Nat), (forIn l ((#[p] : Array Nat), f) (occBody s sub hi 1)).run.fst = #[p]
  | [], f => rfl
  | a :: l, f => by
    rw [List.forIn_cons]
    unfold occBody
    rw [if_neg (by simp)]
    exact occ_full s sub hi p l f
open PySem.StrLaws in
theorem occ_to (s sub : Str) (hi p : Nat) (hp : p + sub.length ≤ hi) (hs : Builtin.Str.subAt s sub p = true) : ∀ (n a f : Nat), f ≤ a → a ≤ p → p < a + n → (∀ i, a ≤ i → i < p → ¬ Builtin.Str.subAt s sub i = true) →
    (forIn (List.range' a n) ((#[] : Array Nat), f) (occBody s sub hi 1)).run.fst = #[p]
  | 0, a, f, _, h1, h2, _ => by omega
  | n + 1, a, f, h0, h1, h2, hn => by
    rw [List.range'_succ, List.forIn_cons]
    by_cases e : a = p
    · subst e
      unfold occBody
      rw [if_pos ⟨⟨⟨by simp, h0⟩, hp⟩, hs⟩]
      exact occ_full s sub hi a _ _
    · unfold occBody
      rw [if_neg (fun z => hn a (Nat.le_refl _) (by omega) z.2)]
      exact occ_to s sub hi p hp hs n (a + 1) f (by omega) (by omega) (by omega) fun i h3 h4 => hn i (by omega) h4
theorem first_sign {l : List Nat} {c p : Nat} (h : l[p]? = some c) (hn : ∀ i, i < p → l[i]? ≠ some c) : Builtin.Str.occurrences (S l) (S [c]) 0 (S l).length 1 = [p] := by
  have hp : p < l.length := (List.getElem?_eq_some_iff.mp h).1
  have e1 : (S [c]).length = 1 := rfl
  have at1 := PySem.StrLaws.subAt_one (S l) c
  rw [PySem.StrLaws.occ_eq, occ_to (S l) (S [c]) (S l).length p (by rw [e1, len_S]; omega) ((at1 p).mpr h).2 _ 0 0 (Nat.le_refl _) (Nat.zero_le _) (by rw [len_S]; omega) fun i _ h4 z => hn i h4 ((at1 i).mp ⟨?_, z⟩)]
  show i + 1 ≤ (S l).length
  rw [len_S]
  omega
end Sw
namespace Sw
open PySem PySem.Spec PyProof.Rows L2
/-! ### the deed -/
def swapL (l : List Nat) (p : Nat) : List Nat := l.drop (p + 1) ++ (l.drop p).take 1 ++ l.take p
theorem drop_one {l : List Nat} {p c : Nat} (h : l[p]? = some c) : (l.drop p).take 1 = [c] := by
  obtain ⟨hp, e⟩ := List.getElem?_eq_some_iff.mp h
  rw [List.drop_eq_getElem_cons hp, e]
  rfl
theorem swapL_one {l : List Nat} {p c : Nat} (h : l[p]? = some c) : swapL l p = l.drop (p + 1) ++ [c] ++ l.take p := by
  unfold swapL
  rw [drop_one h]
theorem swapL_len {l : List Nat} {p : Nat} (h : p < l.length) : (swapL l p).length = l.length := by
  unfold swapL
  simp
  omega
theorem swapL_mem {l : List Nat} {p c : Nat} (h : c ∈ swapL l p) : c ∈ l := by
  unfold swapL at h
  rcases List.mem_append.mp h with h | h
  · rcases List.mem_append.mp h with h | h
    · exact List.mem_of_mem_drop h
    · exact List.mem_of_mem_drop (List.mem_of_mem_take h)
  · exact List.mem_of_mem_take h
/-- at the place counted from the end the same sign, and its deed leads back -/
theorem swapL_at {l : List Nat} {p : Nat} (h : p < l.length) : (swapL l p)[l.length - 1 - p]? = l[p]? := by
  have hc : l[p]? = some l[p] := List.getElem?_eq_getElem h
  rw [swapL_one hc, hc, List.append_assoc, List.getElem?_append_right (by rw [List.length_drop]; omega), List.length_drop, show l.length - 1 - p - (l.length - (p + 1)) = 0 by omega]
  rfl
theorem swapL_back {l : List Nat} {p : Nat} (h : p < l.length) : swapL (swapL l p) (l.length - 1 - p) = l := by
  have hc : l[p]? = some l[p] := List.getElem?_eq_getElem h
  rw [swapL_one ((swapL_at h).trans hc), swapL_one hc]
  have e1 : (l.drop (p + 1)).length = l.length - 1 - p := by rw [List.length_drop]; omega
  have e2 : (l.drop (p + 1) ++ [l[p]]).length = l.length - 1 - p + 1 := by rw [List.length_append, e1]; rfl
  rw [List.drop_left' e2, List.append_assoc (l.drop (p + 1)), List.take_left' e1, List.append_assoc]
  rw [List.singleton_append, ← List.drop_eq_getElem_cons h, List.take_append_drop]
/-- the places at which a joint stands -/
def openL (l js : List Nat) : List Nat := (List.range l.length).filter fun i => (l[i]?).any fun c => decide (c ∈ js)
theorem openL_len (l js : List Nat) : (openL l js).length ≤ l.length := by
  unfold openL
  have h := List.length_filter_le (fun i => (l[i]?).any fun c => decide (c ∈ js)) (List.range l.length)
  rw [List.length_range] at h
  exact h
theorem openL_snoc {l : List Nat} (js : List Nat) {i c : Nat} (h : l[i]? = some c) : openL (l.take (i + 1)) js = openL (l.take i) js ++ (if c ∈ js then [i] else []) := by
  obtain ⟨hi, e⟩ := List.getElem?_eq_some_iff.mp h
  have l1 : (l.take (i + 1)).length = i + 1 := by rw [List.length_take]; omega
  have l2 : (l.take i).length = i := by rw [List.length_take]; omega
  unfold openL
  rw [l1, l2, List.range_succ, List.filter_append]
  congr 1
  · refine List.filter_congr fun k hk => ?_
    have hk' : k < i := List.mem_range.mp hk
    rw [List.getElem?_take_of_lt (by omega), List.getElem?_take_of_lt hk']
  · rw [List.filter_cons, List.getElem?_take_of_lt (by omega), h]
    by_cases hm : c ∈ js <;> simp [hm]
theorem mem_openL {l js : List Nat} {i : Nat} (h : i ∈ openL l js) : ∃ c, l[i]? = some c ∧ c ∈ js := by
  unfold openL at h
  obtain ⟨_, h2⟩ := List.mem_filter.mp h
  cases e : l[i]? with
  | none => rw [e] at h2; cases h2
  | some c =>
    rw [e] at h2
    exact ⟨c, rfl, of_decide_eq_true h2⟩
end Sw
namespace Sw
open PySem PySem.Spec PyProof.Rows L2
theorem wordB_mem {l : List Nat} (h : wordB l = true) {c : Nat} (hc : c ∈ l) : 97 ≤ c ∧ c ≤ 122 := by
  have q := List.all_eq_true.mp h c hc
  unfold signB at q
  rw [Bool.and_eq_true] at q
  exact ⟨of_decide_eq_true q.1, of_decide_eq_true q.2⟩
theorem wordB_of {l : List Nat} (h : ∀ c ∈ l, 97 ≤ c ∧ c ≤ 122) : wordB l = true := by
  refine List.all_eq_true.mpr fun c hc => ?_
  unfold signB
  rw [decide_eq_true (h c hc).1, decide_eq_true (h c hc).2]
  rfl
theorem underscore : Str.ofString "_" = S [95] := by decide +kernel
/-- the ring with its hole at p, read from behind the hole on -/
theorem ring_hole {l : List Nat} {p c : Nat} (hw : wordB l = true) (hc : l[p]? = some c) :
    Builtin.Str.occurrences (S (l.take p ++ [95] ++ l.drop (p + 1) ++ [c])) (S [95]) 0 (S (l.take p ++ [95] ++ l.drop (p + 1) ++ [c])).length 1 = [p] := by
  obtain ⟨hp, e⟩ := List.getElem?_eq_some_iff.mp hc
  have lt : (l.take p).length = p := by rw [List.length_take]; omega
  refine first_sign ?_ fun i hi z => ?_
  · rw [List.append_assoc, List.append_assoc, List.getElem?_append_right (by omega), lt, Nat.sub_self]
    rfl
  · rw [List.append_assoc, List.append_assoc, List.getElem?_append_left (by omega)] at z
    have := wordB_mem hw (List.mem_of_mem_take (List.mem_of_getElem? z))
    omega
theorem ring_from {l : List Nat} {p c : Nat} (hp : p < l.length) : (l.take p ++ [95] ++ l.drop (p + 1) ++ [c]).drop (p + 1) = l.drop (p + 1) ++ [c] := by
  have lt : (l.take p ++ [95]).length = p + 1 := by rw [List.length_append, List.length_take]; simp; omega
  rw [List.append_assoc, List.drop_left' lt]
theorem ring_to {l : List Nat} {p c : Nat} (hp : p < l.length) : (l.take p ++ [95] ++ l.drop (p + 1) ++ [c]).take p = l.take p := by
  have lt : (l.take p).length = p := by rw [List.length_take]; omega
  rw [List.append_assoc, List.append_assoc, List.take_left' lt]
end Sw
namespace Sw
open PySem PySem.Spec PyProof.Rows L2
theorem cutV_to1 {ns : List Int} : some (HO.lst (cutV (ns.map V.int) none (some 1))) = some (HO.lst ((ns.take 1).map V.int)) := by
  have e : cutV (ns.map V.int) none (some 1) = (ns.map V.int).take 1 := by
    unfold cutV
    rw [HT.sIx_none, show (some (1 : Int)) = some ((1 : Nat) : Int) from rfl, HT.sIx_nat, List.drop_zero, Nat.sub_zero]
    rcases Nat.lt_or_ge (ns.map V.int).length 1 with h | h
    · rw [Nat.min_eq_right (by omega), List.take_length, List.take_of_length_le (by omega)]
    · rw [Nat.min_eq_left h]
  rw [e, List.map_take]
theorem seed_ok (x : Int) : 0 ≤ x % (10 ^ (60 : Int).toNat) ^ (10 : Int).toNat ∧ (x % (10 ^ (60 : Int).toNat) ^ (10 : Int).toNat).natAbs < 2 ^ 2000 := by
  have h0 : (0 : Int) < (10 ^ (60 : Int).toNat) ^ (10 : Int).toNat := by decide +kernel
  have h1 : ((10 ^ (60 : Int).toNat) ^ (10 : Int).toNat : Int).natAbs < 2 ^ 2000 := by decide +kernel
  have a := Int.emod_nonneg x (show ((10 ^ (60 : Int).toNat) ^ (10 : Int).toNat : Int) ≠ 0 by omega)
  have b := Int.emod_lt_of_pos x h0
  exact ⟨a, Nat.lt_of_lt_of_le (by omega) (Nat.le_of_lt h1)⟩
theorem joinL_signs : ∀ ws : List Nat, TL.joinL [] (ws.map fun c => [c]) = ws
  | [] => rfl
  | [c] => rfl
  | c :: d :: r => by
    have ih := joinL_signs (d :: r)
    show [c] ++ ([] ++ TL.joinL [] ((d :: r).map fun c => [c])) = c :: d :: r
    rw [ih]
    rfl
theorem join_signs (ws : List Nat) : Txt.join (Str.ofString "") (ws.map fun c => S [c]) = S ws := by
  have e0 : Str.ofString "" = S [] := by decide +kernel
  have e1 : (ws.map fun c => S [c]) = (ws.map fun c => [c]).map SX.S := by rw [List.map_map]; rfl
  rw [e0, e1, SX.join_S, joinL_signs]
theorem join_bound {ws : List Nat} (h : ws.length ≤ 100000) : ((ws.map fun c => S [c]).map (·.length)).sum + (ws.map fun c => S [c]).length * (Str.ofString "").length ≤ 16777216 := by
  have e0 : (Str.ofString "").length = 0 := by decide +kernel
  have e1 : ((ws.map fun c => S [c]).map (·.length)).sum = ws.length := by
    rw [List.map_map]
    have : ((fun x : Str => x.length) ∘ fun c => S [c]) = fun _ : Nat => 1 := funext fun c => rfl
    rw [this, List.map_const', List.sum_replicate_nat, Nat.mul_one]
  rw [e0, e1]
  omega
theorem alpha_len : (Str.ofString "abcdefghijklmnopqrstuvwxyz").length = 26 := by decide +kernel
theorem alpha_at (i : Nat) (h : i < 26) : (Str.ofString "abcdefghijklmnopqrstuvwxyz").cps[i]? = some (97 + i) := by
  have all : ∀ k : Fin 26, (Str.ofString "abcdefghijklmnopqrstuvwxyz").cps[k.val]? = some (97 + k.val) := by decide +kernel
  exact all ⟨i, h⟩
end Sw
namespace Sw
open PySem PySem.Spec PyProof.Rows L2
/-! ### lists of places compared -/
abbrev placesV (ns : List Nat) : List V := ns.map fun i => V.int (i : Nat)
def placesD (ns : List Nat) : List PyData := ns.map fun i => PyData.int (i : Nat)
theorem places_dp {K : PySem.W.Frag} {H : Hp} : ∀ ns : List Nat, DpAll K H (placesV ns) (placesD ns)
  | [] => .nil
  | n :: r => .cons (.int _) (places_dp r)
theorem places_lay : ∀ ns : List Nat, PyData.canLayAll0 (placesD ns) = true
  | [] => rfl
  | n :: r => by
    show (PyData.canLay0 (.int (n : Nat)) && PyData.canLayAll0 (placesD r)) = true
    rw [places_lay r]
    rfl
theorem places_depth : ∀ ns : List Nat, PyData.depthAll (placesD ns) = 0
  | [] => rfl
  | n :: r => by
    show max (PyData.depth (.int (n : Nat))) (PyData.depthAll (placesD r)) = 0
    rw [places_depth r]
    rfl
theorem places_shaped (ns : List Nat) : SeqAt.shaped (.list (placesD ns)) = true := by
  unfold SeqAt.shaped
  have e : (PyData.list (placesD ns)).depth = 1 := by
    show PyData.depthAll (placesD ns) + 1 = 1
    rw [places_depth]
  have e2 : (PyData.list (placesD ns)).canLay0 = true := places_lay ns
  rw [e, e2]
  rfl
theorem places_eqv (ns : List Nat) : PyData.eqv (.list (placesD ns)) (.list (placesD ns)) = true := PySem.SeqAt.eqv_refl _ (places_lay ns)
/-- a test that two lists of places are unlike, which they are not -/
theorem ne_places {K : PySem.W.Frag} {H : Hp} {a b : Addr} {ns : List Nat} {Q : VK} (ha : SqL K H a (placesV ns)) (hb : SqL K H b (placesV ns)) (q : Q (.bl false) H) : rNeD K (.ref a) (.ref b) H Q := by
  refine ⟨_, _, .lst ha (places_dp ns), .lst hb (places_dp ns), places_shaped ns, places_shaped ns, ?_⟩
  rw [places_eqv]
  exact q
/-- one of three -/
theorem pick3 {a b c r : Int} (h0 : 0 ≤ r) (h1 : r < 3) {m : Int} (ha : 0 ≤ a ∧ a ≤ m) (hb : 0 ≤ b ∧ b ≤ m) (hc : 0 ≤ c ∧ c ≤ m) : ∃ n : Nat, atI [V.int a, V.int b, V.int c] r = some (V.int (n : Nat)) ∧ (n : Int) ≤ m := by
  have e : r = 0 ∨ r = 1 ∨ r = 2 := by omega
  rcases e with rfl | rfl | rfl
  · exact ⟨a.toNat, by show some (V.int a) = _; rw [Int.toNat_of_nonneg ha.1], by omega⟩
  · exact ⟨b.toNat, by show some (V.int b) = _; rw [Int.toNat_of_nonneg hb.1], by omega⟩
  · exact ⟨c.toNat, by show some (V.int c) = _; rw [Int.toNat_of_nonneg hc.1], by omega⟩
theorem ascB_of {l : List Nat} (h : l.Pairwise (· < ·)) : ascB l = true := by
  unfold ascB
  refine List.all_eq_true.mpr fun p hp => ?_
  refine decide_eq_true ?_
  induction h with
  | nil => cases hp
  | @cons a r hr _ ih =>
    cases r with
    | nil => cases hp
    | cons b t =>
      have hp' : p ∈ (a, b) :: ((b :: t).zip t) := hp
      rcases List.mem_cons.mp hp' with e | hp'
      · rw [e]; exact hr b List.mem_cons_self
      · exact ih hp'
theorem jointsB_of {l : List Nat} (h : l.Pairwise (· < ·)) (hw : ∀ c ∈ l, 97 ≤ c ∧ c ≤ 122) : jointsB l = true := by
  unfold jointsB
  rw [wordB_of hw, ascB_of h]
  rfl
theorem jointsB_one {c : Nat} (h : 97 ≤ c ∧ c ≤ 122) : jointsB [c] = true := jointsB_of (List.pairwise_singleton _ _) fun d hd => by rw [List.mem_singleton.mp hd]; exact h
/-- some of the places: the first twelve and the last two -/
theorem cutV_to12 (xs : List V) : cutV xs none (some 12) = xs.take 12 := by
  unfold cutV
  rw [HT.sIx_none, show (some (12 : Int)) = some ((12 : Nat) : Int) from rfl, HT.sIx_nat, List.drop_zero, Nat.sub_zero]
  rcases Nat.lt_or_ge xs.length 12 with h | h
  · rw [Nat.min_eq_right (by omega), List.take_length, List.take_of_length_le (by omega)]
  · rw [Nat.min_eq_left h]
theorem openL_nil (l : List Nat) : openL l [] = [] := by
  unfold openL
  refine List.filter_eq_nil_iff.mpr fun i _ => ?_
  cases l[i]? <;> simp
theorem cutV_from {xs : List V} {k : Nat} (h : k ≤ xs.length) : cutV xs (some (k : Int)) none = xs.drop k := by
  unfold cutV
  rw [HT.sIx_none, HT.sIx_nat, Nat.min_eq_left h, List.take_of_length_le (by rw [List.length_drop]; omega)]
end Sw
namespace Sw
open PySem PySem.Spec PyProof.Rows L2
/-- what was not there before may change -/
theorem But.after {g : Addr} {H H1 H2 : Hp} (b : But g H1 H2) (s : Same H H1) (hg : H g = none) : Same H H2 := fun c o h => b c o (ne_of_none h hg) (s c o h)
end Sw
namespace K02
open PySem PySem.Spec PyProof.Rows L2 Sw
def top (i : Nat) : Stmt := PySem.Challenge.pw_sideswaps_k02_whole_deeds.main.body.getD i (.Pass ⟨0, 0, 0, 0⟩)
abbrev s_is_word : Stmt := top 6
abbrev N_is_word : List Str := ["value", "sign"]
abbrev P_is_word : List Str := ["value"]
theorem sc_is_word : FnScope N_is_word P_is_word (defScope s_is_word) := ⟨rfl, rfl, rfl, by decide +kernel, rfl, by decide +kernel, by decide +kernel⟩
abbrev s_is_count : Stmt := top 8
abbrev N_is_count : List Str := ["value"]
abbrev P_is_count : List Str := ["value"]
theorem sc_is_count : FnScope N_is_count P_is_count (defScope s_is_count) := ⟨rfl, rfl, rfl, by decide +kernel, rfl, by decide +kernel, by decide +kernel⟩
abbrev s__ascends : Stmt := top 9
abbrev N__ascends : List Str := ["signs", "first", "second"]
abbrev P__ascends : List Str := ["signs"]
theorem sc__ascends : FnScope N__ascends P__ascends (defScope s__ascends) := ⟨rfl, rfl, rfl, by decide +kernel, rfl, by decide +kernel, by decide +kernel⟩
abbrev s_sides_changed : Stmt := top 14
abbrev N_sides_changed : List Str := ["word", "place"]
abbrev P_sides_changed : List Str := ["word", "place"]
theorem sc_sides_changed : FnScope N_sides_changed P_sides_changed (defScope s_sides_changed) := ⟨rfl, rfl, rfl, by decide +kernel, rfl, by decide +kernel, by decide +kernel⟩
abbrev s__law_hash : Stmt := top 17
abbrev N__law_hash : List Str := ["_law_seed", "_law_index", "_law_mixed"]
abbrev P__law_hash : List Str := ["_law_seed", "_law_index"]
theorem sc__law_hash : FnScope N__law_hash P__law_hash (defScope s__law_hash) := ⟨rfl, rfl, rfl, by decide +kernel, rfl, by decide +kernel, by decide +kernel⟩
abbrev s__law_cell : Stmt := top 19
abbrev N__law_cell : List Str := ["_law_script", "_law_index"]
abbrev P__law_cell : List Str := ["_law_script", "_law_index"]
theorem sc__law_cell : FnScope N__law_cell P__law_cell (defScope s__law_cell) := ⟨rfl, rfl, rfl, by decide +kernel, rfl, by decide +kernel, by decide +kernel⟩
abbrev s__law_swapped : Stmt := top 24
abbrev N__law_swapped : List Str := ["_law_word_here", "_law_place"]
abbrev P__law_swapped : List Str := ["_law_word_here", "_law_place"]
theorem sc__law_swapped : FnScope N__law_swapped P__law_swapped (defScope s__law_swapped) := ⟨rfl, rfl, rfl, by decide +kernel, rfl, by decide +kernel, by decide +kernel⟩
abbrev s__law_jumped : Stmt := top 25
abbrev N__law_jumped : List Str := ["_law_word_here", "_law_place", "_law_ring", "_law_at"]
abbrev P__law_jumped : List Str := ["_law_word_here", "_law_place"]
theorem sc__law_jumped : FnScope N__law_jumped P__law_jumped (defScope s__law_jumped) := ⟨rfl, rfl, rfl, by decide +kernel, rfl, by decide +kernel, by decide +kernel⟩
abbrev s_is_joints : Stmt := top 7
abbrev N_is_joints : List Str := ["value"]
abbrev P_is_joints : List Str := ["value"]
theorem sc_is_joints : FnScope N_is_joints P_is_joints (defScope s_is_joints) := ⟨rfl, rfl, rfl, by decide +kernel, rfl, by decide +kernel, by decide +kernel⟩
abbrev s_check_word : Stmt := top 10
abbrev N_check_word : List Str := ["value"]
abbrev P_check_word : List Str := ["value"]
theorem sc_check_word : FnScope N_check_word P_check_word (defScope s_check_word) := ⟨rfl, rfl, rfl, by decide +kernel, rfl, by decide +kernel, by decide +kernel⟩
abbrev s__is_open : Stmt := top 15
abbrev N__is_open : List Str := ["word", "joints", "place"]
abbrev P__is_open : List Str := ["word", "joints", "place"]
theorem sc__is_open : FnScope N__is_open P__is_open (defScope s__is_open) := ⟨rfl, rfl, rfl, by decide +kernel, rfl, by decide +kernel, by decide +kernel⟩
abbrev s__law_random : Stmt := top 18
abbrev N__law_random : List Str := ["_law_generator_here", "_law_bound", "_law_drawn", "_law_turn"]
abbrev P__law_random : List Str := ["_law_generator_here", "_law_bound"]
theorem sc__law_random : FnScope N__law_random P__law_random (defScope s__law_random) := ⟨rfl, rfl, rfl, by decide +kernel, rfl, by decide +kernel, by decide +kernel⟩
abbrev s__law_generator : Stmt := top 20
abbrev N__law_generator : List Str := ["_law_script", "_law_index", "_law_seed"]
abbrev P__law_generator : List Str := ["_law_script", "_law_index"]
theorem sc__law_generator : FnScope N__law_generator P__law_generator (defScope s__law_generator) := ⟨rfl, rfl, rfl, by decide +kernel, rfl, by decide +kernel, by decide +kernel⟩
abbrev s_check_joints : Stmt := top 11
abbrev N_check_joints : List Str := ["value"]
abbrev P_check_joints : List Str := ["value"]
theorem sc_check_joints : FnScope N_check_joints P_check_joints (defScope s_check_joints) := ⟨rfl, rfl, rfl, by decide +kernel, rfl, by decide +kernel, by decide +kernel⟩
abbrev s__law_word : Stmt := top 21
abbrev N__law_word : List Str := ["_law_generator_here", "_law_letters_here", "_law_size", "_law_turn"]
abbrev P__law_word : List Str := ["_law_generator_here", "_law_letters_here", "_law_size"]
theorem sc__law_word : FnScope N__law_word P__law_word (defScope s__law_word) := ⟨rfl, rfl, rfl, by decide +kernel, rfl, by decide +kernel, by decide +kernel⟩
abbrev s__law_letters : Stmt := top 22
abbrev N__law_letters : List Str := ["_law_generator_here", "_law_least", "_law_most", "_law_many", "_law_found", "_law_start", "_law_turn"]
abbrev P__law_letters : List Str := ["_law_generator_here", "_law_least", "_law_most"]
theorem sc__law_letters : FnScope N__law_letters P__law_letters (defScope s__law_letters) := ⟨rfl, rfl, rfl, by decide +kernel, rfl, by decide +kernel, by decide +kernel⟩
abbrev s__law_joints : Stmt := top 23
abbrev N__law_joints : List Str := ["_law_generator_here", "_law_letters_here", "_law_letter"]
abbrev P__law_joints : List Str := ["_law_generator_here", "_law_letters_here"]
theorem sc__law_joints : FnScope N__law_joints P__law_joints (defScope s__law_joints) := ⟨rfl, rfl, rfl, by decide +kernel, rfl, by decide +kernel, by decide +kernel⟩
abbrev s_open_places : Stmt := top 12
abbrev N_open_places : List Str := ["word", "joints", "place", "letter"]
abbrev P_open_places : List Str := ["word", "joints"]
theorem sc_open_places : FnScope N_open_places P_open_places (defScope s_open_places) := ⟨rfl, rfl, rfl, by decide +kernel, rfl, by decide +kernel, by decide +kernel⟩
abbrev s_swapped : Stmt := top 13
abbrev N_swapped : List Str := ["word", "joints", "place"]
abbrev P_swapped : List Str := ["word", "joints", "place"]
theorem sc_swapped : FnScope N_swapped P_swapped (defScope s_swapped) := ⟨rfl, rfl, rfl, by decide +kernel, rfl, by decide +kernel, by decide +kernel⟩
abbrev s__law_right : Stmt := top 26
abbrev N__law_right : List Str := ["_law_generator_here", "_law_letters_here", "_law_joints_here", "_law_sizes", "_law_size", "_law_word_here", "_law_due", "_law_told", "_law_place"]
abbrev P__law_right : List Str := ["_law_generator_here"]
theorem sc__law_right : FnScope N__law_right P__law_right (defScope s__law_right) := ⟨rfl, rfl, rfl, by decide +kernel, rfl, by decide +kernel, by decide +kernel⟩
abbrev s_law : Stmt := top 27
abbrev N_law : List Str := ["_law_script", "_law_index"]
abbrev P_law : List Str := ["_law_script"]
theorem sc_law : FnScope N_law P_law (defScope s_law) := ⟨rfl, rfl, rfl, by decide +kernel, rfl, by decide +kernel, by decide +kernel⟩
structure Txt (K : PySem.W.Frag) (mg : Str → Option Value) where
  f_is_word : Addr
  fd_is_word : FuncData
  F_is_word : Fun K "is_word" "is_word" s_is_word f_is_word fd_is_word
  m_is_word : mg "is_word" = some (.ref f_is_word)
  b_is_word : Binds K fd_is_word P_is_word []
  f_is_count : Addr
  fd_is_count : FuncData
  F_is_count : Fun K "is_count" "is_count" s_is_count f_is_count fd_is_count
  m_is_count : mg "is_count" = some (.ref f_is_count)
  b_is_count : Binds K fd_is_count P_is_count []
  f__ascends : Addr
  fd__ascends : FuncData
  F__ascends : Fun K "_ascends" "_ascends" s__ascends f__ascends fd__ascends
  m__ascends : mg "_ascends" = some (.ref f__ascends)
  b__ascends : Binds K fd__ascends P__ascends []
  f_sides_changed : Addr
  fd_sides_changed : FuncData
  F_sides_changed : Fun K "sides_changed" "sides_changed" s_sides_changed f_sides_changed fd_sides_changed
  m_sides_changed : mg "sides_changed" = some (.ref f_sides_changed)
  b_sides_changed : Binds K fd_sides_changed P_sides_changed []
  f__law_hash : Addr
  fd__law_hash : FuncData
  F__law_hash : Fun K "_law_hash" "_law_hash" s__law_hash f__law_hash fd__law_hash
  m__law_hash : mg "_law_hash" = some (.ref f__law_hash)
  b__law_hash : Binds K fd__law_hash P__law_hash []
  f__law_cell : Addr
  fd__law_cell : FuncData
  F__law_cell : Fun K "_law_cell" "_law_cell" s__law_cell f__law_cell fd__law_cell
  m__law_cell : mg "_law_cell" = some (.ref f__law_cell)
  b__law_cell : Binds K fd__law_cell P__law_cell []
  f__law_swapped : Addr
  fd__law_swapped : FuncData
  F__law_swapped : Fun K "_law_swapped" "_law_swapped" s__law_swapped f__law_swapped fd__law_swapped
  m__law_swapped : mg "_law_swapped" = some (.ref f__law_swapped)
  b__law_swapped : Binds K fd__law_swapped P__law_swapped []
  f__law_jumped : Addr
  fd__law_jumped : FuncData
  F__law_jumped : Fun K "_law_jumped" "_law_jumped" s__law_jumped f__law_jumped fd__law_jumped
  m__law_jumped : mg "_law_jumped" = some (.ref f__law_jumped)
  b__law_jumped : Binds K fd__law_jumped P__law_jumped []
  f_is_joints : Addr
  fd_is_joints : FuncData
  F_is_joints : Fun K "is_joints" "is_joints" s_is_joints f_is_joints fd_is_joints
  m_is_joints : mg "is_joints" = some (.ref f_is_joints)
  b_is_joints : Binds K fd_is_joints P_is_joints []
  f_check_word : Addr
  fd_check_word : FuncData
  F_check_word : Fun K "check_word" "check_word" s_check_word f_check_word fd_check_word
  m_check_word : mg "check_word" = some (.ref f_check_word)
  b_check_word : Binds K fd_check_word P_check_word []
  f__is_open : Addr
  fd__is_open : FuncData
  F__is_open : Fun K "_is_open" "_is_open" s__is_open f__is_open fd__is_open
  m__is_open : mg "_is_open" = some (.ref f__is_open)
  b__is_open : Binds K fd__is_open P__is_open []
  f__law_random : Addr
  fd__law_random : FuncData
  F__law_random : Fun K "_law_random" "_law_random" s__law_random f__law_random fd__law_random
  m__law_random : mg "_law_random" = some (.ref f__law_random)
  b__law_random : Binds K fd__law_random P__law_random []
  f__law_generator : Addr
  fd__law_generator : FuncData
  F__law_generator : Fun K "_law_generator" "_law_generator" s__law_generator f__law_generator fd__law_generator
  m__law_generator : mg "_law_generator" = some (.ref f__law_generator)
  b__law_generator : Binds K fd__law_generator P__law_generator []
  f_check_joints : Addr
  fd_check_joints : FuncData
  F_check_joints : Fun K "check_joints" "check_joints" s_check_joints f_check_joints fd_check_joints
  m_check_joints : mg "check_joints" = some (.ref f_check_joints)
  b_check_joints : Binds K fd_check_joints P_check_joints []
  f__law_word : Addr
  fd__law_word : FuncData
  F__law_word : Fun K "_law_word" "_law_word" s__law_word f__law_word fd__law_word
  m__law_word : mg "_law_word" = some (.ref f__law_word)
  b__law_word : Binds K fd__law_word P__law_word []
  f__law_letters : Addr
  fd__law_letters : FuncData
  F__law_letters : Fun K "_law_letters" "_law_letters" s__law_letters f__law_letters fd__law_letters
  m__law_letters : mg "_law_letters" = some (.ref f__law_letters)
  b__law_letters : Binds K fd__law_letters P__law_letters []
  f__law_joints : Addr
  fd__law_joints : FuncData
  F__law_joints : Fun K "_law_joints" "_law_joints" s__law_joints f__law_joints fd__law_joints
  m__law_joints : mg "_law_joints" = some (.ref f__law_joints)
  b__law_joints : Binds K fd__law_joints P__law_joints []
  f_open_places : Addr
  fd_open_places : FuncData
  F_open_places : Fun K "open_places" "open_places" s_open_places f_open_places fd_open_places
  m_open_places : mg "open_places" = some (.ref f_open_places)
  b_open_places : Binds K fd_open_places P_open_places []
  f_swapped : Addr
  fd_swapped : FuncData
  F_swapped : Fun K "swapped" "swapped" s_swapped f_swapped fd_swapped
  m_swapped : mg "swapped" = some (.ref f_swapped)
  b_swapped : Binds K fd_swapped P_swapped []
  f__law_right : Addr
  fd__law_right : FuncData
  F__law_right : Fun K "_law_right" "_law_right" s__law_right f__law_right fd__law_right
  m__law_right : mg "_law_right" = some (.ref f__law_right)
  b__law_right : Binds K fd__law_right P__law_right []
  f_law : Addr
  fd_law : FuncData
  F_law : Fun K "law" "law" s_law f_law fd_law
  m_law : mg "law" = some (.ref f_law)
  b_law : Binds K fd_law P_law []
  z_all : mg "all" = none
  z_bool : mg "bool" = none
  z_enumerate : mg "enumerate" = none
  z_int : mg "int" = none
  z_isinstance : mg "isinstance" = none
  z_len : mg "len" = none
  z_max : mg "max" = none
  z_range : mg "range" = none
  z_str : mg "str" = none
  z_sum : mg "sum" = none
  z_zip : mg "zip" = none
def gk_open_places__0_joints_word {α : Type} : List α → List α → List α := fun us ws => match us, ws with | [], [w0, w1] => [w1, w0] | _, _ => []
theorem gk_rel_open_places__0_joints_word {vs zs : List V} {us ws : List Value} (r1 : Vals vs us) (r2 : Vals zs ws) : Vals (gk_open_places__0_joints_word vs zs) (gk_open_places__0_joints_word us ws) := by
  cases r1 with
  | nil =>
    cases r2 with
    | nil => exact .nil
    | cons w0 r2 =>
      cases r2 with
      | nil => exact .nil
      | cons w1 r2 =>
        cases r2 with
        | nil =>
          exact (.cons w1 (.cons w0 .nil))
        | cons _ _ => exact .nil
  | cons _ _ => exact .nil
theorem kb_open_places__0_joints_word {K : PySem.W.Frag} {mg : Str → Option Value} (T : Txt K mg) : KBn K T.fd_open_places P_open_places 0 ["joints", "word"] gk_open_places__0_joints_word gk_open_places__0_joints_word := by
  obtain ⟨oc, od, kV, doc, pm, an, cdv, ct, osl, e, lk, hcd⟩ := T.F_open_places.ex
  refine ⟨fun s us ws X l1 l2 => ?_, fun r1 r2 => gk_rel_open_places__0_joints_word r1 r2⟩
  rw [e]
  exact match us, ws, l1, l2 with | [], [_, _], _, _ => .of_eq rfl
def gk_swapped__0_place_joints_word {α : Type} : List α → List α → List α := fun us ws => match us, ws with | [], [w0, w1, w2] => [w2, w1, w0] | _, _ => []
theorem gk_rel_swapped__0_place_joints_word {vs zs : List V} {us ws : List Value} (r1 : Vals vs us) (r2 : Vals zs ws) : Vals (gk_swapped__0_place_joints_word vs zs) (gk_swapped__0_place_joints_word us ws) := by
  cases r1 with
  | nil =>
    cases r2 with
    | nil => exact .nil
    | cons w0 r2 =>
      cases r2 with
      | nil => exact .nil
      | cons w1 r2 =>
        cases r2 with
        | nil => exact .nil
        | cons w2 r2 =>
          cases r2 with
          | nil =>
            exact (.cons w2 (.cons w1 (.cons w0 .nil)))
          | cons _ _ => exact .nil
  | cons _ _ => exact .nil
theorem kb_swapped__0_place_joints_word {K : PySem.W.Frag} {mg : Str → Option Value} (T : Txt K mg) : KBn K T.fd_swapped P_swapped 0 ["place", "joints", "word"] gk_swapped__0_place_joints_word gk_swapped__0_place_joints_word := by
  obtain ⟨oc, od, kV, doc, pm, an, cdv, ct, osl, e, lk, hcd⟩ := T.F_swapped.ex
  refine ⟨fun s us ws X l1 l2 => ?_, fun r1 r2 => gk_rel_swapped__0_place_joints_word r1 r2⟩
  rw [e]
  exact match us, ws, l1, l2 with | [], [_, _, _], _, _ => .of_eq rfl
section
variable {P : Program} {w : World} {K : PySem.W.Frag} {mg : Str → Option Value} {base : Heap}
/-! is_word -/
def sp_is_word : Sp := fun vs H Q _ => ∃ l : List Nat, vs = [.str (S l)] ∧ l.length ≤ 50000 ∧ ∀ H', Same H H' → Q (.bl (wordB l)) H'
theorem ok_is_word (T : Txt K mg) : FnOk P w K mg base CX0 1 T.f_is_word T.fd_is_word P_is_word (sp_is_word) := by
  have nd : N_is_word.Nodup := sc_is_word.nd
  refine T.F_is_word.ok sc_is_word (fun vs H Q E h => ?_) (fun cdv A outer s H vs Q E hr h => ?_)
  · obtain ⟨l, rfl, _⟩ := h
    rfl
  · obtain ⟨l, rfl, hl, k⟩ := h
    refine ⟨_, (pss_one (ps_ret (pe_and (pe_callB call_isi (by rfl) T.z_isinstance (by decide +kernel) (pa_cons (pv 0) (pa_cons (pe_bltn (v := .ty "str") (by rfl) T.z_str (by decide +kernel) rfl) pa_nil))) (pe_one (pe_callB (cr_all rfl) (by rfl) T.z_all (by decide +kernel) (pa_cons (pe_lc (own := [("sign", 1)]) (hc := rfl) (hN := nd) (pi_str (pv 0)) (blkOk_by (N := N_is_word) (sc := defScope s_is_word) (by decide +kernel)) (fun _ _ _ _ _ => by exact (pg_name (i := 1) nd rfl (Or.inl rfl))) (fun _ _ _ _ _ => by exact pts_nil) (fun _ _ _ _ _ => by exact (pe_chain op_le_str op_le_str pe_str (pv 1) pe_str))) pa_nil)))))), ?_⟩
    refine ⟨_, rfl, _, _, _, _, _, rfl, ClsV.ty "str", .base (.str _), kit_ty (by decide +kernel), true, rfl, iteT ?_⟩
    refine ⟨_, rfl, _, rfl, fun D hD => ?_⟩
    refine lc_it walk_str (fun i H' => Same H H' ∧ H' D = some (.lst (((l.take i).map signB).map V.bl))) ⟨Same.upd hD, by rw [upd_same]; rfl⟩ (fun _ _ _ _ => trivial) ?_ ?_
    · rintro i x H1 H2 hi ⟨s1, d1⟩ ⟨rfl, c, hc, rfl⟩
      rw [at_S] at hc
      refine ⟨rfl, _, rfl, _, _, rfl, rfl, _, rfl, ?_⟩
      have step : ∀ v, v = V.bl (signB c) → ∃ acc, H2 D = some (.lst acc) ∧ acc.length < sizeLine ∧ (Same H (upd H2 D (.lst (acc ++ [v]))) ∧ (upd H2 D (.lst (acc ++ [v]))) D = some (.lst (((l.take (i + 1)).map signB).map V.bl))) := by
        rintro v rfl
        refine ⟨_, d1, ?_, fun b o e => ?_, ?_⟩
        · rw [List.length_map, List.length_map, List.length_take]; exact small_line (by omega)
        · rw [upd_ne (ne_of_none e hD)]; exact s1 b o e
        · rw [upd_same, take_snoc hc]; simp
      have sc := sign_chain c
      refine ite2 (fun z => ?_) (fun z => ?_)
      · rw [if_pos z] at sc
        exact ⟨_, _, rfl, rfl, step _ (by rw [sc])⟩
      · rw [if_neg z] at sc
        exact step _ (by rw [sc])
    · rintro H1 ⟨s1, d1⟩
      rw [size_S, List.take_length] at d1
      refine ⟨D, l.map signB, rfl, SqL.of d1, ?_⟩
      have e : (l.map signB).all id = wordB l := by unfold wordB; rw [List.all_map]; rfl
      rw [e]
      exact k _ s1
/-! is_count -/
def sp_is_count : Sp := fun vs H Q _ => ∃ i : Int, vs = [.int i] ∧ Q (.bl (decide (0 ≤ i))) H
theorem ok_is_count (T : Txt K mg) : FnOk P w K mg base CX0 1 T.f_is_count T.fd_is_count P_is_count (sp_is_count) := by
  have nd : N_is_count.Nodup := sc_is_count.nd
  refine T.F_is_count.ok sc_is_count (fun vs H Q E h => ?_) (fun cdv A outer s H vs Q E hr h => ?_)
  · obtain ⟨l, rfl, _⟩ := h
    rfl
  · obtain ⟨i, rfl, k⟩ := h
    refine ⟨_, (pss_one (ps_ret (pe_and (pe_callB call_isi (by rfl) T.z_isinstance (by decide +kernel) (pa_cons (pv 0) (pa_cons (pe_bltn (v := .ty "int") (by rfl) T.z_int (by decide +kernel) rfl) pa_nil))) (pe_and (pe_not (pe_callB call_isi (by rfl) T.z_isinstance (by decide +kernel) (pa_cons (pv 0) (pa_cons (pe_bltn (v := .ty "bool") (by rfl) T.z_bool (by decide +kernel) rfl) pa_nil)))) (pe_one (pe_cmpR op_ge (pv 0) pe_int (nomark _))))))), ?_⟩
    refine ⟨_, rfl, _, _, _, _, _, rfl, ClsV.ty "int", .base (.int _), kit_ty (by decide +kernel), true, rfl, iteT ?_⟩
    refine ⟨_, rfl, _, _, _, _, _, rfl, ClsV.ty "bool", .base (.int _), kit_ty (by decide +kernel), false, rfl, true, rfl, iteT ?_⟩
    exact ⟨_, rfl, _, _, rfl, rfl, k⟩
/-! _ascends -/
def sp__ascends : Sp := fun vs H Q _ => ∃ l : List Nat, vs = [.str (S l)] ∧ l.length ≤ 50000 ∧ ∀ H', Same H H' → Q (.bl (ascB l)) H'
theorem ok__ascends (T : Txt K mg) : FnOk P w K mg base CX0 1 T.f__ascends T.fd__ascends P__ascends (sp__ascends) := by
  have nd : N__ascends.Nodup := sc__ascends.nd
  refine T.F__ascends.ok sc__ascends (fun vs H Q E h => ?_) (fun cdv A outer s H vs Q E hr h => ?_)
  · obtain ⟨l, rfl, _⟩ := h
    rfl
  · obtain ⟨l, rfl, hl, k⟩ := h
    refine ⟨_, (pss_one (ps_ret (pe_callB (cr_all rfl) (by rfl) T.z_all (by decide +kernel) (pa_cons (pe_lc (own := [("first", 1), ("second", 2)]) (hc := rfl) (hN := nd) (pi_zipS (by rfl) T.z_zip (pa_cons (pv 0) (pa_cons (pe_slice sl_str (pv 0) (po_some pe_int) po_none) pa_nil))) (blkOk_by (N := N__ascends) (sc := defScope s__ascends) (by decide +kernel)) (fun _ _ _ _ _ => by exact (pg_tupK K (n := 2) rfl (pgs_cons (by exact (pg_name (i := 1) nd rfl (Or.inl rfl))) (pgs_cons (by exact (pg_name (i := 2) nd rfl (Or.inl rfl))) pgs_nil)))) (fun _ _ _ _ _ => by exact pts_nil) (fun _ _ _ _ _ => by exact (pe_cmpR op_lt_str (pv 1) (pv 2) (nomark _)))) pa_nil)))), ?_⟩
    refine ⟨_, rfl, _, rfl, _, rfl, _, rfl, by rw [len_S]; exact small_le (by omega), _, _, rfl, fun D hD => ?_⟩
    rw [cutS_from (by decide)]
    refine lc_it walk_zipS (fun i H' => Same H H' ∧ H' D = some (.lst ((((l.zip l.tail).take i).map fun p => decide (p.1 < p.2)).map V.bl))) ⟨Same.upd hD, by rw [upd_same]; rfl⟩ (fun _ _ _ _ => trivial) ?_ ?_
    · rintro i x H1 H2 hi ⟨s1, d1⟩ ⟨T1, x1, y1, rfl, hT, rfl, h1, h2⟩
      replace h1 : (l[i]?).map (fun c => V.str ⟨#[c]⟩) = some x1 := by rw [← at_S]; exact h1
      replace h2 : ((l.drop (1 : Int).toNat)[i]?).map (fun c => V.str ⟨#[c]⟩) = some y1 := by rw [← at_S]; exact h2
      obtain ⟨c, hc, rfl⟩ := Option.map_eq_some_iff.mp h1
      obtain ⟨d, hd, rfl⟩ := Option.map_eq_some_iff.mp h2
      have hz : (l.zip l.tail)[i]? = some (c, d) := zip_tail hc hd
      have nT : D ≠ T1 := ne_of_none d1 hT
      refine ⟨T1, _, rfl, SqT.of upd_same, rfl, _, _, rfl, _, _, rfl, rfl, rfl, ?_⟩
      refine ⟨_, rfl, _, rfl, _, _, rfl, rfl, ?_⟩
      rw [one_lt_S]
      refine ⟨_, by rw [upd_ne nT]; exact d1, ?_, fun b o e => ?_, ?_⟩
      · rw [List.length_map, List.length_map, List.length_take, List.length_zip]; exact small_line (by omega)
      · rw [upd_ne (ne_of_none e hD)]; exact Same.upd hT _ _ (s1 b o e)
      · rw [upd_same, take_snoc hz]; simp
    · rintro H1 ⟨s1, d1⟩
      rw [zip_size, List.take_length] at d1
      refine ⟨D, _, rfl, SqL.of d1, ?_⟩
      have e : ((l.zip l.tail).map fun p => decide (p.1 < p.2)).all id = ascB l := by unfold ascB; rw [List.all_map]; rfl
      rw [e]
      exact k _ s1
/-! sides_changed -/
def sp_sides_changed : Sp := fun vs H Q _ => ∃ (l : List Nat) (p : Nat), vs = [.str (S l), .int (p : Int)] ∧ l.length ≤ 50000 ∧ p < l.length ∧ Q (.str (S (swapL l p))) H
theorem ok_sides_changed (T : Txt K mg) : FnOk P w K mg base CX0 1 T.f_sides_changed T.fd_sides_changed P_sides_changed (sp_sides_changed) := by
  have nd : N_sides_changed.Nodup := sc_sides_changed.nd
  refine T.F_sides_changed.ok sc_sides_changed (fun vs H Q E h => ?_) (fun cdv A outer s H vs Q E hr h => ?_)
  · obtain ⟨l, p, rfl, _⟩ := h
    rfl
  · obtain ⟨l, p, rfl, hl, hp, k⟩ := h
    refine ⟨_, (pss_one (ps_ret (pe_op op_add_str (pe_op op_add_str (pe_slice sl_str (pv 0) (po_some (pe_op op_add (pv 1) pe_int)) po_none) (pe_slice sl_str (pv 0) (po_some (pv 1)) (po_some (pe_op op_add (pv 1) pe_int)))) (pe_slice sl_str (pv 0) po_none (po_some (pv 1)))))), ?_⟩
    have hz : (S l).length ≤ sizeLine := by rw [len_S]; exact small_le (by omega)
    refine ⟨_, rfl, _, rfl, _, _, rfl, rfl, _, rfl, _, rfl, hz, ?_⟩
    refine ⟨_, rfl, _, rfl, _, rfl, _, rfl, _, _, rfl, rfl, _, rfl, _, rfl, hz, ?_⟩
    rw [cutS_from (by omega), show ((p : Int) + 1) = ((p + 1 : Nat) : Int) by omega, cutS_mid (by omega) (by omega), Int.toNat_natCast]
    refine ⟨_, _, rfl, rfl, ?_, ?_⟩
    · rw [len_S, len_S, List.length_drop, List.length_take, List.length_drop]; exact small_le (by omega)
    refine ⟨_, rfl, _, rfl, _, rfl, _, rfl, hz, ?_⟩
    rw [cutS_to (by omega), Int.toNat_natCast, SX.S_cat]
    refine ⟨_, _, rfl, rfl, ?_, ?_⟩
    · rw [len_S, len_S, List.length_append, List.length_drop, List.length_take, List.length_drop, List.length_take]; exact small_le (by omega)
    rw [SX.S_cat, show p + 1 - p = 1 by omega]
    exact k
/-! _law_hash -/
def sp__law_hash : Sp := fun vs H Q _ => ∃ a b : Int, vs = [.int a, .int b] ∧ (0 ≤ a ∧ a < 2147483647) ∧ (0 ≤ b ∧ b ≤ 1000000000) ∧ ∀ r : Int, 0 ≤ r → r < 2147483647 → Q (.int r) H
theorem ok__law_hash (T : Txt K mg) : FnOk P w K mg base CX0 1 T.f__law_hash T.fd__law_hash P__law_hash (sp__law_hash) := by
  have nd : N__law_hash.Nodup := sc__law_hash.nd
  refine T.F__law_hash.ok sc__law_hash (fun vs H Q E h => ?_) (fun cdv A outer s H vs Q E hr h => ?_)
  · obtain ⟨a, b, rfl, _⟩ := h
    rfl
  · obtain ⟨a, b, rfl, ha, hb, k⟩ := h
    refine ⟨_, (pss_cons (ps_set (i := 2) nd rfl (Or.inl rfl) (pe_op op_mod (pe_callTy call_int1 (by rfl) T.z_int (by decide +kernel) (pa_cons (pe_op op_add (pe_op op_add (pe_op op_add (pe_op op_mul (pv 0) pe_int) (pe_op op_mul (pe_op op_mul pe_int (pv 1)) (pv 1))) (pe_op op_mul pe_int (pv 1))) pe_int) pa_nil)) pe_int))
      (pss_cons (ps_set (i := 2) nd rfl (Or.inl rfl) (pe_op op_mod (pe_callTy call_int1 (by rfl) T.z_int (by decide +kernel) (pa_cons (pe_op op_add (pe_op op_add (pe_op op_mul (pv 2) (pv 2)) (pe_op op_mul pe_int (pv 1))) pe_int) pa_nil)) pe_int))
      (pss_one (ps_ret (pe_op op_mod (pe_callTy call_int1 (by rfl) T.z_int (by decide +kernel) (pa_cons (pe_op op_mul (pv 2) pe_int) pa_nil)) pe_int))))), ?_⟩
    refine ⟨_, rfl, _, _, rfl, rfl, .inl ⟨by omega, by omega⟩, _, rfl, _, _, rfl, rfl, .inl ⟨by decide, by decide⟩, _, rfl, _, _, rfl, rfl, .inl ⟨by omega, by omega⟩, ?_⟩
    refine ⟨_, _, rfl, rfl, _, rfl, _, _, rfl, rfl, .inl ⟨by decide, by decide⟩, _, _, rfl, rfl, _, _, rfl, rfl, .inl ⟨_, rfl, ?_⟩⟩
    refine ⟨_, _, rfl, rfl, (by show (0 : Int) < 2147483629; decide), ?_⟩
    refine ⟨_, rfl, _, rfl, _, _, rfl, rfl, .inl ⟨by omega, by omega⟩, _, rfl, _, _, rfl, rfl, .inl ⟨by decide, by decide⟩, _, _, rfl, rfl, _, _, rfl, rfl, .inl ⟨_, rfl, ?_⟩⟩
    refine ⟨_, _, rfl, rfl, (by show (0 : Int) < 2147483587; decide), ?_⟩
    refine ⟨_, rfl, _, _, rfl, rfl, .inl ⟨by omega, by omega⟩, .inl ⟨_, rfl, ?_⟩⟩
    refine ⟨_, _, rfl, rfl, (by show (0 : Int) < 2147483647; decide), ?_⟩
    exact k _ (Int.emod_nonneg _ (by decide)) (Int.emod_lt_of_pos _ (by decide))
/-! _law_cell -/
def sp__law_cell (K : PySem.W.Frag) : Sp := fun vs H Q _ => ∃ (a : Addr) (ns : List Int) (j : Nat), vs = [.ref a, .int (j : Int)] ∧ SqL K H a (ns.map V.int) ∧ ∀ (r : Int) H', Same H H' → Q (.int r) H'
theorem ok__law_cell (T : Txt K mg) : FnOk P w K mg base CX0 1 T.f__law_cell T.fd__law_cell P__law_cell (sp__law_cell K) := by
  have nd : N__law_cell.Nodup := sc__law_cell.nd
  refine T.F__law_cell.ok sc__law_cell (fun vs H Q E h => ?_) (fun cdv A outer s H vs Q E hr h => ?_)
  · obtain ⟨a, ns, j, rfl, _⟩ := h
    rfl
  · obtain ⟨a, ns, j, rfl, hS, k⟩ := h
    refine ⟨_, (pss_cons (ps_if (pt_cmpR op_lt (pv 1) (pe_callB call_len_seq (by rfl) T.z_len (by decide +kernel) (pa_cons (pv 0) pa_nil)) (nomark _)) (pss_one (ps_ret (pe_ix ix_list (pv 0) (pv 1) (fun _ _ => rfl)))) pss_nil)
      (pss_one (ps_ret (pe_op op_mod (pe_callB (cr_sum rfl) (by rfl) T.z_sum (by decide +kernel) (pa_cons (pe_slice sl_list (pv 0) po_none (po_some pe_int)) pa_nil)) pe_int)))), ?_⟩
    refine ⟨_, rfl, _, rfl, a, _, rfl, .inl hS, _, _, rfl, rfl, _, rfl, ite2 (fun q => ?_) (fun q => ?_)⟩
    · have q' : j < ns.length := by have := of_decide_eq_true q; rw [List.length_map] at this; omega
      exact ⟨_, rfl, _, rfl, a, _, _, V.int ns[j], rfl, rfl, hS, atI_nat (by rw [List.getElem?_map, List.getElem?_eq_getElem q']; rfl), k _ _ (Same.refl _)⟩
    · refine ⟨_, rfl, _, rfl, a, _, rfl, hS, fun p hp => ?_⟩
      refine ⟨p, ns.take 1, rfl, SqL.of (by rw [upd_same, cutV_to1]), _, _, rfl, rfl, (by show (0 : Int) < 1000003; decide), k _ _ (Same.upd hp)⟩
/-! _law_swapped -/
def sp__law_swapped : Sp := fun vs H Q _ => ∃ (l : List Nat) (p : Nat), vs = [.str (S l), .int (p : Int)] ∧ l.length ≤ 50000 ∧ p < l.length ∧ Q (.str (S (swapL l p))) H
theorem ok__law_swapped (T : Txt K mg) : FnOk P w K mg base CX0 1 T.f__law_swapped T.fd__law_swapped P__law_swapped (sp__law_swapped) := by
  have nd : N__law_swapped.Nodup := sc__law_swapped.nd
  refine T.F__law_swapped.ok sc__law_swapped (fun vs H Q E h => ?_) (fun cdv A outer s H vs Q E hr h => ?_)
  · obtain ⟨l, p, rfl, _⟩ := h
    rfl
  · obtain ⟨l, p, rfl, hl, hp, k⟩ := h
    refine ⟨_, (pss_one (ps_ret (pe_op op_add_str (pe_op op_add_str (pe_slice sl_str (pv 0) (po_some (pe_op op_add (pv 1) pe_int)) po_none) (pe_item_str (pv 0) (pv 1) (fun _ _ => rfl))) (pe_slice sl_str (pv 0) po_none (po_some (pv 1)))))), ?_⟩
    have hz : (S l).length ≤ sizeLine := by rw [len_S]; exact small_le (by omega)
    have hc : l[p]? = some l[p] := List.getElem?_eq_getElem hp
    refine ⟨_, rfl, _, rfl, _, _, rfl, rfl, _, rfl, _, rfl, hz, ?_⟩
    rw [cutS_from (by omega), show ((p : Int) + 1).toNat = p + 1 by omega]
    refine ⟨_, rfl, _, rfl, S l, p, l[p], rfl, rfl, by omega, by omega, by rw [len_S]; omega, by rw [Int.toNat_natCast, at_S]; exact hc, ?_⟩
    refine ⟨_, S [l[p]], rfl, rfl, ?_, ?_⟩
    · rw [len_S, len_S, List.length_drop]; exact small_le (by simp; omega)
    refine ⟨_, rfl, _, rfl, _, rfl, _, rfl, hz, ?_⟩
    rw [cutS_to (by omega), Int.toNat_natCast, SX.S_cat]
    refine ⟨_, _, rfl, rfl, ?_, ?_⟩
    · rw [len_S, len_S, List.length_append, List.length_drop, List.length_take]; exact small_le (by simp; omega)
    rw [SX.S_cat, ← swapL_one hc]
    exact k
/-! _law_jumped -/
def sp__law_jumped : Sp := fun vs H Q _ => ∃ (l : List Nat) (p : Nat), vs = [.str (S l), .int (p : Int)] ∧ l.length ≤ 50000 ∧ wordB l = true ∧ p < l.length ∧ Q (.str (S (swapL l p))) H
theorem ok__law_jumped (T : Txt K mg) : FnOk P w K mg base CX0 1 T.f__law_jumped T.fd__law_jumped P__law_jumped (sp__law_jumped) := by
  have nd : N__law_jumped.Nodup := sc__law_jumped.nd
  refine T.F__law_jumped.ok sc__law_jumped (fun vs H Q E h => ?_) (fun cdv A outer s H vs Q E hr h => ?_)
  · obtain ⟨l, p, rfl, _⟩ := h
    rfl
  · obtain ⟨l, p, rfl, hl, hw, hp, k⟩ := h
    refine ⟨_, (pss_cons (ps_set (i := 2) nd rfl (Or.inl rfl) (pe_op op_add_str (pe_op op_add_str (pe_op op_add_str (pe_slice sl_str (pv 0) po_none (po_some (pv 1))) pe_str) (pe_slice sl_str (pv 0) (po_some (pe_op op_add (pv 1) pe_int)) po_none)) (pe_item_str (pv 0) (pv 1) (fun _ _ => rfl))))
      (pss_cons (ps_set (i := 3) nd rfl (Or.inl rfl) (pe_m1 PySem.F.slot_str_index PySem.F.type_str_index mt_sindex (pv 2) pe_str))
      (pss_one (ps_ret (pe_op op_add_str (pe_slice sl_str (pv 2) (po_some (pe_op op_add (pv 3) pe_int)) po_none) (pe_slice sl_str (pv 2) po_none (po_some (pv 3)))))))), ?_⟩
    have hz : (S l).length ≤ sizeLine := by rw [len_S]; exact small_le (by omega)
    have hc : l[p]? = some l[p] := List.getElem?_eq_getElem hp
    refine ⟨_, rfl, _, rfl, _, rfl, _, rfl, hz, ?_⟩
    rw [cutS_to (by omega), Int.toNat_natCast]
    refine ⟨_, _, rfl, rfl, ?_, ?_⟩
    · rw [underscore, len_S, len_S, List.length_take]; exact small_le (by simp; omega)
    rw [underscore, SX.S_cat]
    refine ⟨_, rfl, _, rfl, _, _, rfl, rfl, _, rfl, _, rfl, hz, ?_⟩
    rw [cutS_from (by omega), show ((p : Int) + 1).toNat = p + 1 by omega]
    refine ⟨_, _, rfl, rfl, ?_, ?_⟩
    · rw [len_S, len_S, List.length_append, List.length_take, List.length_drop]; exact small_le (by simp; omega)
    rw [SX.S_cat]
    refine ⟨_, rfl, _, rfl, S l, p, l[p], rfl, rfl, by omega, by omega, by rw [len_S]; omega, by rw [Int.toNat_natCast, at_S]; exact hc, ?_⟩
    refine ⟨_, S [l[p]], rfl, rfl, ?_, ?_⟩
    · rw [len_S, len_S, List.length_append, List.length_append, List.length_take, List.length_drop]; exact small_le (by simp; omega)
    rw [SX.S_cat]
    refine ⟨_, rfl, ⟨_, rfl⟩, _, S [95], p, [], rfl, rfl, ring_hole hw hc, ?_⟩
    have hr : (S (l.take p ++ [95] ++ l.drop (p + 1) ++ [l[p]])).length ≤ sizeLine := by
      rw [len_S, List.length_append, List.length_append, List.length_append, List.length_take, List.length_drop]; exact small_le (by simp; omega)
    refine ⟨_, rfl, _, rfl, _, _, rfl, rfl, _, rfl, _, rfl, hr, ?_⟩
    rw [cutS_from (by omega), show ((p : Int) + 1).toNat = p + 1 by omega, ring_from hp]
    refine ⟨_, rfl, _, rfl, _, rfl, _, rfl, hr, ?_⟩
    rw [cutS_to (by omega), Int.toNat_natCast, ring_to hp]
    refine ⟨_, _, rfl, rfl, ?_, ?_⟩
    · rw [len_S, len_S, List.length_append, List.length_take, List.length_drop]; exact small_le (by simp; omega)
    rw [SX.S_cat, ← swapL_one hc]
    exact k
/-! is_joints -/
def sp_is_joints : Sp := fun vs H Q _ => ∃ l : List Nat, vs = [.str (S l)] ∧ l.length ≤ 50000 ∧ ∀ H', Same H H' → Q (.bl (jointsB l)) H'
theorem ok_is_joints (T : Txt K mg) : FnOk P w K mg base CX0 2 T.f_is_joints T.fd_is_joints P_is_joints (sp_is_joints) := by
  have nd : N_is_joints.Nodup := sc_is_joints.nd
  refine T.F_is_joints.ok sc_is_joints (fun vs H Q E h => ?_) (fun cdv A outer s H vs Q E hr h => ?_)
  · obtain ⟨l, rfl, _⟩ := h
    rfl
  · obtain ⟨l, rfl, hl, k⟩ := h
    refine ⟨_, (pss_one (ps_ret (pe_and (pe_call (ok_is_word T) (hr.mono (by decide)) rfl T.m_is_word T.F_is_word.kp T.b_is_word .nil pass0 (pa_cons (pv 0) pa_nil)) (pe_one (pe_call (ok__ascends T) (hr.mono (by decide)) rfl T.m__ascends T.F__ascends.kp T.b__ascends .nil pass0 (pa_cons (pv 0) pa_nil)))))), ?_⟩
    refine ⟨_, rfl, l, rfl, hl, fun H1 s1 => ⟨_, rfl, ite2 (fun z => ?_) (fun z => ?_)⟩⟩
    · refine ⟨_, rfl, l, rfl, hl, fun H2 s2 => ?_⟩
      have e : ascB l = jointsB l := by unfold jointsB; rw [z]; rfl
      rw [e]
      exact k _ (s1.trans s2)
    · have e : jointsB l = false := by unfold jointsB; rw [Bool.eq_false_iff.mpr z]; rfl
      have q := k _ s1
      rw [e] at q
      exact q
/-! check_word -/
def sp_check_word : Sp := fun vs H Q _ => ∃ l : List Nat, vs = [.str (S l)] ∧ l.length ≤ 50000 ∧ wordB l = true ∧ ∀ H', Same H H' → Q .non H'
theorem ok_check_word (T : Txt K mg) : FnOk P w K mg base CX0 2 T.f_check_word T.fd_check_word P_check_word (sp_check_word) := by
  have nd : N_check_word.Nodup := sc_check_word.nd
  refine T.F_check_word.ok sc_check_word (fun vs H Q E h => ?_) (fun cdv A outer s H vs Q E hr h => ?_)
  · obtain ⟨l, rfl, _⟩ := h
    rfl
  · obtain ⟨l, rfl, hl, hw, k⟩ := h
    refine ⟨_, (pss_one (ps_if (pt_not (pt_val (pe_call (ok_is_word T) (hr.mono (by decide)) rfl T.m_is_word T.F_is_word.kp T.b_is_word .nil pass0 (pa_cons (pv 0) pa_nil)))) pss_never pss_nil)), ?_⟩
    refine ⟨_, rfl, l, rfl, hl, fun H1 s1 => ⟨_, rfl, ?_⟩⟩
    rw [hw]
    exact iteF (k _ s1)
/-! _is_open -/
def sp__is_open : Sp := fun vs H Q _ => ∃ (l js : List Nat) (p c : Nat), vs = [.str (S l), .str (S js), .int (p : Int)] ∧ l.length ≤ 50000 ∧ l[p]? = some c ∧ Q (.bl (decide (c ∈ js))) H
theorem ok__is_open (T : Txt K mg) : FnOk P w K mg base CX0 2 T.f__is_open T.fd__is_open P__is_open (sp__is_open) := by
  have nd : N__is_open.Nodup := sc__is_open.nd
  refine T.F__is_open.ok sc__is_open (fun vs H Q E h => ?_) (fun cdv A outer s H vs Q E hr h => ?_)
  · obtain ⟨l, js, p, c, rfl, _⟩ := h
    rfl
  · obtain ⟨l, js, p, c, rfl, hl, hc, k⟩ := h
    have hp : p < l.length := (List.getElem?_eq_some_iff.mp hc).1
    refine ⟨_, (pss_one (ps_ret (pe_and (pe_call (ok_is_count T) (hr.mono (by decide)) rfl T.m_is_count T.F_is_count.kp T.b_is_count .nil pass0 (pa_cons (pv 2) pa_nil)) (pe_and (pe_cmpR op_lt (pv 2) (pe_callB call_len (by rfl) T.z_len (by decide +kernel) (pa_cons (pv 0) pa_nil)) (nomark _)) (pe_one (pe_cmpR op_in_sign (pe_item_str (pv 0) (pv 2) (fun _ _ => rfl)) (pv 1) rfl)))))), ?_⟩
    refine ⟨_, rfl, _, rfl, _, rfl, ?_⟩
    rw [decide_eq_true (by omega : (0 : Int) ≤ (p : Int))]
    refine iteT ?_
    refine ⟨_, rfl, _, rfl, _, l.length, rfl, ⟨by rw [len_S]; exact small_le (by omega), by rw [len_S]⟩, _, _, rfl, rfl, _, rfl, ?_⟩
    rw [decide_eq_true (by omega : (p : Int) < ((l.length : Nat) : Int))]
    refine iteT ?_
    exact ⟨_, rfl, _, rfl, S l, p, c, rfl, rfl, by omega, by omega, by rw [len_S]; omega, by rw [Int.toNat_natCast, at_S]; exact hc, _, rfl, c, S js, rfl, rfl, k⟩
/-! _law_random -/
def sp__law_random : Sp := fun vs H Q _ => ∃ (g : Addr) (n : Int) (b : Nat), vs = [.ref g, .int n] ∧ GenAt H g b ∧ b ≤ 900000000 ∧ 0 < n ∧ n.natAbs < 2 ^ 120 ∧ ∀ (r : Int) H', 0 ≤ r → r < n → But g H H' → GenAt H' g (b + 10) → Q (.int r) H'
theorem ok__law_random (T : Txt K mg) : FnOk P w K mg base CX0 2 T.f__law_random T.fd__law_random P__law_random (sp__law_random) := by
  have nd : N__law_random.Nodup := sc__law_random.nd
  refine T.F__law_random.ok sc__law_random (fun vs H Q E h => ?_) (fun cdv A outer s H vs Q E hr h => ?_)
  · obtain ⟨a, n, b, rfl, _⟩ := h
    rfl
  · obtain ⟨g, n, b, rfl, ⟨x, y, z, h0, hx, hy, hz⟩, hb, hn0, hn1, k⟩ := h
    refine ⟨_, (pss_cons (ps_if (pt_cmpR op_gt (pe_ix ix_list (pv 0) pe_int (fun _ _ => rfl)) pe_int (nomark _)) (pss_cons (ps_set (i := 2) nd rfl (Or.inl rfl) (pe_op op_mod (pe_callTy call_int1 (by rfl) T.z_int (by decide +kernel) (pa_cons (pe_ix ix_list (pv 0) pe_int (fun _ _ => rfl)) pa_nil)) (pv 1)))
      (pss_cons (ps_asg (pe_op op_fdivW (pe_ix ix_list (pv 0) pe_int (fun _ _ => rfl)) (pv 1)) (pg_sub (pv 0) pe_int set_list))
      (pss_one (ps_ret (pv 2))))) pss_nil)
      (pss_cons (ps_set (i := 2) nd rfl (Or.inl rfl) pe_int)
      (pss_cons (ps_for PassesOwn.never rfl (pi_range1 rfl T.z_range (pa_cons (pe_op op_add pe_int (pe_op op_fdivW (pe_bits (pv 1)) pe_int)) pa_nil)) (pg_name (i := 3) nd rfl (Or.inl rfl))
      (pss_cons (ps_asg (pe_op op_add (pe_ix ix_list (pv 0) pe_int (fun _ _ => rfl)) pe_int) (pg_sub (pv 0) pe_int set_list))
      (pss_one (ps_set (i := 2) nd rfl (Or.inl rfl) (pe_op op_add (pe_op op_mul (pv 2) pe_int) (pe_call (ok__law_hash T) (hr.mono (by decide)) rfl T.m__law_hash T.F__law_hash.kp T.b__law_hash .nil pass0 (pa_cons (pe_ix ix_list (pv 0) pe_int (fun _ _ => rfl)) (pa_cons (pe_ix ix_list (pv 0) pe_int (fun _ _ => rfl)) pa_nil))))))))
      (pss_one (ps_ret (pe_op op_mod (pe_callTy call_int1 (by rfl) T.z_int (by decide +kernel) (pa_cons (pv 2) pa_nil)) (pv 1))))))), ?_⟩
    have rd : ∀ {H' : Hp} {x y z : Int}, H' g = some (.lst [.int x, .int y, .int z]) → SqL K H' g [.int x, .int y, .int z] := fun q => SqL.of q
    refine ⟨_, rfl, g, _, _, V.int x, rfl, rfl, rd h0, rfl, _, _, rfl, rfl, _, rfl, ?_⟩
    refine ite2 (fun q => ?_) (fun q => ?_)
    · refine ⟨_, rfl, g, _, _, V.int x, rfl, rfl, rd h0, rfl, .inl ⟨_, rfl, _, rfl, _, _, rfl, rfl, hn0, ?_⟩⟩
      refine ⟨_, rfl, g, _, _, V.int x, rfl, rfl, rd h0, rfl, _, rfl, _, _, rfl, rfl, wide_div hn0 hn1 (by decide) (by decide), ?_⟩
      refine ⟨_, rfl, g, _, _, 0, rfl, rfl, h0, rfl, _, rfl, ?_⟩
      refine k _ _ (Int.emod_nonneg _ (by omega)) (Int.emod_lt_of_pos _ hn0) But.upd ⟨x / n, y, z, upd_same, ⟨Int.ediv_nonneg hx.1 (by omega), ?_⟩, hy, hz.1, by omega⟩
      exact wide_le (Int.ediv_nonneg hx.1 (by omega)) (Int.ediv_le_self _ hx.1) hx.2
    · have hbits : Builtin.Int.intBits n ≤ 121 := by
        have := PySem.Flt.log2_lt_of (by decide) hn1
        unfold Builtin.Int.intBits
        split <;> omega
      refine ⟨_, rfl, _, rfl, _, _, rfl, rfl, wide_div (b := 5) (by decide) (by decide) (by decide) (by decide), _, _, rfl, rfl, ?_⟩
      refine ⟨_, rfl, by omega, by omega, ?_⟩
      refine for_range (lo := 0) (n := ((1 : Int) + ((Builtin.Int.intBits n : Nat) : Int) / 30).toNat) (fun i σ H' => ∃ (d w : Int) (v : Option V), σ = [some (.ref g), some (.int n), some (.int d), v] ∧ But g H H' ∧ H' g = some (.lst [.int x, .int y, .int w]) ∧ 0 ≤ w ∧ w ≤ z + i) ⟨0, z, none, rfl, But.refl _ _, h0, hz.1, by omega⟩ ?_ ?_
      · rintro i σ H1 hi ⟨d, w, v, rfl, b1, g1, w0, w1⟩
        refine ⟨_, rfl, g, _, _, V.int w, rfl, rfl, rd g1, rfl, _, _, rfl, rfl, ?_⟩
        refine ⟨_, rfl, g, _, _, 2, rfl, rfl, g1, rfl, ?_⟩
        have g2 : upd H1 g (.lst [.int x, .int y, .int (w + 1)]) g = some (.lst [.int x, .int y, .int (w + 1)]) := upd_same
        refine ⟨_, rfl, _, _, rfl, rfl, .inr ⟨by decide, by decide⟩, _, rfl, g, _, _, V.int y, rfl, rfl, rd g2, rfl, _, rfl, g, _, _, V.int (w + 1), rfl, rfl, rd g2, rfl, y, w + 1, rfl, hy, ⟨by omega, by omega⟩, fun r r0 r1 => ?_⟩
        refine ⟨_, _, rfl, rfl, ?_⟩
        exact ⟨_, w + 1, _, rfl, b1.trans But.upd, g2, by omega, by omega⟩
      · rintro σ H1 ⟨d, w, v, rfl, b1, g1, w0, w1⟩
        refine ⟨_, rfl, .inl ⟨_, rfl, _, rfl, _, _, rfl, rfl, hn0, ?_⟩⟩
        exact k _ _ (Int.emod_nonneg _ (by omega)) (Int.emod_lt_of_pos _ hn0) b1 ⟨x, y, w, g1, hx, hy, w0, by omega⟩
/-! _law_generator -/
def sp__law_generator (K : PySem.W.Frag) : Sp := fun vs H Q _ => ∃ (a : Addr) (ns : List Int) (j : Nat), vs = [.ref a, .int (j : Int)] ∧ SqL K H a (ns.map V.int) ∧ j ≤ 1000 ∧ ∀ (g : Addr) H', H g = none → Same H H' → GenAt H' g (1000 * j) → Q (.ref g) H'
theorem ok__law_generator (T : Txt K mg) : FnOk P w K mg base CX0 2 T.f__law_generator T.fd__law_generator P__law_generator (sp__law_generator K) := by
  have nd : N__law_generator.Nodup := sc__law_generator.nd
  refine T.F__law_generator.ok sc__law_generator (fun vs H Q E h => ?_) (fun cdv A outer s H vs Q E hr h => ?_)
  · obtain ⟨a, ns, j, rfl, _⟩ := h
    rfl
  · obtain ⟨a, ns, j, rfl, hS, hj, k⟩ := h
    refine ⟨_, (pss_cons (ps_set (i := 2) nd rfl (Or.inl rfl) (pe_call (ok__law_cell T) (hr.mono (by decide)) rfl T.m__law_cell T.F__law_cell.kp T.b__law_cell .nil pass0 (pa_cons (pv 0) (pa_cons (pv 1) pa_nil))))
      (pss_one (ps_ret (pe_lst (pa_cons (pe_op op_mod (pe_callTy call_int1 (by rfl) T.z_int (by decide +kernel) (pa_cons (pe_callB (call_max2 rfl) (by rfl) T.z_max (by decide +kernel) (pa_cons (pe_op op_sub (pv 2) (pe_op op_powW pe_int pe_int)) (pa_cons pe_int pa_nil))) pa_nil)) (pe_op op_powW (pe_op op_powW pe_int pe_int) pe_int)) (pa_cons (pe_op op_mod (pe_callTy call_int1 (by rfl) T.z_int (by decide +kernel) (pa_cons (pv 2) pa_nil)) pe_int) (pa_cons (pe_op op_mul pe_int (pv 1)) pa_nil))))))), ?_⟩
    refine ⟨_, rfl, _, rfl, a, ns, j, rfl, hS, fun r H1 s1 => ?_⟩
    refine ⟨_, rfl, _, _, rfl, rfl, ⟨by decide, by decide +kernel⟩, _, _, rfl, rfl, _, _, rfl, .inl ⟨_, rfl, ?_⟩⟩
    refine ⟨_, _, rfl, rfl, ⟨by decide, by decide +kernel⟩, _, _, rfl, rfl, ⟨by decide, by decide +kernel⟩, _, _, rfl, rfl, (by show (0 : Int) < (10 ^ (60 : Int).toNat) ^ (10 : Int).toNat; decide +kernel), ?_⟩
    refine ⟨_, rfl, .inl ⟨_, rfl, _, _, rfl, rfl, (by show (0 : Int) < 2147483647; decide), _, rfl, _, _, rfl, rfl, .inl ⟨by decide, by decide⟩, (by show 3 ≤ sizeLine; decide), fun p hp => ?_⟩⟩
    refine k p _ (s1.free hp) (s1.trans (Same.upd hp)) ⟨_, _, _, upd_same, seed_ok _, ⟨Int.emod_nonneg _ (by decide), Int.emod_lt_of_pos _ (by decide)⟩, by omega, by omega⟩
/-! check_joints -/
def sp_check_joints : Sp := fun vs H Q _ => ∃ l : List Nat, vs = [.str (S l)] ∧ l.length ≤ 50000 ∧ jointsB l = true ∧ ∀ H', Same H H' → Q .non H'
theorem ok_check_joints (T : Txt K mg) : FnOk P w K mg base CX0 3 T.f_check_joints T.fd_check_joints P_check_joints (sp_check_joints) := by
  have nd : N_check_joints.Nodup := sc_check_joints.nd
  refine T.F_check_joints.ok sc_check_joints (fun vs H Q E h => ?_) (fun cdv A outer s H vs Q E hr h => ?_)
  · obtain ⟨l, rfl, _⟩ := h
    rfl
  · obtain ⟨l, rfl, hl, hw, k⟩ := h
    refine ⟨_, (pss_one (ps_if (pt_not (pt_val (pe_call (ok_is_joints T) (hr.mono (by decide)) rfl T.m_is_joints T.F_is_joints.kp T.b_is_joints .nil pass0 (pa_cons (pv 0) pa_nil)))) pss_never pss_nil)), ?_⟩
    refine ⟨_, rfl, l, rfl, hl, fun H1 s1 => ⟨_, rfl, ?_⟩⟩
    rw [hw]
    exact iteF (k _ s1)
/-! _law_word -/
def sp__law_word : Sp := fun vs H Q _ => ∃ (g : Addr) (l : List Nat) (n b : Nat), vs = [.ref g, .str (S l), .int (n : Int)] ∧ GenAt H g b ∧ b + 10 * n ≤ 900000000 ∧ 0 < l.length ∧ l.length ≤ 50000 ∧ n ≤ 50000 ∧ ∀ (ws : List Nat) H', ws.length = n → (∀ c ∈ ws, c ∈ l) → But g H H' → GenAt H' g (b + 10 * n) → Q (.str (S ws)) H'
theorem ok__law_word (T : Txt K mg) : FnOk P w K mg base CX0 3 T.f__law_word T.fd__law_word P__law_word (sp__law_word) := by
  have nd : N__law_word.Nodup := sc__law_word.nd
  refine T.F__law_word.ok sc__law_word (fun vs H Q E h => ?_) (fun cdv A outer s H vs Q E hr h => ?_)
  · obtain ⟨g, l, n, b, rfl, _⟩ := h
    rfl
  · obtain ⟨g, l, n, b, rfl, G, hb, hl0, hl, hn, k⟩ := h
    refine ⟨_, (pss_one (ps_ret (pe_join pe_str (pe_lc (own := [("_law_turn", 3)]) (hc := rfl) (hN := nd) (pi_range1 rfl T.z_range (pa_cons (pv 2) pa_nil)) (blkOk_by (N := N__law_word) (sc := defScope s__law_word) (by decide +kernel)) (fun _ _ _ _ _ => by exact (pg_name (i := 3) nd rfl (Or.inl rfl))) (fun _ _ _ _ _ => by exact pts_nil) (fun _ _ _ _ _ => by exact (pe_item_str (pv 1) (pe_call (ok__law_random T) (hr.mono (by decide)) rfl T.m__law_random T.F__law_random.kp T.b__law_random .nil pass0 (pa_cons (pv 0) (pa_cons (pe_callB (call_lenK K) (by rfl) T.z_len (by decide +kernel) (pa_cons (pv 1) pa_nil)) pa_nil))) (fun _ _ => rfl))))))), ?_⟩
    refine ⟨⟨_, rfl⟩, _, rfl, _, rfl, by omega, by omega, fun D hD => ?_⟩
    rw [Int.toNat_natCast]
    refine lc_it walk_range (fun i H' => ∃ ws : List Nat, ws.length = i ∧ (∀ c ∈ ws, c ∈ l) ∧ But g H H' ∧ GenAt H' g (b + 10 * i) ∧ H' D = some (.lst ((ws.map fun c => S [c]).map V.str)))
      ⟨[], rfl, fun c h => (nomatch h), But.same (Same.upd hD), G.new hD, upd_same⟩ (fun _ _ _ _ => trivial) ?_ ?_
    · rintro i x H1 H2 hi ⟨ws, hlen, hm, b1, G1, d1⟩ ⟨rfl, rfl⟩
      have nD : D ≠ g := G.ne hD
      refine ⟨rfl, _, rfl, _, rfl, _, rfl, _, l.length, rfl, ⟨by rw [len_S]; exact small_le (by omega), by rw [len_S]⟩, ?_⟩
      refine ⟨g, _, b + 10 * i, rfl, G1, by omega, by omega, Nat.lt_of_le_of_lt (by omega : (l.length : Int).natAbs ≤ 50000) (by decide), fun r H3 r0 r1 b3 G3 => ?_⟩
      have hr : r.toNat < l.length := by omega
      refine ⟨S l, r, l[r.toNat], rfl, rfl, r0, by omega, by rw [len_S]; omega, by rw [at_S]; exact List.getElem?_eq_getElem hr, ?_⟩
      refine ⟨_, b3 _ _ nD d1, ?_, ws ++ [l[r.toNat]], by simp [hlen], ?_, ?_, ?_, ?_⟩
      · rw [List.length_map, List.length_map, hlen]; exact small_line (by omega)
      · intro c hc
        rcases List.mem_append.mp hc with hc | hc
        · exact hm c hc
        · rw [List.mem_singleton.mp hc]; exact List.getElem_mem hr
      · exact fun c o ne e => by rw [upd_ne (ne_of_none e hD)]; exact (b1.trans b3) c o ne e
      · obtain ⟨x, y, z, g0, hx⟩ := G3
        exact ⟨x, y, z, by rw [upd_ne nD.symm]; exact g0, hx.1, hx.2.1, by omega, by omega⟩
      · rw [upd_same]; simp
    · rintro H1 ⟨ws, hlen, hm, b1, G1, d1⟩
      refine ⟨_, D, ws.map fun c => S [c], rfl, rfl, .inl (SqL.of d1), ?_, ?_⟩
      · exact join_bound (by omega)
      · rw [join_signs]
        exact k ws H1 hlen hm b1 G1
/-! _law_letters -/
def sp__law_letters : Sp := fun vs H Q _ => ∃ (g : Addr) (a m b : Nat), vs = [.ref g, .int (a : Int), .int (m : Int)] ∧ GenAt H g b ∧ b ≤ 800000000 ∧ a ≤ m ∧ m ≤ 8 ∧ ∀ (l : List Nat) H', a ≤ l.length → l.length ≤ m → l.Pairwise (· < ·) → (∀ c ∈ l, 97 ≤ c ∧ c ≤ 122) → But g H H' → GenAt H' g (b + 100) → Q (.str (S l)) H'
theorem ok__law_letters (T : Txt K mg) : FnOk P w K mg base CX0 3 T.f__law_letters T.fd__law_letters P__law_letters (sp__law_letters) := by
  have nd : N__law_letters.Nodup := sc__law_letters.nd
  refine T.F__law_letters.ok sc__law_letters (fun vs H Q E h => ?_) (fun cdv A outer s H vs Q E hr h => ?_)
  · obtain ⟨g, a, m, b, rfl, _⟩ := h
    rfl
  · obtain ⟨g, a, m, b, rfl, G, hb, ham, hm, k⟩ := h
    refine ⟨_, (pss_cons (ps_par3 (i := 3) (j := 4) (l := 5) rfl nd rfl rfl rfl (by decide) (by decide) (by decide) rfl rfl rfl (pa_cons (pe_op op_add (pv 1) (pe_call (ok__law_random T) (hr.mono (by decide)) rfl T.m__law_random T.F__law_random.kp T.b__law_random .nil pass0 (pa_cons (pv 0) (pa_cons (pe_op op_add (pe_op op_sub (pv 2) (pv 1)) pe_int) pa_nil)))) (pa_cons pe_str (pa_cons (pe_op op_sub pe_int pe_int) pa_nil))) (by rfl))
      (pss_cons (ps_for PassesOwn.never rfl (pi_range1 rfl T.z_range (pa_cons (pv 3) pa_nil)) (pg_name (i := 6) nd rfl (Or.inl rfl))
      (pss_cons (ps_set (i := 5) nd rfl (Or.inl rfl) (pe_op op_add (pe_op op_add (pv 5) pe_int) (pe_call (ok__law_random T) (hr.mono (by decide)) rfl T.m__law_random T.F__law_random.kp T.b__law_random .nil pass0 (pa_cons (pv 0) (pa_cons pe_int pa_nil)))))
      (pss_one (ps_set (i := 4) nd rfl (Or.inl rfl) (pe_op op_add_str (pv 4) (pe_item_str pe_str (pv 5) (fun _ _ => rfl)))))))
      (pss_one (ps_ret (pv 4))))), ?_⟩
    refine ⟨_, rfl, _, rfl, _, rfl, _, rfl, _, _, rfl, rfl, _, _, rfl, rfl, g, _, b, rfl, G, by omega, by omega, Nat.lt_of_le_of_lt (by omega : ((m : Int) - (a : Int) + 1).natAbs ≤ 9) (by decide), fun r H1 r0 r1 b1 G1 => ?_⟩
    refine ⟨_, _, rfl, rfl, _, _, rfl, rfl, _, _, _, rfl, ?_⟩
    refine ⟨_, rfl, _, rfl, by omega, by omega, ?_⟩
    refine for_range (lo := 0) (n := ((a : Int) + r).toNat) (fun i σ H' => ∃ (l : List Nat) (st : Int) (v : Option V), σ = [some (.ref g), some (.int (a : Int)), some (.int (m : Int)), some (.int ((a : Int) + r)), some (.str (S l)), some (.int st), v] ∧ l.length = i ∧ -1 ≤ st ∧ st ≤ 3 * (i : Int) - 1 ∧ l.Pairwise (· < ·) ∧ (∀ c ∈ l, 97 ≤ c ∧ (c : Int) ≤ 97 + st) ∧ But g H H' ∧ GenAt H' g (b + 10 + 10 * i))
      ⟨[], -1, none, rfl, rfl, by omega, by omega, List.Pairwise.nil, fun c h => (nomatch h), b1, G1⟩ ?_ ?_
    · rintro i σ H2 hi ⟨l, st, v, rfl, hl, s0, s1, hp, hc, b2, G2⟩
      refine ⟨_, rfl, _, _, rfl, rfl, _, rfl, g, 3, b + 10 + 10 * i, rfl, G2, by omega, by decide, by decide, fun q H3 q0 q1 b3 G3 => ?_⟩
      refine ⟨_, _, rfl, rfl, ?_⟩
      have hx : (st + 1 + q).toNat < 26 := by omega
      refine ⟨_, rfl, _, rfl, _, _, 97 + (st + 1 + q).toNat, rfl, rfl, by omega, by omega, by rw [alpha_len]; omega, alpha_at _ hx, ?_⟩
      refine ⟨_, S [97 + (st + 1 + q).toNat], rfl, rfl, ?_, ?_⟩
      · rw [len_S, len_S]; exact small_le (by simp; omega)
      rw [SX.S_cat]
      refine ⟨l ++ [97 + (st + 1 + q).toNat], st + 1 + q, _, rfl, by simp [hl], by omega, by omega, ?_, ?_, b2.trans b3, G3.mono (by omega)⟩
      · refine List.pairwise_append.mpr ⟨hp, List.pairwise_singleton _ _, fun c h d h' => ?_⟩
        rw [List.mem_singleton.mp h']
        have := (hc c h).2
        omega
      · intro c h
        rcases List.mem_append.mp h with h | h
        · have := hc c h
          omega
        · rw [List.mem_singleton.mp h]
          omega
    · rintro σ H2 ⟨l, st, v, rfl, hl, s0, s1, hp, hc, b2, G2⟩
      exact ⟨_, rfl, k l H2 (by omega) (by omega) hp (fun c h => ⟨(hc c h).1, by have := (hc c h).2; omega⟩) b2 (G2.mono (by omega))⟩
/-! _law_joints -/
def sp__law_joints : Sp := fun vs H Q _ => ∃ (g : Addr) (l : List Nat) (b : Nat), vs = [.ref g, .str (S l)] ∧ GenAt H g b ∧ b + 10 * l.length ≤ 900000000 ∧ l.length ≤ 50000 ∧ ∀ (js : List Nat) H', js.Sublist l → But g H H' → GenAt H' g (b + 10 * l.length) → Q (.str (S js)) H'
theorem ok__law_joints (T : Txt K mg) : FnOk P w K mg base CX0 3 T.f__law_joints T.fd__law_joints P__law_joints (sp__law_joints) := by
  have nd : N__law_joints.Nodup := sc__law_joints.nd
  refine T.F__law_joints.ok sc__law_joints (fun vs H Q E h => ?_) (fun cdv A outer s H vs Q E hr h => ?_)
  · obtain ⟨g, l, b, rfl, _⟩ := h
    rfl
  · obtain ⟨g, l, b, rfl, G, hb, hl, k⟩ := h
    refine ⟨_, (pss_one (ps_ret (pe_join pe_str (pe_lc (own := [("_law_letter", 2)]) (hc := rfl) (hN := nd) (pi_str (pv 1)) (blkOk_by (N := N__law_joints) (sc := defScope s__law_joints) (by decide +kernel)) (fun _ _ _ _ _ => by exact (pg_name (i := 2) nd rfl (Or.inl rfl))) (fun _ _ _ _ _ => by exact (pts_one (pt_cmpR op_eq (pe_call (ok__law_random T) (hr.mono (by decide)) rfl T.m__law_random T.F__law_random.kp T.b__law_random .nil pass0 (pa_cons (pv 0) (pa_cons pe_int pa_nil))) pe_int (nomark _)))) (fun _ _ _ _ _ => by exact (pv 2)))))), ?_⟩
    refine ⟨⟨_, rfl⟩, _, rfl, _, rfl, fun D hD => ?_⟩
    refine lc_it walk_str (fun i H' => ∃ js : List Nat, js.Sublist (l.take i) ∧ But g H H' ∧ GenAt H' g (b + 10 * i) ∧ H' D = some (.lst ((js.map fun c => S [c]).map V.str)))
      ⟨[], List.nil_sublist _, But.same (Same.upd hD), G.new hD, upd_same⟩ (fun _ _ _ _ => trivial) ?_ ?_
    · rintro i x H1 H2 hi ⟨js, hs, b1, G1, d1⟩ ⟨rfl, c, hc, rfl⟩
      rw [at_S] at hc
      rw [size_S] at hi
      have nD : D ≠ g := G.ne hD
      refine ⟨rfl, _, rfl, g, _, b + 10 * i, rfl, G1, by omega, by decide, by decide, fun r H3 r0 r1 b3 G3 => ?_⟩
      have hs2 : (l.take i ++ [c]) = l.take (i + 1) := (take_snoc hc).symm
      refine ⟨rfl, _, rfl, ite2 (fun q => ?_) (fun q => ?_)⟩
      · refine ⟨_, rfl, _, b3 _ _ nD d1, ?_, js ++ [c], ?_, ?_, ?_, ?_⟩
        · have := hs.length_le
          rw [List.length_take] at this
          rw [List.length_map, List.length_map]; exact small_line (by omega)
        · rw [← hs2]; exact hs.append (List.Sublist.refl _)
        · exact fun c o ne e => by rw [upd_ne (ne_of_none e hD)]; exact (b1.trans b3) c o ne e
        · obtain ⟨x, y, z, g0, hx⟩ := G3
          exact ⟨x, y, z, by rw [upd_ne nD.symm]; exact g0, hx.1, hx.2.1, by omega, by omega⟩
        · rw [upd_same]; simp
      · exact ⟨js, by rw [← hs2]; exact hs.trans (List.sublist_append_left _ _), b1.trans b3, G3.mono (by omega), b3 _ _ nD d1⟩
    · rintro H1 ⟨js, hs, b1, G1, d1⟩
      rw [size_S, List.take_length] at hs
      rw [size_S] at G1
      refine ⟨_, D, js.map fun c => S [c], rfl, rfl, .inl (SqL.of d1), ?_, ?_⟩
      · have := hs.length_le
        exact join_bound (by omega)
      · rw [join_signs]
        exact k js H1 hs b1 G1
/-! open_places -/
def sp_open_places : Sp := fun vs H Q _ => ∃ (l js : List Nat), vs = [.str (S l), .str (S js)] ∧ l.length ≤ 50000 ∧ wordB l = true ∧ js.length ≤ 50000 ∧ jointsB js = true ∧ ∀ p H', H p = none → Same H H' → H' p = some (.lst ((openL l js).map fun i => .int (i : Nat))) → Q (.ref p) H'
theorem ok_open_places (T : Txt K mg) : FnOk P w K mg base CX0 4 T.f_open_places T.fd_open_places P_open_places (sp_open_places) := by
  have nd : N_open_places.Nodup := sc_open_places.nd
  refine T.F_open_places.ok sc_open_places (fun vs H Q E h => ?_) (fun cdv A outer s H vs Q E hr h => ?_)
  · obtain ⟨l, js, rfl, _⟩ := h
    rfl
  · obtain ⟨l, js, rfl, hl, hw, hjl, hj, k⟩ := h
    refine ⟨_, (pss_cons (ps_expr (pe_call (ok_check_word T) (hr.mono (by decide)) rfl T.m_check_word T.F_check_word.kp T.b_check_word .nil pass0 (pa_cons (pv 0) pa_nil)))
      (pss_cons (ps_expr (pe_call (ok_check_joints T) (hr.mono (by decide)) rfl T.m_check_joints T.F_check_joints.kp T.b_check_joints .nil pass0 (pa_cons (pv 1) pa_nil)))
      (pss_one (ps_ret (pe_lc (own := [("place", 2), ("letter", 3)]) (hc := rfl) (hN := nd) (pi_enumS (by rfl) T.z_enumerate (pa_cons (pv 0) pa_nil)) (blkOk_by (N := N_open_places) (sc := defScope s_open_places) (by decide +kernel)) (fun _ _ _ _ _ => by exact (pg_tupK K (n := 2) rfl (pgs_cons (by exact (pg_name (i := 2) nd rfl (Or.inl rfl))) (pgs_cons (by exact (pg_name (i := 3) nd rfl (Or.inl rfl))) pgs_nil)))) (fun _ _ _ _ _ => by exact (pts_one (pt_cmpR op_in_sign (pv 3) (pv 1) rfl))) (fun _ _ _ _ _ => by exact (pv 2))))))), ?_⟩
    refine ⟨_, rfl, l, rfl, hl, hw, fun H1 s1 => ⟨_, rfl, js, rfl, hjl, hj, fun H2 s2 => ?_⟩⟩
    refine ⟨_, rfl, _, rfl, fun D hD => ?_⟩
    refine lc_it walk_enumS (fun i H' => Same H2 H' ∧ H' D = some (.lst (((openL (l.take i) js)).map fun i => V.int (i : Nat)))) ⟨Same.upd hD, by rw [upd_same]; rfl⟩ (fun _ _ _ _ => trivial) ?_ ?_
    · rintro i x H3 H4 hi ⟨s3, d3⟩ ⟨T1, x1, y1, rfl, hT, rfl, h1, h2⟩
      replace h2 : (l[i]?).map (fun c => V.str ⟨#[c]⟩) = some y1 := by rw [← at_S]; exact h2
      have h1' : V.int (i : Nat) = x1 := Option.some.inj h1
      subst h1'
      obtain ⟨c, hc, rfl⟩ := Option.map_eq_some_iff.mp h2
      have nT : D ≠ T1 := ne_of_none d3 hT
      have ee := openL_snoc js hc
      have hlen := openL_len (l.take i) js
      refine ⟨T1, _, rfl, SqT.of upd_same, rfl, _, _, rfl, _, _, rfl, rfl, rfl, ?_⟩
      refine ⟨_, rfl, _, rfl, c, S js, rfl, rfl, _, rfl, ?_⟩
      refine ite2 (fun z => ?_) (fun z => ?_)
      · rw [if_pos (of_decide_eq_true z)] at ee
        refine ⟨_, rfl, _, by rw [upd_ne nT]; exact d3, ?_, fun b o e => ?_, ?_⟩
        · rw [List.length_map]; rw [List.length_take] at hlen; exact small_line (by omega)
        · rw [upd_ne (ne_of_none e hD)]; exact Same.upd hT _ _ (s3 b o e)
        · rw [upd_same, ee]; simp
      · rw [if_neg (fun q => z (decide_eq_true q))] at ee
        exact ⟨s3.trans (Same.upd hT), by rw [upd_ne nT, d3, ee]; simp⟩
    · rintro H3 ⟨s3, d3⟩
      rw [size_S, List.take_length] at d3
      exact k D H3 (s1.free (s2.free hD)) ((s1.trans s2).trans s3) d3
/-! swapped -/
def sp_swapped : Sp := fun vs H Q _ => ∃ (l js : List Nat) (p c : Nat), vs = [.str (S l), .str (S js), .int (p : Int)] ∧ l.length ≤ 50000 ∧ wordB l = true ∧ js.length ≤ 50000 ∧ jointsB js = true ∧ l[p]? = some c ∧ c ∈ js ∧ ∀ H', Same H H' → Q (.str (S (swapL l p))) H'
theorem ok_swapped (T : Txt K mg) : FnOk P w K mg base CX0 4 T.f_swapped T.fd_swapped P_swapped (sp_swapped) := by
  have nd : N_swapped.Nodup := sc_swapped.nd
  refine T.F_swapped.ok sc_swapped (fun vs H Q E h => ?_) (fun cdv A outer s H vs Q E hr h => ?_)
  · obtain ⟨l, js, p, c, rfl, _⟩ := h
    rfl
  · obtain ⟨l, js, p, c, rfl, hl, hw, hjl, hj, hc, hm, k⟩ := h
    have hp : p < l.length := (List.getElem?_eq_some_iff.mp hc).1
    refine ⟨_, (pss_cons (ps_expr (pe_call (ok_check_word T) (hr.mono (by decide)) rfl T.m_check_word T.F_check_word.kp T.b_check_word .nil pass0 (pa_cons (pv 0) pa_nil)))
      (pss_cons (ps_expr (pe_call (ok_check_joints T) (hr.mono (by decide)) rfl T.m_check_joints T.F_check_joints.kp T.b_check_joints .nil pass0 (pa_cons (pv 1) pa_nil)))
      (pss_cons (ps_if (pt_not (pt_val (pe_call (ok__is_open T) (hr.mono (by decide)) rfl T.m__is_open T.F__is_open.kp T.b__is_open .nil pass0 (pa_cons (pv 0) (pa_cons (pv 1) (pa_cons (pv 2) pa_nil)))))) pss_never pss_nil)
      (pss_one (ps_ret (pe_call (ok_sides_changed T) (hr.mono (by decide)) rfl T.m_sides_changed T.F_sides_changed.kp T.b_sides_changed .nil pass0 (pa_cons (pv 0) (pa_cons (pv 2) pa_nil)))))))), ?_⟩
    refine ⟨_, rfl, l, rfl, hl, hw, fun H1 s1 => ⟨_, rfl, js, rfl, hjl, hj, fun H2 s2 => ?_⟩⟩
    refine ⟨_, rfl, _, rfl, _, rfl, l, js, p, c, rfl, hl, hc, _, rfl, ?_⟩
    rw [decide_eq_true hm]
    refine iteF ?_
    exact ⟨_, rfl, _, rfl, l, p, rfl, hl, hp, k _ (s1.trans s2)⟩
/-! _law_right -/
def sp__law_right : Sp := fun vs H Q _ => ∃ (g : Addr) (b : Nat), vs = [.ref g] ∧ GenAt H g b ∧ b ≤ 100000 ∧ ∀ H', But g H H' → Q (.bl true) H'
theorem ok__law_right (T : Txt K mg) : FnOk P w K mg base CX0 5 T.f__law_right T.fd__law_right P__law_right (sp__law_right) := by
  have nd : N__law_right.Nodup := sc__law_right.nd
  refine T.F__law_right.ok sc__law_right (fun vs H Q E h => ?_) (fun cdv A outer s H vs Q E hr h => ?_)
  · obtain ⟨g, b, rfl, _⟩ := h
    rfl
  · obtain ⟨g, b, rfl, G, hb, k⟩ := h
    refine ⟨_, (pss_cons (ps_set (i := 1) nd rfl (Or.inl rfl) (pe_call (ok__law_letters T) (hr.mono (by decide)) rfl T.m__law_letters T.F__law_letters.kp T.b__law_letters .nil pass0 (pa_cons (pv 0) (pa_cons pe_int (pa_cons pe_int pa_nil)))))
      (pss_cons (ps_set (i := 2) nd rfl (Or.inr rfl) (pe_call (ok__law_joints T) (hr.mono (by decide)) rfl T.m__law_joints T.F__law_joints.kp T.b__law_joints .nil pass0 (pa_cons (pv 0) (pa_cons (pv 1) pa_nil))))
      (pss_cons (ps_set (i := 3) nd rfl (Or.inl rfl) (pe_lst (pa_cons (pe_call (ok__law_random T) (hr.mono (by decide)) rfl T.m__law_random T.F__law_random.kp T.b__law_random .nil pass0 (pa_cons (pv 0) (pa_cons pe_int pa_nil))) (pa_cons (pe_call (ok__law_random T) (hr.mono (by decide)) rfl T.m__law_random T.F__law_random.kp T.b__law_random .nil pass0 (pa_cons (pv 0) (pa_cons pe_int pa_nil))) (pa_cons (pe_call (ok__law_random T) (hr.mono (by decide)) rfl T.m__law_random T.F__law_random.kp T.b__law_random .nil pass0 (pa_cons (pv 0) (pa_cons pe_int pa_nil))) pa_nil)))))
      (pss_cons (ps_set (i := 4) nd rfl (Or.inl rfl) (pe_ix ix_list (pv 3) (pe_call (ok__law_random T) (hr.mono (by decide)) rfl T.m__law_random T.F__law_random.kp T.b__law_random .nil pass0 (pa_cons (pv 0) (pa_cons pe_int pa_nil))) (fun _ _ => rfl)))
      (pss_cons (ps_set (i := 5) nd rfl (Or.inr rfl) (pe_call (ok__law_word T) (hr.mono (by decide)) rfl T.m__law_word T.F__law_word.kp T.b__law_word .nil pass0 (pa_cons (pv 0) (pa_cons (pv 1) (pa_cons (pv 4) pa_nil)))))
      (pss_cons (ps_setLc (i := 6) (own := [("_law_place", 8)]) rfl nd rfl rfl (sw_true rfl rfl rfl (by decide +kernel)) (pi_range1 rfl T.z_range (pa_cons (pv 4) pa_nil)) (blkOk_by (N := N__law_right) (sc := defScope s__law_right) (by decide +kernel)) (fun _ _ _ _ _ => by exact (pg_name (i := 8) nd rfl (Or.inl rfl))) (fun _ _ _ _ _ => by exact (pts_one (pt_cmpR op_in_sign (pe_item_str (pv 5) (pv 8) (fun _ _ => rfl)) (pv 2) rfl))) (fun _ _ _ _ _ => by exact (pv 8)))
      (pss_cons (ps_set (i := 7) nd rfl (Or.inl rfl) (pe_call (ok_open_places T) (hr.mono (by decide)) rfl T.m_open_places T.F_open_places.kp T.b_open_places .nil pass0 (pa_cons (pv 5) (pa_cons (pv 2) pa_nil))))
      (pss_cons (ps_if (PW.pt (pw_or (pt_cmpR (op_neD hr.units) (pv 7) (pv 6) (nomark _)) (pw_or1 (pt_cmpR (op_neD hr.units) (pe_callN0 (ok_open_places T) (hr.mono (by decide)) rfl T.m_open_places T.F_open_places.kp (kb_open_places__0_joints_word T) pass0 (pk_cons (pv 2) (pk_cons (pv 5) pk_nil))) (pv 6) (nomark _))))) (pss_one (ps_ret pe_bl)) pss_nil)
      (pss_cons (ps_expr (pe_bm PySem.F.plainAttrs_list PySem.F.slot_list_append PySem.F.type_list_append mt_append (pv 7) (pa_cons pe_non pa_nil)))
      (pss_cons (ps_if (PW.pt (pw_or (pt_cmpR (op_neD hr.units) (pe_call (ok_open_places T) (hr.mono (by decide)) rfl T.m_open_places T.F_open_places.kp T.b_open_places .nil pass0 (pa_cons (pv 5) (pa_cons (pv 2) pa_nil))) (pv 6) (nomark _)) (pw_or1 (pt_cmpR (op_neD hr.units) (pe_call (ok_open_places T) (hr.mono (by decide)) rfl T.m_open_places T.F_open_places.kp T.b_open_places .nil pass0 (pa_cons (pv 5) (pa_cons pe_str pa_nil))) (pe_lst pa_nil) (nomark _))))) (pss_one (ps_ret pe_bl)) pss_nil)
      (pss_cons (ps_for PassesOwn.never rfl (pi_list (pe_ifExp (pt_cmpR op_gt (pe_callB call_len_seq (by rfl) T.z_len (by decide +kernel) (pa_cons (pv 6) pa_nil)) pe_int (nomark _)) (pe_op op_cat (pe_slice sl_list (pv 6) po_none (po_some pe_int)) (pe_slice sl_list (pv 6) (po_some (pe_op op_sub (pe_callB call_len_seq (by rfl) T.z_len (by decide +kernel) (pa_cons (pv 6) pa_nil)) pe_int)) po_none)) (pv 6))) (pg_name (i := 8) nd rfl (Or.inl rfl))
      (pss_cons (ps_set (i := 7) nd rfl (Or.inl rfl) (pe_call (ok_swapped T) (hr.mono (by decide)) rfl T.m_swapped T.F_swapped.kp T.b_swapped .nil pass0 (pa_cons (pv 5) (pa_cons (pv 2) (pa_cons (pv 8) pa_nil)))))
      (pss_cons (ps_if (PW.pt (pw_or (pt_cmpR op_ne (pv 7) (pe_call (ok__law_swapped T) (hr.mono (by decide)) rfl T.m__law_swapped T.F__law_swapped.kp T.b__law_swapped .nil pass0 (pa_cons (pv 5) (pa_cons (pv 8) pa_nil))) (nomark _)) (pw_or1 (pt_cmpR op_ne (pe_callN0 (ok_swapped T) (hr.mono (by decide)) rfl T.m_swapped T.F_swapped.kp (kb_swapped__0_place_joints_word T) pass0 (pk_cons (pv 8) (pk_cons (pv 2) (pk_cons (pv 5) pk_nil)))) (pv 7) (nomark _))))) (pss_one (ps_ret pe_bl)) pss_nil)
      (pss_cons (ps_if (PW.pt (pw_or (pt_cmpR op_ne (pv 7) (pe_call (ok__law_jumped T) (hr.mono (by decide)) rfl T.m__law_jumped T.F__law_jumped.kp T.b__law_jumped .nil pass0 (pa_cons (pv 5) (pa_cons (pv 8) pa_nil))) (nomark _)) (pw_or1 (pt_cmpR op_ne (pe_call (ok_swapped T) (hr.mono (by decide)) rfl T.m_swapped T.F_swapped.kp T.b_swapped .nil pass0 (pa_cons (pv 7) (pa_cons (pv 2) (pa_cons (pe_op op_sub (pe_op op_sub (pv 4) pe_int) (pv 8)) pa_nil)))) (pv 5) (nomark _))))) (pss_one (ps_ret pe_bl)) pss_nil)
      (pss_one (ps_if (pt_cmpR op_ne (pe_call (ok_swapped T) (hr.mono (by decide)) rfl T.m_swapped T.F_swapped.kp T.b_swapped .nil pass0 (pa_cons (pv 5) (pa_cons (pe_item_str (pv 5) (pv 8) (fun _ _ => rfl)) (pa_cons (pv 8) pa_nil)))) (pv 7) (nomark _)) (pss_one (ps_ret pe_bl)) pss_nil))))))
      (pss_one (ps_ret pe_bl))))))))))))), ?_⟩
    refine ⟨_, rfl, g, 1, 6, b, rfl, G, by omega, by omega, by omega, fun l H1 l1 l2 hp hc b1 G1 => ?_⟩
    refine ⟨_, rfl, _, rfl, g, l, b + 100, rfl, G1, by omega, by omega, fun js H2 hs b2 G2 => ?_⟩
    have hb2 : b + 100 + 10 * l.length ≤ 101000 := by omega
    generalize b + 100 + 10 * l.length = c2 at G2 hb2
    refine ⟨_, rfl, g, 8, c2, rfl, G2, by omega, by decide, by decide, fun r1 H3 p1 q1 b3 G3 => ?_⟩
    refine ⟨_, rfl, g, 40, c2 + 10, rfl, G3, by omega, by decide, by decide, fun r2 H4 p2 q2 b4 G4 => ?_⟩
    refine ⟨_, rfl, g, 301, c2 + 10 + 10, rfl, G4, by omega, by decide, by decide, fun r3 H5 p3 q3 b5 G5 => ?_⟩
    refine ⟨(by show 3 ≤ sizeLine; decide), fun p hp5 => ?_⟩
    have np : p ≠ g := G5.ne hp5
    refine ⟨_, rfl, _, rfl, g, 3, c2 + 10 + 10 + 10, rfl, G5.new hp5, by omega, by decide, by decide, fun r4 H6 p4 q4 b6 G6 => ?_⟩
    obtain ⟨n, hn, hn300⟩ := pick3 (m := 300) p4 q4 ⟨p1, by omega⟩ ⟨p2, by omega⟩ ⟨p3, by omega⟩
    refine ⟨p, _, _, _, rfl, rfl, SqL.of (b6 _ _ np upd_same), hn, ?_⟩
    refine ⟨_, rfl, _, rfl, _, rfl, g, l, n, c2 + 10 + 10 + 10 + 10, rfl, G6, by omega, by omega, by omega, by omega, fun ws H7 hlen hm b7 G7 => ?_⟩
    have hw : wordB ws = true := wordB_of fun c h => hc c (hm c h)
    have hj : jointsB js = true := jointsB_of (hp.sublist hs) fun c h => hc c (hs.subset h)
    have hjl : js.length ≤ 50000 := by have := hs.length_le; omega
    have hwl : ws.length ≤ 50000 := by omega
    have hmu : ∀ c ∈ ws, 97 ≤ c ∧ c ≤ 122 := fun c h => wordB_mem hw h
    have B7 : But g H H7 := b1.trans (b2.trans (b3.trans (b4.trans (b5.trans ((But.same (Same.upd hp5)).trans (b6.trans b7))))))
    -- the places due
    refine ⟨_, rfl, _, rfl, by omega, by omega, fun D hD => ?_⟩
    rw [Int.toNat_natCast]
    refine lc_it walk_range (fun i H' => Same H7 H' ∧ H' D = some (.lst (placesV (openL (ws.take i) js)))) ⟨Same.upd hD, upd_same⟩ (fun _ _ _ _ => trivial) ?_ ?_
    · rintro i x H8 H9 hi ⟨s8, d8⟩ ⟨rfl, rfl⟩
      have hi' : i < ws.length := by omega
      have hci : ws[i]? = some ws[i] := List.getElem?_eq_getElem hi'
      have ee := openL_snoc js hci
      have hol := openL_len (ws.take i) js
      refine ⟨rfl, _, rfl, _, rfl, S ws, _, ws[i], rfl, rfl, by omega, by omega, by rw [len_S]; omega, by rw [at_S, show ((0 : Int) + (i : Nat)).toNat = i by omega]; exact hci, ?_⟩
      refine ⟨_, rfl, _, S js, rfl, rfl, _, rfl, ite2 (fun z => ?_) (fun z => ?_)⟩
      · rw [if_pos (of_decide_eq_true z)] at ee
        refine ⟨_, rfl, _, d8, ?_, fun b o e => ?_, ?_⟩
        · rw [List.length_map]; rw [List.length_take] at hol; exact small_line (by omega)
        · rw [upd_ne (ne_of_none e hD)]; exact s8 b o e
        · rw [upd_same, ee]; simp [placesV]
      · rw [if_neg (fun q => z (decide_eq_true q))] at ee
        exact ⟨s8, by rw [d8, ee]; simp [placesV]⟩
    rintro H8 ⟨s8, d8⟩
    rw [← hlen, List.take_length] at d8
    -- told
    refine ⟨_, rfl, _, rfl, ws, js, rfl, hwl, hw, hjl, hj, fun t H9 ht s9 d9 => ?_⟩
    have nDt : D ≠ t := ne_of_none d8 ht
    refine ⟨_, rfl, _, rfl, ne_places (SqL.of d9) (SqL.of (s9 _ _ d8)) ⟨_, rfl, iteF ?_⟩⟩
    refine ⟨_, rfl, _, rfl, rfl, rfl, ws, js, rfl, hwl, hw, hjl, hj, fun t2 H10 ht2 s10 d10 => ?_⟩
    refine ⟨_, rfl, ne_places (SqL.of d10) (SqL.of (s10 _ _ (s9 _ _ d8))) ⟨_, rfl, iteF ?_⟩⟩
    -- told.append(None)
    have hol := openL_len ws js
    refine ⟨_, rfl, .inl ⟨rfl, _, SqL.of (s10 _ _ d9)⟩, t, _, _, rfl, rfl, s10 _ _ d9, (by rw [List.length_map]; exact small_line (by omega)), ?_⟩
    have d11 : (upd H10 t (.lst (placesV (openL ws js) ++ [V.non]))) D = some (.lst (placesV (openL ws js))) := by rw [upd_ne nDt]; exact s10 _ _ (s9 _ _ d8)
    have B11 : But g H (upd H10 t (.lst (placesV (openL ws js) ++ [V.non]))) := fun a o ne e => by
      have e8 := s9 _ _ (s8 _ _ (B7 a o ne e))
      have nt : a ≠ t := ne_of_none (s8 _ _ (B7 a o ne e)) ht
      rw [upd_ne nt]
      exact s10 _ _ e8
    generalize upd H10 t (.lst (placesV (openL ws js) ++ [V.non])) = H11 at d11 B11
    refine ⟨_, rfl, _, rfl, ws, js, rfl, hwl, hw, hjl, hj, fun t3 H12 ht3 s12 d12 => ?_⟩
    refine ⟨_, rfl, ne_places (SqL.of d12) (SqL.of (s12 _ _ d11)) ⟨_, rfl, iteF ?_⟩⟩
    refine ⟨_, rfl, ws, [], rfl, hwl, hw, by decide, rfl, fun t4 H13 ht4 s13 d13 => ?_⟩
    rw [openL_nil] at d13
    refine ⟨(by show 0 ≤ sizeLine; decide), fun p5 hp13 => ?_⟩
    refine ne_places (ns := []) (SqL.of (Same.upd hp13 _ _ d13)) (SqL.of upd_same) ⟨_, rfl, iteF ?_⟩
    have d14 := Same.upd (o := HO.lst []) hp13 _ _ (s13 _ _ (s12 _ _ d11))
    have B14 : But g H (upd H13 p5 (.lst [])) := B11.trans ((But.same s12).trans ((But.same s13).trans (But.same (Same.upd hp13))))
    generalize upd H13 p5 (.lst []) = H14 at d14 B14
    -- the loop over some of the places
    refine ⟨_, rfl, D, _, rfl, .inl (SqL.of d14), _, _, rfl, rfl, _, rfl, ite2 (fun z => ?_) (fun z => ?_)⟩
    · have zl : 14 < (openL ws js).length := by have := of_decide_eq_true z; rw [List.length_map] at this; omega
      have zc : (((placesV (openL ws js)).length : Nat) : Int) - 2 = (((openL ws js).length - 2 : Nat) : Int) := by rw [List.length_map]; omega
      refine ⟨_, rfl, _, rfl, D, _, rfl, SqL.of d14, fun p1 hp1 => ?_⟩
      have d15 := Same.upd (o := HO.lst (cutV (placesV (openL ws js)) none (some 12))) hp1 _ _ d14
      refine ⟨_, rfl, _, rfl, D, _, rfl, .inl (SqL.of d15), _, _, rfl, rfl, _, rfl, D, _, rfl, SqL.of d15, fun p2 hp2 => ?_⟩
      have n12 : p1 ≠ p2 := ne_of_none upd_same hp2
      refine ⟨p1, p2, _, _, rfl, rfl, (by rw [upd_ne n12]; exact upd_same), upd_same, ?_, fun p3 hp3 => ?_⟩
      · rw [cutV_to12, zc, cutV_from (by rw [List.length_map]; omega), List.length_take, List.length_drop, List.length_map]; exact small_le (by omega)
      have hS : SqL K (upd (upd (upd H14 p1 (.lst (cutV (placesV (openL ws js)) none (some 12)))) p2 (.lst (cutV (placesV (openL ws js)) (some (((placesV (openL ws js)).length : Nat) - 2)) none))) p3 (.lst (cutV (placesV (openL ws js)) none (some 12) ++ cutV (placesV (openL ws js)) (some (((placesV (openL ws js)).length : Nat) - 2)) none))) p3 (placesV ((openL ws js).take 12 ++ (openL ws js).drop ((openL ws js).length - 2))) := by
        refine SqL.of (upd_same.trans ?_)
        rw [cutV_to12, zc, cutV_from (by rw [List.length_map]; omega)]
        simp [placesV]
      have hmem : ∀ i ∈ (openL ws js).take 12 ++ (openL ws js).drop ((openL ws js).length - 2), i ∈ openL ws js := fun i h => (List.mem_append.mp h).elim List.mem_of_mem_take List.mem_of_mem_drop
      have B15 := B14.trans ((But.same (Same.upd (o := HO.lst (cutV (placesV (openL ws js)) none (some 12))) hp1)).trans ((But.same (Same.upd (o := HO.lst (cutV (placesV (openL ws js)) (some (((placesV (openL ws js)).length : Nat) - 2)) none)) hp2)).trans (But.same (Same.upd (o := HO.lst (cutV (placesV (openL ws js)) none (some 12) ++ cutV (placesV (openL ws js)) (some (((placesV (openL ws js)).length : Nat) - 2)) none)) hp3))))
      generalize (upd (upd (upd H14 p1 (.lst (cutV (placesV (openL ws js)) none (some 12)))) p2 (.lst (cutV (placesV (openL ws js)) (some (((placesV (openL ws js)).length : Nat) - 2)) none))) p3 (.lst (cutV (placesV (openL ws js)) none (some 12) ++ cutV (placesV (openL ws js)) (some (((placesV (openL ws js)).length : Nat) - 2)) none))) = H15 at hS B15
      refine ⟨p3, rfl, ⟨_, hS⟩, for_list (K := K) (a := p3) (xs := placesV ((openL ws js).take 12 ++ (openL ws js).drop ((openL ws js).length - 2))) (fun i σ H' => ∃ (tv qv : Option V), σ = [some (.ref g), some (.str (S l)), some (.str (S js)), some (.ref p), some (.int (n : Nat)), some (.str (S ws)), some (.ref D), tv, qv] ∧ Same H15 H') ⟨_, _, rfl, Same.refl _⟩ (fun i σ H' _ ⟨_, _, _, s⟩ => s.seq hS) ?_ ?_⟩
      · rintro i y σ H16 hi ⟨tv, qv, rfl, s16⟩
        obtain ⟨q, hq, rfl⟩ : ∃ q : Nat, q ∈ ((openL ws js).take 12 ++ (openL ws js).drop ((openL ws js).length - 2)) ∧ y = V.int (q : Nat) := by
          rw [List.getElem?_map] at hi
          obtain ⟨q, hq, e⟩ := Option.map_eq_some_iff.mp hi
          exact ⟨q, List.mem_of_getElem? hq, e.symm⟩
        obtain ⟨c, hcq, hcj⟩ := mem_openL (hmem q hq)
        have hql : q < ws.length := (List.getElem?_eq_some_iff.mp hcq).1
        have hcw : 97 ≤ c ∧ c ≤ 122 := hmu c (List.mem_of_getElem? hcq)
        have hsub : ((n : Int) - 1 - (q : Int)) = ((ws.length - 1 - q : Nat) : Int) := by omega
        refine ⟨_, rfl, _, rfl, _, rfl, ws, js, q, c, rfl, hwl, hw, hjl, hj, hcq, hcj, fun H17 s17 => ?_⟩
        refine ⟨_, rfl, _, rfl, _, rfl, ws, q, rfl, hwl, hql, rfl, _, rfl, iteNS rfl ?_⟩
        refine ⟨_, rfl, _, rfl, _, rfl, rfl, rfl, ws, js, q, c, rfl, hwl, hw, hjl, hj, hcq, hcj, fun H18 s18 => ?_⟩
        refine ⟨_, rfl, rfl, _, rfl, iteNS rfl ?_⟩
        refine ⟨_, rfl, _, rfl, _, rfl, ws, q, rfl, hwl, hw, hql, rfl, _, rfl, iteNS rfl ?_⟩
        refine ⟨_, rfl, _, rfl, _, rfl, _, _, rfl, rfl, _, rfl, _, _, rfl, rfl, swapL ws q, js, ws.length - 1 - q, c, (by show [V.str (S (swapL ws q)), V.str (S js), V.int ((n : Int) - 1 - (q : Int))] = _; rw [hsub]), by rw [swapL_len hql]; exact hwl, wordB_of fun d hd => hmu d (swapL_mem hd), hjl, hj, (swapL_at hql).trans hcq, hcj, fun H19 s19 => ?_⟩
        refine ⟨_, rfl, rfl, _, rfl, iteNS (by rw [swapL_back hql]) ?_⟩
        refine ⟨_, rfl, _, rfl, _, rfl, S ws, q, c, rfl, rfl, by omega, by omega, by rw [len_S]; omega, by rw [Int.toNat_natCast, at_S]; exact hcq, _, rfl, ws, [c], q, c, rfl, hwl, hw, (by show 1 ≤ 50000; decide), jointsB_one hcw, hcq, List.mem_singleton.mpr rfl, fun H20 s20 => ?_⟩
        refine ⟨_, rfl, rfl, _, rfl, iteNS rfl ?_⟩
        exact ⟨_, _, rfl, s16.trans (s17.trans (s18.trans (s19.trans s20)))⟩
      · rintro σ H16 ⟨tv, qv, rfl, s16⟩
        exact k _ (B15.trans (But.same s16))
    · have hS : SqL K H14 D (placesV (openL ws js)) := SqL.of d14
      have hmem : ∀ i ∈ openL ws js, i ∈ openL ws js := fun _ h => h
      have B15 := B14
      generalize H14 = H15 at hS B15
      refine ⟨_, rfl, ?_⟩
      refine ⟨D, rfl, ⟨_, hS⟩, for_list (K := K) (a := D) (xs := placesV (openL ws js)) (fun i σ H' => ∃ (tv qv : Option V), σ = [some (.ref g), some (.str (S l)), some (.str (S js)), some (.ref p), some (.int (n : Nat)), some (.str (S ws)), some (.ref D), tv, qv] ∧ Same H15 H') ⟨_, _, rfl, Same.refl _⟩ (fun i σ H' _ ⟨_, _, _, s⟩ => s.seq hS) ?_ ?_⟩
      · rintro i y σ H16 hi ⟨tv, qv, rfl, s16⟩
        obtain ⟨q, hq, rfl⟩ : ∃ q : Nat, q ∈ (openL ws js) ∧ y = V.int (q : Nat) := by
          rw [List.getElem?_map] at hi
          obtain ⟨q, hq, e⟩ := Option.map_eq_some_iff.mp hi
          exact ⟨q, List.mem_of_getElem? hq, e.symm⟩
        obtain ⟨c, hcq, hcj⟩ := mem_openL (hmem q hq)
        have hql : q < ws.length := (List.getElem?_eq_some_iff.mp hcq).1
        have hcw : 97 ≤ c ∧ c ≤ 122 := hmu c (List.mem_of_getElem? hcq)
        have hsub : ((n : Int) - 1 - (q : Int)) = ((ws.length - 1 - q : Nat) : Int) := by omega
        refine ⟨_, rfl, _, rfl, _, rfl, ws, js, q, c, rfl, hwl, hw, hjl, hj, hcq, hcj, fun H17 s17 => ?_⟩
        refine ⟨_, rfl, _, rfl, _, rfl, ws, q, rfl, hwl, hql, rfl, _, rfl, iteNS rfl ?_⟩
        refine ⟨_, rfl, _, rfl, _, rfl, rfl, rfl, ws, js, q, c, rfl, hwl, hw, hjl, hj, hcq, hcj, fun H18 s18 => ?_⟩
        refine ⟨_, rfl, rfl, _, rfl, iteNS rfl ?_⟩
        refine ⟨_, rfl, _, rfl, _, rfl, ws, q, rfl, hwl, hw, hql, rfl, _, rfl, iteNS rfl ?_⟩
        refine ⟨_, rfl, _, rfl, _, rfl, _, _, rfl, rfl, _, rfl, _, _, rfl, rfl, swapL ws q, js, ws.length - 1 - q, c, (by show [V.str (S (swapL ws q)), V.str (S js), V.int ((n : Int) - 1 - (q : Int))] = _; rw [hsub]), by rw [swapL_len hql]; exact hwl, wordB_of fun d hd => hmu d (swapL_mem hd), hjl, hj, (swapL_at hql).trans hcq, hcj, fun H19 s19 => ?_⟩
        refine ⟨_, rfl, rfl, _, rfl, iteNS (by rw [swapL_back hql]) ?_⟩
        refine ⟨_, rfl, _, rfl, _, rfl, S ws, q, c, rfl, rfl, by omega, by omega, by rw [len_S]; omega, by rw [Int.toNat_natCast, at_S]; exact hcq, _, rfl, ws, [c], q, c, rfl, hwl, hw, (by show 1 ≤ 50000; decide), jointsB_one hcw, hcq, List.mem_singleton.mpr rfl, fun H20 s20 => ?_⟩
        refine ⟨_, rfl, rfl, _, rfl, iteNS rfl ?_⟩
        exact ⟨_, _, rfl, s16.trans (s17.trans (s18.trans (s19.trans s20)))⟩
      · rintro σ H16 ⟨tv, qv, rfl, s16⟩
        exact k _ (B15.trans (But.same s16))
/-! law -/
def sp_law (K : PySem.W.Frag) : Sp := fun vs H Q _ => ∃ (a : Addr) (ns : List Int), vs = [.ref a] ∧ SqL K H a (ns.map V.int) ∧ ns.length ≤ 63 ∧ ∀ H', Q (.bl true) H'
theorem ok_law (T : Txt K mg) : FnOk P w K mg base CX0 6 T.f_law T.fd_law P_law (sp_law K) := by
  have nd : N_law.Nodup := sc_law.nd
  refine T.F_law.ok sc_law (fun vs H Q E h => ?_) (fun cdv A outer s H vs Q E hr h => ?_)
  · obtain ⟨a, ns, rfl, _⟩ := h
    rfl
  · obtain ⟨a, ns, rfl, hS, hlen, k⟩ := h
    refine ⟨_, (pss_cons (ps_for PassesOwn.never rfl (pi_range1 rfl T.z_range (pa_cons pe_int pa_nil)) (pg_name (i := 1) nd rfl (Or.inl rfl))
      (pss_one (ps_if (pt_not (pt_val (pe_call (ok__law_right T) (hr.mono (by decide)) rfl T.m__law_right T.F__law_right.kp T.b__law_right .nil pass0 (pa_cons (pe_call (ok__law_generator T) (hr.mono (by decide)) rfl T.m__law_generator T.F__law_generator.kp T.b__law_generator .nil pass0 (pa_cons (pv 0) (pa_cons (pv 1) pa_nil))) pa_nil)))) (pss_one (ps_ret pe_bl)) pss_nil)))
      (pss_one (ps_ret (pe_and (pe_cmpR op_eq (pe_call (ok_swapped T) (hr.mono (by decide)) rfl T.m_swapped T.F_swapped.kp T.b_swapped .nil pass0 (pa_cons pe_str (pa_cons pe_str (pa_cons pe_int pa_nil)))) pe_str (nomark _)) (pe_and (pe_cmpR op_eq (pe_call (ok_swapped T) (hr.mono (by decide)) rfl T.m_swapped T.F_swapped.kp T.b_swapped .nil pass0 (pa_cons pe_str (pa_cons pe_str (pa_cons pe_int pa_nil)))) pe_str (nomark _)) (pe_one (pe_cmpR op_eq (pe_call (ok_swapped T) (hr.mono (by decide)) rfl T.m_swapped T.F_swapped.kp T.b_swapped .nil pass0 (pa_cons pe_str (pa_cons pe_str (pa_cons pe_int pa_nil)))) pe_str (nomark _)))))))), ?_⟩
    refine ⟨3, rfl, by decide, by decide, ?_⟩
    refine for_range (lo := 0) (n := 3) (fun i σ H' => ∃ v : Option V, σ = [some (.ref a), v] ∧ SqL K H' a (ns.map V.int)) ⟨none, rfl, hS⟩ ?_ ?_
    · rintro i σ H1 hi ⟨v, rfl, hS1⟩
      refine ⟨_, rfl, _, rfl, a, ns, i, (by rw [Int.zero_add]; rfl), hS1, by omega, fun g H2 hg s2 G => ?_⟩
      refine ⟨g, 1000 * i, rfl, G, by omega, fun H3 b3 => ⟨_, rfl, iteF ?_⟩⟩
      exact ⟨_, rfl, (b3.after s2 hg).seq hS1⟩
    · rintro σ H1 ⟨v, rfl, hS1⟩
      refine ⟨[120], [120], 0, 120, rfl, by decide, by decide, by decide, by decide, rfl, by decide, fun H2 s2 => ?_⟩
      refine ⟨rfl, _, rfl, iteT ?_⟩
      refine ⟨[120, 97, 98], [120], 0, 120, rfl, by decide, by decide, by decide, by decide, rfl, by decide, fun H3 s3 => ?_⟩
      refine ⟨rfl, _, rfl, iteT ?_⟩
      refine ⟨[97, 98, 120], [120], 2, 120, rfl, by decide, by decide, by decide, by decide, rfl, by decide, fun H4 s4 => ?_⟩
      exact ⟨rfl, k _⟩
end
theorem all_mk {l : PySem.W.OpenLaw} {w : World} {K : PySem.W.Frag} {h : Heap} {mg : Str → Option Value} {fa : Addr} (X : K.In h) (G : h.Ns mainGlobals mg) (hfa : mg "law" = some (.ref fa))
    {f_is_word : Addr} {od_is_word an_is_word : Option Addr} {sl_is_word : Array (Option Value)} {oc_is_word kV_is_word dc_is_word pm_is_word cd_is_word ct_is_word : Value}
    {f_is_count : Addr} {od_is_count an_is_count : Option Addr} {sl_is_count : Array (Option Value)} {oc_is_count kV_is_count dc_is_count pm_is_count cd_is_count ct_is_count : Value}
    {f__ascends : Addr} {od__ascends an__ascends : Option Addr} {sl__ascends : Array (Option Value)} {oc__ascends kV__ascends dc__ascends pm__ascends cd__ascends ct__ascends : Value}
    {f_sides_changed : Addr} {od_sides_changed an_sides_changed : Option Addr} {sl_sides_changed : Array (Option Value)} {oc_sides_changed kV_sides_changed dc_sides_changed pm_sides_changed cd_sides_changed ct_sides_changed : Value}
    {f__law_hash : Addr} {od__law_hash an__law_hash : Option Addr} {sl__law_hash : Array (Option Value)} {oc__law_hash kV__law_hash dc__law_hash pm__law_hash cd__law_hash ct__law_hash : Value}
    {f__law_cell : Addr} {od__law_cell an__law_cell : Option Addr} {sl__law_cell : Array (Option Value)} {oc__law_cell kV__law_cell dc__law_cell pm__law_cell cd__law_cell ct__law_cell : Value}
    {f__law_swapped : Addr} {od__law_swapped an__law_swapped : Option Addr} {sl__law_swapped : Array (Option Value)} {oc__law_swapped kV__law_swapped dc__law_swapped pm__law_swapped cd__law_swapped ct__law_swapped : Value}
    {f__law_jumped : Addr} {od__law_jumped an__law_jumped : Option Addr} {sl__law_jumped : Array (Option Value)} {oc__law_jumped kV__law_jumped dc__law_jumped pm__law_jumped cd__law_jumped ct__law_jumped : Value}
    {f_is_joints : Addr} {od_is_joints an_is_joints : Option Addr} {sl_is_joints : Array (Option Value)} {oc_is_joints kV_is_joints dc_is_joints pm_is_joints cd_is_joints ct_is_joints : Value}
    {f_check_word : Addr} {od_check_word an_check_word : Option Addr} {sl_check_word : Array (Option Value)} {oc_check_word kV_check_word dc_check_word pm_check_word cd_check_word ct_check_word : Value}
    {f__is_open : Addr} {od__is_open an__is_open : Option Addr} {sl__is_open : Array (Option Value)} {oc__is_open kV__is_open dc__is_open pm__is_open cd__is_open ct__is_open : Value}
    {f__law_random : Addr} {od__law_random an__law_random : Option Addr} {sl__law_random : Array (Option Value)} {oc__law_random kV__law_random dc__law_random pm__law_random cd__law_random ct__law_random : Value}
    {f__law_generator : Addr} {od__law_generator an__law_generator : Option Addr} {sl__law_generator : Array (Option Value)} {oc__law_generator kV__law_generator dc__law_generator pm__law_generator cd__law_generator ct__law_generator : Value}
    {f_check_joints : Addr} {od_check_joints an_check_joints : Option Addr} {sl_check_joints : Array (Option Value)} {oc_check_joints kV_check_joints dc_check_joints pm_check_joints cd_check_joints ct_check_joints : Value}
    {f__law_word : Addr} {od__law_word an__law_word : Option Addr} {sl__law_word : Array (Option Value)} {oc__law_word kV__law_word dc__law_word pm__law_word cd__law_word ct__law_word : Value}
    {f__law_letters : Addr} {od__law_letters an__law_letters : Option Addr} {sl__law_letters : Array (Option Value)} {oc__law_letters kV__law_letters dc__law_letters pm__law_letters cd__law_letters ct__law_letters : Value}
    {f__law_joints : Addr} {od__law_joints an__law_joints : Option Addr} {sl__law_joints : Array (Option Value)} {oc__law_joints kV__law_joints dc__law_joints pm__law_joints cd__law_joints ct__law_joints : Value}
    {f_open_places : Addr} {od_open_places an_open_places : Option Addr} {sl_open_places : Array (Option Value)} {oc_open_places kV_open_places dc_open_places pm_open_places cd_open_places ct_open_places : Value}
    {f_swapped : Addr} {od_swapped an_swapped : Option Addr} {sl_swapped : Array (Option Value)} {oc_swapped kV_swapped dc_swapped pm_swapped cd_swapped ct_swapped : Value}
    {f__law_right : Addr} {od__law_right an__law_right : Option Addr} {sl__law_right : Array (Option Value)} {oc__law_right kV__law_right dc__law_right pm__law_right cd__law_right ct__law_right : Value}
    {f_law : Addr} {od_law an_law : Option Addr} {sl_law : Array (Option Value)} {oc_law kV_law dc_law pm_law cd_law ct_law : Value}
    (a_is_word : PySem.W.nsIn K mainGlobals "is_word" = some (some (.ref f_is_word))) (l_is_word : K.lookup f_is_word = some ⟨oc_is_word, od_is_word, .func (PySem.W.fnOf "is_word" "is_word" (defArgs s_is_word) (defBody s_is_word) (defScope s_is_word) .none kV_is_word dc_is_word pm_is_word an_is_word cd_is_word ct_is_word), sl_is_word⟩) (c_is_word : PySem.W.codeIn K cd_is_word "is_word" = true) (k_is_word : PySem.W.keepIn K (.ref f_is_word) = true)
    (a_is_count : PySem.W.nsIn K mainGlobals "is_count" = some (some (.ref f_is_count))) (l_is_count : K.lookup f_is_count = some ⟨oc_is_count, od_is_count, .func (PySem.W.fnOf "is_count" "is_count" (defArgs s_is_count) (defBody s_is_count) (defScope s_is_count) .none kV_is_count dc_is_count pm_is_count an_is_count cd_is_count ct_is_count), sl_is_count⟩) (c_is_count : PySem.W.codeIn K cd_is_count "is_count" = true) (k_is_count : PySem.W.keepIn K (.ref f_is_count) = true)
    (a__ascends : PySem.W.nsIn K mainGlobals "_ascends" = some (some (.ref f__ascends))) (l__ascends : K.lookup f__ascends = some ⟨oc__ascends, od__ascends, .func (PySem.W.fnOf "_ascends" "_ascends" (defArgs s__ascends) (defBody s__ascends) (defScope s__ascends) .none kV__ascends dc__ascends pm__ascends an__ascends cd__ascends ct__ascends), sl__ascends⟩) (c__ascends : PySem.W.codeIn K cd__ascends "_ascends" = true) (k__ascends : PySem.W.keepIn K (.ref f__ascends) = true)
    (a_sides_changed : PySem.W.nsIn K mainGlobals "sides_changed" = some (some (.ref f_sides_changed))) (l_sides_changed : K.lookup f_sides_changed = some ⟨oc_sides_changed, od_sides_changed, .func (PySem.W.fnOf "sides_changed" "sides_changed" (defArgs s_sides_changed) (defBody s_sides_changed) (defScope s_sides_changed) .none kV_sides_changed dc_sides_changed pm_sides_changed an_sides_changed cd_sides_changed ct_sides_changed), sl_sides_changed⟩) (c_sides_changed : PySem.W.codeIn K cd_sides_changed "sides_changed" = true) (k_sides_changed : PySem.W.keepIn K (.ref f_sides_changed) = true)
    (a__law_hash : PySem.W.nsIn K mainGlobals "_law_hash" = some (some (.ref f__law_hash))) (l__law_hash : K.lookup f__law_hash = some ⟨oc__law_hash, od__law_hash, .func (PySem.W.fnOf "_law_hash" "_law_hash" (defArgs s__law_hash) (defBody s__law_hash) (defScope s__law_hash) .none kV__law_hash dc__law_hash pm__law_hash an__law_hash cd__law_hash ct__law_hash), sl__law_hash⟩) (c__law_hash : PySem.W.codeIn K cd__law_hash "_law_hash" = true) (k__law_hash : PySem.W.keepIn K (.ref f__law_hash) = true)
    (a__law_cell : PySem.W.nsIn K mainGlobals "_law_cell" = some (some (.ref f__law_cell))) (l__law_cell : K.lookup f__law_cell = some ⟨oc__law_cell, od__law_cell, .func (PySem.W.fnOf "_law_cell" "_law_cell" (defArgs s__law_cell) (defBody s__law_cell) (defScope s__law_cell) .none kV__law_cell dc__law_cell pm__law_cell an__law_cell cd__law_cell ct__law_cell), sl__law_cell⟩) (c__law_cell : PySem.W.codeIn K cd__law_cell "_law_cell" = true) (k__law_cell : PySem.W.keepIn K (.ref f__law_cell) = true)
    (a__law_swapped : PySem.W.nsIn K mainGlobals "_law_swapped" = some (some (.ref f__law_swapped))) (l__law_swapped : K.lookup f__law_swapped = some ⟨oc__law_swapped, od__law_swapped, .func (PySem.W.fnOf "_law_swapped" "_law_swapped" (defArgs s__law_swapped) (defBody s__law_swapped) (defScope s__law_swapped) .none kV__law_swapped dc__law_swapped pm__law_swapped an__law_swapped cd__law_swapped ct__law_swapped), sl__law_swapped⟩) (c__law_swapped : PySem.W.codeIn K cd__law_swapped "_law_swapped" = true) (k__law_swapped : PySem.W.keepIn K (.ref f__law_swapped) = true)
    (a__law_jumped : PySem.W.nsIn K mainGlobals "_law_jumped" = some (some (.ref f__law_jumped))) (l__law_jumped : K.lookup f__law_jumped = some ⟨oc__law_jumped, od__law_jumped, .func (PySem.W.fnOf "_law_jumped" "_law_jumped" (defArgs s__law_jumped) (defBody s__law_jumped) (defScope s__law_jumped) .none kV__law_jumped dc__law_jumped pm__law_jumped an__law_jumped cd__law_jumped ct__law_jumped), sl__law_jumped⟩) (c__law_jumped : PySem.W.codeIn K cd__law_jumped "_law_jumped" = true) (k__law_jumped : PySem.W.keepIn K (.ref f__law_jumped) = true)
    (a_is_joints : PySem.W.nsIn K mainGlobals "is_joints" = some (some (.ref f_is_joints))) (l_is_joints : K.lookup f_is_joints = some ⟨oc_is_joints, od_is_joints, .func (PySem.W.fnOf "is_joints" "is_joints" (defArgs s_is_joints) (defBody s_is_joints) (defScope s_is_joints) .none kV_is_joints dc_is_joints pm_is_joints an_is_joints cd_is_joints ct_is_joints), sl_is_joints⟩) (c_is_joints : PySem.W.codeIn K cd_is_joints "is_joints" = true) (k_is_joints : PySem.W.keepIn K (.ref f_is_joints) = true)
    (a_check_word : PySem.W.nsIn K mainGlobals "check_word" = some (some (.ref f_check_word))) (l_check_word : K.lookup f_check_word = some ⟨oc_check_word, od_check_word, .func (PySem.W.fnOf "check_word" "check_word" (defArgs s_check_word) (defBody s_check_word) (defScope s_check_word) .none kV_check_word dc_check_word pm_check_word an_check_word cd_check_word ct_check_word), sl_check_word⟩) (c_check_word : PySem.W.codeIn K cd_check_word "check_word" = true) (k_check_word : PySem.W.keepIn K (.ref f_check_word) = true)
    (a__is_open : PySem.W.nsIn K mainGlobals "_is_open" = some (some (.ref f__is_open))) (l__is_open : K.lookup f__is_open = some ⟨oc__is_open, od__is_open, .func (PySem.W.fnOf "_is_open" "_is_open" (defArgs s__is_open) (defBody s__is_open) (defScope s__is_open) .none kV__is_open dc__is_open pm__is_open an__is_open cd__is_open ct__is_open), sl__is_open⟩) (c__is_open : PySem.W.codeIn K cd__is_open "_is_open" = true) (k__is_open : PySem.W.keepIn K (.ref f__is_open) = true)
    (a__law_random : PySem.W.nsIn K mainGlobals "_law_random" = some (some (.ref f__law_random))) (l__law_random : K.lookup f__law_random = some ⟨oc__law_random, od__law_random, .func (PySem.W.fnOf "_law_random" "_law_random" (defArgs s__law_random) (defBody s__law_random) (defScope s__law_random) .none kV__law_random dc__law_random pm__law_random an__law_random cd__law_random ct__law_random), sl__law_random⟩) (c__law_random : PySem.W.codeIn K cd__law_random "_law_random" = true) (k__law_random : PySem.W.keepIn K (.ref f__law_random) = true)
    (a__law_generator : PySem.W.nsIn K mainGlobals "_law_generator" = some (some (.ref f__law_generator))) (l__law_generator : K.lookup f__law_generator = some ⟨oc__law_generator, od__law_generator, .func (PySem.W.fnOf "_law_generator" "_law_generator" (defArgs s__law_generator) (defBody s__law_generator) (defScope s__law_generator) .none kV__law_generator dc__law_generator pm__law_generator an__law_generator cd__law_generator ct__law_generator), sl__law_generator⟩) (c__law_generator : PySem.W.codeIn K cd__law_generator "_law_generator" = true) (k__law_generator : PySem.W.keepIn K (.ref f__law_generator) = true)
    (a_check_joints : PySem.W.nsIn K mainGlobals "check_joints" = some (some (.ref f_check_joints))) (l_check_joints : K.lookup f_check_joints = some ⟨oc_check_joints, od_check_joints, .func (PySem.W.fnOf "check_joints" "check_joints" (defArgs s_check_joints) (defBody s_check_joints) (defScope s_check_joints) .none kV_check_joints dc_check_joints pm_check_joints an_check_joints cd_check_joints ct_check_joints), sl_check_joints⟩) (c_check_joints : PySem.W.codeIn K cd_check_joints "check_joints" = true) (k_check_joints : PySem.W.keepIn K (.ref f_check_joints) = true)
    (a__law_word : PySem.W.nsIn K mainGlobals "_law_word" = some (some (.ref f__law_word))) (l__law_word : K.lookup f__law_word = some ⟨oc__law_word, od__law_word, .func (PySem.W.fnOf "_law_word" "_law_word" (defArgs s__law_word) (defBody s__law_word) (defScope s__law_word) .none kV__law_word dc__law_word pm__law_word an__law_word cd__law_word ct__law_word), sl__law_word⟩) (c__law_word : PySem.W.codeIn K cd__law_word "_law_word" = true) (k__law_word : PySem.W.keepIn K (.ref f__law_word) = true)
    (a__law_letters : PySem.W.nsIn K mainGlobals "_law_letters" = some (some (.ref f__law_letters))) (l__law_letters : K.lookup f__law_letters = some ⟨oc__law_letters, od__law_letters, .func (PySem.W.fnOf "_law_letters" "_law_letters" (defArgs s__law_letters) (defBody s__law_letters) (defScope s__law_letters) .none kV__law_letters dc__law_letters pm__law_letters an__law_letters cd__law_letters ct__law_letters), sl__law_letters⟩) (c__law_letters : PySem.W.codeIn K cd__law_letters "_law_letters" = true) (k__law_letters : PySem.W.keepIn K (.ref f__law_letters) = true)
    (a__law_joints : PySem.W.nsIn K mainGlobals "_law_joints" = some (some (.ref f__law_joints))) (l__law_joints : K.lookup f__law_joints = some ⟨oc__law_joints, od__law_joints, .func (PySem.W.fnOf "_law_joints" "_law_joints" (defArgs s__law_joints) (defBody s__law_joints) (defScope s__law_joints) .none kV__law_joints dc__law_joints pm__law_joints an__law_joints cd__law_joints ct__law_joints), sl__law_joints⟩) (c__law_joints : PySem.W.codeIn K cd__law_joints "_law_joints" = true) (k__law_joints : PySem.W.keepIn K (.ref f__law_joints) = true)
    (a_open_places : PySem.W.nsIn K mainGlobals "open_places" = some (some (.ref f_open_places))) (l_open_places : K.lookup f_open_places = some ⟨oc_open_places, od_open_places, .func (PySem.W.fnOf "open_places" "open_places" (defArgs s_open_places) (defBody s_open_places) (defScope s_open_places) .none kV_open_places dc_open_places pm_open_places an_open_places cd_open_places ct_open_places), sl_open_places⟩) (c_open_places : PySem.W.codeIn K cd_open_places "open_places" = true) (k_open_places : PySem.W.keepIn K (.ref f_open_places) = true)
    (a_swapped : PySem.W.nsIn K mainGlobals "swapped" = some (some (.ref f_swapped))) (l_swapped : K.lookup f_swapped = some ⟨oc_swapped, od_swapped, .func (PySem.W.fnOf "swapped" "swapped" (defArgs s_swapped) (defBody s_swapped) (defScope s_swapped) .none kV_swapped dc_swapped pm_swapped an_swapped cd_swapped ct_swapped), sl_swapped⟩) (c_swapped : PySem.W.codeIn K cd_swapped "swapped" = true) (k_swapped : PySem.W.keepIn K (.ref f_swapped) = true)
    (a__law_right : PySem.W.nsIn K mainGlobals "_law_right" = some (some (.ref f__law_right))) (l__law_right : K.lookup f__law_right = some ⟨oc__law_right, od__law_right, .func (PySem.W.fnOf "_law_right" "_law_right" (defArgs s__law_right) (defBody s__law_right) (defScope s__law_right) .none kV__law_right dc__law_right pm__law_right an__law_right cd__law_right ct__law_right), sl__law_right⟩) (c__law_right : PySem.W.codeIn K cd__law_right "_law_right" = true) (k__law_right : PySem.W.keepIn K (.ref f__law_right) = true)
    (a_law : PySem.W.nsIn K mainGlobals "law" = some (some (.ref f_law))) (l_law : K.lookup f_law = some ⟨oc_law, od_law, .func (PySem.W.fnOf "law" "law" (defArgs s_law) (defBody s_law) (defScope s_law) .none kV_law dc_law pm_law an_law cd_law ct_law), sl_law⟩) (c_law : PySem.W.codeIn K cd_law "law" = true) (k_law : PySem.W.keepIn K (.ref f_law) = true)
    (z_all : PySem.W.nsIn K mainGlobals "all" = some none)
    (z_bool : PySem.W.nsIn K mainGlobals "bool" = some none)
    (z_enumerate : PySem.W.nsIn K mainGlobals "enumerate" = some none)
    (z_int : PySem.W.nsIn K mainGlobals "int" = some none)
    (z_isinstance : PySem.W.nsIn K mainGlobals "isinstance" = some none)
    (z_len : PySem.W.nsIn K mainGlobals "len" = some none)
    (z_max : PySem.W.nsIn K mainGlobals "max" = some none)
    (z_range : PySem.W.nsIn K mainGlobals "range" = some none)
    (z_str : PySem.W.nsIn K mainGlobals "str" = some none)
    (z_sum : PySem.W.nsIn K mainGlobals "sum" = some none)
    (z_zip : PySem.W.nsIn K mainGlobals "zip" = some none) :
    ∃ fd : FuncData, (∀ (s : Shared) (v : Value), BindsTo s fd ⟨[v], []⟩ [("_law_script", v)]) ∧ ∀ base : Heap, K.In base → base.Ns mainGlobals mg → FnOk l.prog w K mg base CX0 6 fa fd ["_law_script"] (sp_law K) := by
  have e := hfa.symm.trans (PySem.W.mg_of X G a_law)
  cases e
  have F_is_word := fun_mk (st := s_is_word) l_is_word c_is_word k_is_word
  have b_is_word := F_is_word.binds (ps := P_is_word) fun _ _ _ _ _ _ us hl => match us, hl with | [_], _ => rfl
  have F_is_count := fun_mk (st := s_is_count) l_is_count c_is_count k_is_count
  have b_is_count := F_is_count.binds (ps := P_is_count) fun _ _ _ _ _ _ us hl => match us, hl with | [_], _ => rfl
  have F__ascends := fun_mk (st := s__ascends) l__ascends c__ascends k__ascends
  have b__ascends := F__ascends.binds (ps := P__ascends) fun _ _ _ _ _ _ us hl => match us, hl with | [_], _ => rfl
  have F_sides_changed := fun_mk (st := s_sides_changed) l_sides_changed c_sides_changed k_sides_changed
  have b_sides_changed := F_sides_changed.binds (ps := P_sides_changed) fun _ _ _ _ _ _ us hl => match us, hl with | [_, _], _ => rfl
  have F__law_hash := fun_mk (st := s__law_hash) l__law_hash c__law_hash k__law_hash
  have b__law_hash := F__law_hash.binds (ps := P__law_hash) fun _ _ _ _ _ _ us hl => match us, hl with | [_, _], _ => rfl
  have F__law_cell := fun_mk (st := s__law_cell) l__law_cell c__law_cell k__law_cell
  have b__law_cell := F__law_cell.binds (ps := P__law_cell) fun _ _ _ _ _ _ us hl => match us, hl with | [_, _], _ => rfl
  have F__law_swapped := fun_mk (st := s__law_swapped) l__law_swapped c__law_swapped k__law_swapped
  have b__law_swapped := F__law_swapped.binds (ps := P__law_swapped) fun _ _ _ _ _ _ us hl => match us, hl with | [_, _], _ => rfl
  have F__law_jumped := fun_mk (st := s__law_jumped) l__law_jumped c__law_jumped k__law_jumped
  have b__law_jumped := F__law_jumped.binds (ps := P__law_jumped) fun _ _ _ _ _ _ us hl => match us, hl with | [_, _], _ => rfl
  have F_is_joints := fun_mk (st := s_is_joints) l_is_joints c_is_joints k_is_joints
  have b_is_joints := F_is_joints.binds (ps := P_is_joints) fun _ _ _ _ _ _ us hl => match us, hl with | [_], _ => rfl
  have F_check_word := fun_mk (st := s_check_word) l_check_word c_check_word k_check_word
  have b_check_word := F_check_word.binds (ps := P_check_word) fun _ _ _ _ _ _ us hl => match us, hl with | [_], _ => rfl
  have F__is_open := fun_mk (st := s__is_open) l__is_open c__is_open k__is_open
  have b__is_open := F__is_open.binds (ps := P__is_open) fun _ _ _ _ _ _ us hl => match us, hl with | [_, _, _], _ => rfl
  have F__law_random := fun_mk (st := s__law_random) l__law_random c__law_random k__law_random
  have b__law_random := F__law_random.binds (ps := P__law_random) fun _ _ _ _ _ _ us hl => match us, hl with | [_, _], _ => rfl
  have F__law_generator := fun_mk (st := s__law_generator) l__law_generator c__law_generator k__law_generator
  have b__law_generator := F__law_generator.binds (ps := P__law_generator) fun _ _ _ _ _ _ us hl => match us, hl with | [_, _], _ => rfl
  have F_check_joints := fun_mk (st := s_check_joints) l_check_joints c_check_joints k_check_joints
  have b_check_joints := F_check_joints.binds (ps := P_check_joints) fun _ _ _ _ _ _ us hl => match us, hl with | [_], _ => rfl
  have F__law_word := fun_mk (st := s__law_word) l__law_word c__law_word k__law_word
  have b__law_word := F__law_word.binds (ps := P__law_word) fun _ _ _ _ _ _ us hl => match us, hl with | [_, _, _], _ => rfl
  have F__law_letters := fun_mk (st := s__law_letters) l__law_letters c__law_letters k__law_letters
  have b__law_letters := F__law_letters.binds (ps := P__law_letters) fun _ _ _ _ _ _ us hl => match us, hl with | [_, _, _], _ => rfl
  have F__law_joints := fun_mk (st := s__law_joints) l__law_joints c__law_joints k__law_joints
  have b__law_joints := F__law_joints.binds (ps := P__law_joints) fun _ _ _ _ _ _ us hl => match us, hl with | [_, _], _ => rfl
  have F_open_places := fun_mk (st := s_open_places) l_open_places c_open_places k_open_places
  have b_open_places := F_open_places.binds (ps := P_open_places) fun _ _ _ _ _ _ us hl => match us, hl with | [_, _], _ => rfl
  have F_swapped := fun_mk (st := s_swapped) l_swapped c_swapped k_swapped
  have b_swapped := F_swapped.binds (ps := P_swapped) fun _ _ _ _ _ _ us hl => match us, hl with | [_, _, _], _ => rfl
  have F__law_right := fun_mk (st := s__law_right) l__law_right c__law_right k__law_right
  have b__law_right := F__law_right.binds (ps := P__law_right) fun _ _ _ _ _ _ us hl => match us, hl with | [_], _ => rfl
  have F_law := fun_mk (st := s_law) l_law c_law k_law
  have b_law := F_law.binds (ps := P_law) fun _ _ _ _ _ _ us hl => match us, hl with | [_], _ => rfl
  let T : Txt K mg := { f_is_word := _, fd_is_word := _, F_is_word := F_is_word, m_is_word := PySem.W.mg_of X G a_is_word, b_is_word := b_is_word, f_is_count := _, fd_is_count := _, F_is_count := F_is_count, m_is_count := PySem.W.mg_of X G a_is_count, b_is_count := b_is_count, f__ascends := _, fd__ascends := _, F__ascends := F__ascends, m__ascends := PySem.W.mg_of X G a__ascends, b__ascends := b__ascends, f_sides_changed := _, fd_sides_changed := _, F_sides_changed := F_sides_changed, m_sides_changed := PySem.W.mg_of X G a_sides_changed, b_sides_changed := b_sides_changed, f__law_hash := _, fd__law_hash := _, F__law_hash := F__law_hash, m__law_hash := PySem.W.mg_of X G a__law_hash, b__law_hash := b__law_hash, f__law_cell := _, fd__law_cell := _, F__law_cell := F__law_cell, m__law_cell := PySem.W.mg_of X G a__law_cell, b__law_cell := b__law_cell, f__law_swapped := _, fd__law_swapped := _, F__law_swapped := F__law_swapped, m__law_swapped := PySem.W.mg_of X G a__law_swapped, b__law_swapped := b__law_swapped, f__law_jumped := _, fd__law_jumped := _, F__law_jumped := F__law_jumped, m__law_jumped := PySem.W.mg_of X G a__law_jumped, b__law_jumped := b__law_jumped, f_is_joints := _, fd_is_joints := _, F_is_joints := F_is_joints, m_is_joints := PySem.W.mg_of X G a_is_joints, b_is_joints := b_is_joints, f_check_word := _, fd_check_word := _, F_check_word := F_check_word, m_check_word := PySem.W.mg_of X G a_check_word, b_check_word := b_check_word, f__is_open := _, fd__is_open := _, F__is_open := F__is_open, m__is_open := PySem.W.mg_of X G a__is_open, b__is_open := b__is_open, f__law_random := _, fd__law_random := _, F__law_random := F__law_random, m__law_random := PySem.W.mg_of X G a__law_random, b__law_random := b__law_random, f__law_generator := _, fd__law_generator := _, F__law_generator := F__law_generator, m__law_generator := PySem.W.mg_of X G a__law_generator, b__law_generator := b__law_generator, f_check_joints := _, fd_check_joints := _, F_check_joints := F_check_joints, m_check_joints := PySem.W.mg_of X G a_check_joints, b_check_joints := b_check_joints, f__law_word := _, fd__law_word := _, F__law_word := F__law_word, m__law_word := PySem.W.mg_of X G a__law_word, b__law_word := b__law_word, f__law_letters := _, fd__law_letters := _, F__law_letters := F__law_letters, m__law_letters := PySem.W.mg_of X G a__law_letters, b__law_letters := b__law_letters, f__law_joints := _, fd__law_joints := _, F__law_joints := F__law_joints, m__law_joints := PySem.W.mg_of X G a__law_joints, b__law_joints := b__law_joints, f_open_places := _, fd_open_places := _, F_open_places := F_open_places, m_open_places := PySem.W.mg_of X G a_open_places, b_open_places := b_open_places, f_swapped := _, fd_swapped := _, F_swapped := F_swapped, m_swapped := PySem.W.mg_of X G a_swapped, b_swapped := b_swapped, f__law_right := _, fd__law_right := _, F__law_right := F__law_right, m__law_right := PySem.W.mg_of X G a__law_right, b__law_right := b__law_right, f_law := _, fd_law := _, F_law := F_law, m_law := PySem.W.mg_of X G a_law, b_law := b_law, z_all := PySem.W.mg_none_of X G z_all, z_bool := PySem.W.mg_none_of X G z_bool, z_enumerate := PySem.W.mg_none_of X G z_enumerate, z_int := PySem.W.mg_none_of X G z_int, z_isinstance := PySem.W.mg_none_of X G z_isinstance, z_len := PySem.W.mg_none_of X G z_len, z_max := PySem.W.mg_none_of X G z_max, z_range := PySem.W.mg_none_of X G z_range, z_str := PySem.W.mg_none_of X G z_str, z_sum := PySem.W.mg_none_of X G z_sum, z_zip := PySem.W.mg_none_of X G z_zip }
  exact ⟨PySem.W.fnOf "law" "law" (defArgs s_law) (defBody s_law) (defScope s_law) .none kV_law dc_law pm_law an_law cd_law ct_law, fun s v => .of_eq rfl, fun base _ _ => ok_law T⟩
theorem walk {l : PySem.W.OpenLaw} {q : Program} {loose : List Str} {XP : (Str → Option Value) → Heap → Prop} {YP : World → Heap → Prop} {d : DefRec} {K : Params → PySem.W.Frag} (hn : l.most = some 63) (hdf : d.params.defaults = [])
    (hY : ∀ (w : World) (h : Heap), YP w h → (K w.params).In h)
    (F : ∀ (w : World) (mg : Str → Option Value) (fa : Addr) (h : Heap), (K w.params).In h → h.Ns mainGlobals mg → mg d.name = some (.ref fa) →
      ∃ fd : FuncData, (∀ (s : Shared) (u : Value), BindsTo s fd ⟨[u], []⟩ [("_law_script", u)]) ∧ ∀ base : Heap, (K w.params).In base → base.Ns mainGlobals mg → FnOk l.prog w (K w.params) mg base CX0 6 fa fd ["_law_script"] (sp_law (K w.params))) :
    PySem.W.WalkO q loose XP YP l.row.toRowW d [] (fun f vs => PySem.call f vs) :=
  L2.walk_of (n := 63) (k := 6) (x := "_law_script") (CX := fun _ => CX0) (sp := fun w => sp_law (K w.params)) hn (by decide) hdf ⟨rfl, by decide, by decide⟩ hY F (fun _ _ a ns hl _ hS => ⟨a, ns, rfl, hS, hl, fun _ => rfl⟩) fun _ _ _ _ _ z => z
end K02
open PySem PySem.W PyProof.Rows
set_option maxRecDepth 100000 in
set_option maxHeartbeats 0 in
theorem PySem.Challenge.cw_sideswaps_k02_whole_deeds_holds : PySem.Challenge.rw_sideswaps_k02_whole_deeds.Holds := by
  w_on; o_law; k_head; (case hw => w_witness2)
  k_fill
  refine K02.walk (l := PySem.Challenge.rw_sideswaps_k02_whole_deeds) rfl rfl (fun w h Y => PySem.W.kIn_of Y) ?F
  case F =>
    intro w mg fa h KX G hmg
    refine' K02.all_mk KX G hmg ?a_is_word ?l_is_word ?c_is_word ?k_is_word ?a_is_count ?l_is_count ?c_is_count ?k_is_count ?a__ascends ?l__ascends ?c__ascends ?k__ascends ?a_sides_changed ?l_sides_changed ?c_sides_changed ?k_sides_changed ?a__law_hash ?l__law_hash ?c__law_hash ?k__law_hash ?a__law_cell ?l__law_cell ?c__law_cell ?k__law_cell ?a__law_swapped ?l__law_swapped ?c__law_swapped ?k__law_swapped ?a__law_jumped ?l__law_jumped ?c__law_jumped ?k__law_jumped ?a_is_joints ?l_is_joints ?c_is_joints ?k_is_joints ?a_check_word ?l_check_word ?c_check_word ?k_check_word ?a__is_open ?l__is_open ?c__is_open ?k__is_open ?a__law_random ?l__law_random ?c__law_random ?k__law_random ?a__law_generator ?l__law_generator ?c__law_generator ?k__law_generator ?a_check_joints ?l_check_joints ?c_check_joints ?k_check_joints ?a__law_word ?l__law_word ?c__law_word ?k__law_word ?a__law_letters ?l__law_letters ?c__law_letters ?k__law_letters ?a__law_joints ?l__law_joints ?c__law_joints ?k__law_joints ?a_open_places ?l_open_places ?c_open_places ?k_open_places ?a_swapped ?l_swapped ?c_swapped ?k_swapped ?a__law_right ?l__law_right ?c__law_right ?k__law_right ?a_law ?l_law ?c_law ?k_law ?z_all ?z_bool ?z_enumerate ?z_int ?z_isinstance ?z_len ?z_max ?z_range ?z_str ?z_sum ?z_zip
    (case a_is_word => k_is)
    (case l_is_word => k_is)
    (case c_is_word => k_is)
    (case k_is_word => k_is)
    (case a_is_count => k_is)
    (case l_is_count => k_is)
    (case c_is_count => k_is)
    (case k_is_count => k_is)
    (case a__ascends => k_is)
    (case l__ascends => k_is)
    (case c__ascends => k_is)
    (case k__ascends => k_is)
    (case a_sides_changed => k_is)
    (case l_sides_changed => k_is)
    (case c_sides_changed => k_is)
    (case k_sides_changed => k_is)
    (case a__law_hash => k_is)
    (case l__law_hash => k_is)
    (case c__law_hash => k_is)
    (case k__law_hash => k_is)
    (case a__law_cell => k_is)
    (case l__law_cell => k_is)
    (case c__law_cell => k_is)
    (case k__law_cell => k_is)
    (case a__law_swapped => k_is)
    (case l__law_swapped => k_is)
    (case c__law_swapped => k_is)
    (case k__law_swapped => k_is)
    (case a__law_jumped => k_is)
    (case l__law_jumped => k_is)
    (case c__law_jumped => k_is)
    (case k__law_jumped => k_is)
    (case a_is_joints => k_is)
    (case l_is_joints => k_is)
    (case c_is_joints => k_is)
    (case k_is_joints => k_is)
    (case a_check_word => k_is)
    (case l_check_word => k_is)
    (case c_check_word => k_is)
    (case k_check_word => k_is)
    (case a__is_open => k_is)
    (case l__is_open => k_is)
    (case c__is_open => k_is)
    (case k__is_open => k_is)
    (case a__law_random => k_is)
    (case l__law_random => k_is)
    (case c__law_random => k_is)
    (case k__law_random => k_is)
    (case a__law_generator => k_is)
    (case l__law_generator => k_is)
    (case c__law_generator => k_is)
    (case k__law_generator => k_is)
    (case a_check_joints => k_is)
    (case l_check_joints => k_is)
    (case c_check_joints => k_is)
    (case k_check_joints => k_is)
    (case a__law_word => k_is)
    (case l__law_word => k_is)
    (case c__law_word => k_is)
    (case k__law_word => k_is)
    (case a__law_letters => k_is)
    (case l__law_letters => k_is)
    (case c__law_letters => k_is)
    (case k__law_letters => k_is)
    (case a__law_joints => k_is)
    (case l__law_joints => k_is)
    (case c__law_joints => k_is)
    (case k__law_joints => k_is)
    (case a_open_places => k_is)
    (case l_open_places => k_is)
    (case c_open_places => k_is)
    (case k_open_places => k_is)
    (case a_swapped => k_is)
    (case l_swapped => k_is)
    (case c_swapped => k_is)
    (case k_swapped => k_is)
    (case a__law_right => k_is)
    (case l__law_right => k_is)
    (case c__law_right => k_is)
    (case k__law_right => k_is)
    (case a_law => k_is)
    (case l_law => k_is)
    (case c_law => k_is)
    (case k_law => k_is)
    (case z_all => k_is)
    (case z_bool => k_is)
    (case z_enumerate => k_is)
    (case z_int => k_is)
    (case z_isinstance => k_is)
    (case z_len => k_is)
    (case z_max => k_is)
    (case z_range => k_is)
    (case z_str => k_is)
    (case z_sum => k_is)
    (case z_zip => k_is)

