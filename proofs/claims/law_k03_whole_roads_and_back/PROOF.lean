import PyProof.Rows.All
import Wide.All
import OpenK.AllK
import Wide.FinOn
import HandS.ForMost
import HandS.Wide
import HandS.WideBits
import HandS.Zip
import HandS.Walk
import HandS.IsInst
import HandS.Defaults
import KE.GoesEnum
import HandS.Codes
import HandS.Style
import HandS.SortInts
import HandS.Replace
import HandS.Conv
import PyProof.ReprRoads
import HandS.RaiseMore
import HandS.AnyAll
import PySem.Challenge.RW_sideswaps_k03_whole_roads_and_back
set_option Elab.async false
set_option linter.all false
set_option maxRecDepth 100000
set_option maxHeartbeats 4000000
/-! Own rules over the hand layer: a great power, zip of two texts, enumerate of a text. -/
namespace Sw
open PySem PySem.Spec PyProof.Rows L2
/-- a ** n while the answer stays small enough -/
def CPowW (i j : Int) : Prop := 0 ≤ j ∧ (Builtin.Int.intBits i : Int) * j ≤ 2 ^ 27
theorem op_powW {X : Cx} : OpR X (binaryOp .Pow) (rI CPowW fun i j => .int (i ^ j.toNat)) :=
  opI fun _ _ _ _ _ _ _ hc q => pow_int hc.1 hc.2 q

/-! ### two texts side by side -/
/-- new pairs of the signs of x and y that stand at one place -/
def Itzs (x y : Str) : It :=
  ⟨fun i _ => i < min x.cps.size y.cps.size,
   fun i H v H' => ∃ T c d, v = .ref T ∧ H T = none ∧ H' = upd H T (.tup [.str ⟨#[c]⟩, .str ⟨#[d]⟩]) ∧ x.cps[i]? = some c ∧ y.cps[i]? = some d,
   fun i _ => min x.cps.size y.cps.size ≤ i⟩
theorem turn_zipS {P : Program} {w : World} {K : PySem.W.Frag} {elts : List Expr} {kk : Nat} {tpos : Pos} {z TI TO i1 i2 : Addr} (x y : Str) (t u : Tok) (S : ZipSep2 z TI TO i1 i2 [i1] [i2]) :
    Turn P w K (.Tuple elts kk tpos) (Itzs x y) [z, TI, TO, i1, i2] z
      (fun i h => i ≤ min x.cps.size y.cps.size ∧ IsZip h z TI TO .none ∧ IsTupOf2 h TI (.ref i1) (.ref i2) ∧ (∃ a b, IsTupOf2 h TO a b) ∧ h.IsStrIter i1 (strIterType x) x t i ∧ h.IsStrIter i2 (strIterType y) y u i) where
  mem := by simp
  obj := fun i h st c hc => by
    obtain ⟨_, hz, hTI, ⟨a, b, hTO⟩, ⟨o1, e1, _, d1⟩, ⟨o2, e2, _, d2⟩⟩ := st
    have cs : c = z ∨ c = TI ∨ c = TO ∨ c = i1 ∨ c = i2 := by simpa using hc
    rcases cs with rfl | rfl | rfl | rfl | rfl
    · exact ⟨_, hz, fun v q => by cases q⟩
    · exact ⟨_, hTI, fun v q => by cases q⟩
    · exact ⟨_, hTO, fun v q => by cases q⟩
    · exact ⟨o1, e1, fun v q => by rw [d1] at q; cases q⟩
    · exact ⟨o2, e2, fun v q => by rw [d2] at q; cases q⟩
  keep := fun i h h' st k => by
    obtain ⟨hle, hz, hTI, ⟨a, b, hTO⟩, h1, h2⟩ := st
    refine ⟨hle, k z (by simp) _ hz, k TI (by simp) _ hTI, ⟨a, b, k TO (by simp) _ hTO⟩, ?_, ?_⟩
    · obtain ⟨o, ho, r⟩ := h1; exact ⟨o, k i1 (by simp) o ho, r⟩
    · obtain ⟨o, ho, r⟩ := h2; exact ⟨o, k i2 (by simp) o ho, r⟩
  item := by
    intro X hP hw hK hc i pins s σ H E I hf st hg
    subst hP hw hK
    obtain ⟨hle, hz, hTI, ⟨a, b, hTO⟩, h1, h2⟩ := st
    have hg' : i < min x.cps.size y.cps.size := hg
    have hx : i < x.cps.size := by omega
    have hy : i < y.cps.size := by omega
    have hh := I.ok.hd hc
    have D1 := Draws.text (prog := X.prog) (w := X.w) (A := X.A.in1) hh i1 x t
    have D2 := Draws.text (prog := X.prog) (w := X.w) (A := X.A.in1) hh i2 y u
    have hzl : z < s.heap.objs.size := Heap.lt_size hz
    refine wpAny_pyNext_zipD2_item S D1 D2 hz hTI hTO h1 h2 hx hy fun v1 v2 h' tk p1 p2 z' TO' h1' h2' hT hsz hk => ?_
    obtain ⟨c, t1, hc1, rfl⟩ := p1
    obtain ⟨d, t2, hd1, rfl⟩ := p2
    refine ⟨_, rfl, wpAny_letOwnedTupleGo_zip (s := { s with heap := h', toks := tk }) z' fun h'' z'' sb => ?_⟩
    have hT2 := (sb.2 _ (Nat.ne_of_gt hzl)).trans hT
    have new : ObjOk X.prog X.w (upd H s.heap.objs.size (.tup [.str ⟨#[c]⟩, .str ⟨#[d]⟩])) h'' s.heap.objs.size (.tup [.str ⟨#[c]⟩, .str ⟨#[d]⟩]) :=
      ⟨by show 2 ≤ sizeLine; decide, [.str ⟨#[c]⟩ t1, .str ⟨#[d]⟩ t2], .cons ⟨_, rfl⟩ (.cons ⟨_, rfl⟩ .nil), ⟨_, hT2, rfl, _, rfl⟩⟩
    have off : ∀ {c : Addr}, c ∉ [z, TI, TO, i1, i2] → c ≠ z ∧ c ≠ TO ∧ c ≠ i1 ∧ c ≠ i2 := fun {c} hb => by
      simp only [List.mem_cons, List.not_mem_nil, or_false, not_or] at hb
      exact ⟨hb.1, hb.2.2.1, hb.2.2.2.1, hb.2.2.2.2⟩
    have I1 := I.turnedNew (h' := h'') (t' := tk) (ch := [z, TI, TO, i1, i2]) (fun c o hb q => by
      obtain ⟨n1, n2, n3, n4⟩ := off hb
      exact (sb.2 c n1).trans (hk c o n1 n2 n3 n4 q)) hf (Nat.le_refl _) new
    refine ⟨.ref s.heap.objs.size, _, I1, rfl, ⟨_, c, d, rfl, I.hok.fresh (Nat.le_refl _), rfl, hc1, hd1⟩, ⟨by omega, z'', ?_, ⟨_, _, (sb.2 _ S.TOz).trans TO'⟩, ?_, ?_⟩, fun c hcm => ?_⟩
    · exact (sb.2 _ S.TIz).trans (hk _ _ S.TIz S.TITO S.TIi1 S.TIi2 hTI)
    · obtain ⟨o, ho, r⟩ := h1'; exact ⟨o, (sb.2 _ (fun e => S.zi1 e.symm)).trans ho, r⟩
    · obtain ⟨o, ho, r⟩ := h2'; exact ⟨o, (sb.2 _ (fun e => S.zi2 e.symm)).trans ho, r⟩
    · have hlt : c < s.heap.objs.size := by
        have cs : c = z ∨ c = TI ∨ c = TO ∨ c = i1 ∨ c = i2 := by simpa using hcm
        rcases cs with rfl | rfl | rfl | rfl | rfl
        · exact hzl
        · exact Heap.lt_size hTI
        · exact Heap.lt_size hTO
        · obtain ⟨_, e1, _⟩ := h1; exact Heap.lt_size e1
        · obtain ⟨_, e2, _⟩ := h2; exact Heap.lt_size e2
      rw [upd_ne (Nat.ne_of_lt hlt)]
      exact (hf c hcm).1
  done := by
    intro X hP hw hK hc i pins s σ H E I hf st hg
    subst hP hw hK
    obtain ⟨hle, hz, hTI, ⟨a, b, hTO⟩, h1, h2⟩ := st
    have hg' : min x.cps.size y.cps.size ≤ i := hg
    have hh := I.ok.hd hc
    have D1 := Draws.text (prog := X.prog) (w := X.w) (A := X.A.in1) hh i1 x t
    have D2 := Draws.text (prog := X.prog) (w := X.w) (A := X.A.in1) hh i2 y u
    refine wpAny_pyNext_zipD2_end S D1 D2 hz hTI hTO h1 h2 (by omega) (by omega) (by omega) fun h' tk hk => ⟨rfl, I.turnedL (t' := tk) (ch := [z, TI, TO, i1, i2]) (fun c o hb q => ?_) hf⟩
    simp only [List.mem_cons, List.not_mem_nil, or_false, not_or] at hb
    exact hk c o hb.1 hb.2.2.1 hb.2.2.2.1 hb.2.2.2.2 q
  self := fun A i s Q E st h => wpAny_pyIter_zip st.2.1 h
def iZipS (ta : TA) : TI := fun σ H R => ta σ H fun vs H1 => ∃ x y, vs = [.str x, .str y] ∧ R (Itzs x y) H1
theorem pi_zipS {X : Cx} {e e2 : Expr} {ta : TA} {p pos tpos : Pos} {elts : List Expr} {kk : Nat} (hg : Gl X "zip") (hm : X.mg "zip" = none) (ha : PA X [e, e2] ta)
    (hs : starEach [e, e2] X.env = (false, eval e X.env) :: starEach [e2] X.env := by rfl) (hpl : (backTo pos (starEach [e2] X.env)).any (·.1) = false := by rfl) :
    PI X (.Tuple elts kk tpos) (.Call (.Name "zip" p) [e, e2] [] pos) (iZipS ta) := by
  refine ⟨fun pins s σ H R I h => ?_⟩
  refine Call_ (ld_blt I hg hm PyProof.Rows.boot_zip (PyProof.Rows.callWith_type1 (thn (ha.run pos pins s σ H _ I h) fun us s1 ⟨vs, H1, I1, r1, q1⟩ => ?_) hs hpl))
  obtain ⟨x, y, ex, q⟩ := q1
  subst ex
  cases r1 with
  | cons r rr =>
    cases rr with
    | cons r' rr =>
    cases rr
    obtain ⟨t, rfl⟩ := r
    obtain ⟨u, rfl⟩ := r'
    refine zip_begins2 (begins_text x t) (begins_text y u) trivial trivial fun h' hz hTI hTO h1 h2 hsz hk => wpAny_pyIter_zip hz ?_
    have I2 : Inv X pins σ H1 { s1 with heap := h' } := I1.kept (t' := s1.toks) hk
    refine ⟨s1.heap.objs.size + 4, [s1.heap.objs.size + 4, s1.heap.objs.size + 2, s1.heap.objs.size + 3, s1.heap.objs.size, s1.heap.objs.size + 1], _, _, H1, rfl, I2,
      turn_zipS x y t u (zip_sep2 (by simp) (by simp)), ⟨Nat.zero_le _, hz, hTI, ⟨_, _, hTO⟩, ⟨_, h1, rfl, rfl⟩, ⟨_, h2, rfl, rfl⟩⟩, fun c hcm => ?_, q⟩
    have hle : s1.heap.objs.size ≤ c := by
      have cs : c = s1.heap.objs.size + 4 ∨ c = s1.heap.objs.size + 2 ∨ c = s1.heap.objs.size + 3 ∨ c = s1.heap.objs.size ∨ c = s1.heap.objs.size + 1 := by simpa using hcm
      rcases cs with e | e | e | e | e <;> rw [e] <;> first | exact Nat.le_refl _ | exact Nat.le_add_right _ _
    exact I1.fpOk hle (I1.hok.fresh hle)
/-- its turns -/
theorem walk_zipS {x y : Str} : Walk (Itzs x y) (min x.cps.size y.cps.size) (fun _ => True) (YPair (fun i => (x.cps[i]?).map fun c => V.str ⟨#[c]⟩) (fun i => (y.cps[i]?).map fun c => V.str ⟨#[c]⟩)) :=
  ⟨fun _ _ hi _ => hi, fun _ _ => Nat.le_refl _, fun i H v H' _ _ yy => by
    obtain ⟨T, c, d, h1, h2, h3, h4, h5⟩ := yy
    exact ⟨T, _, _, h1, h2, h3, by simp [h4], by simp [h5]⟩⟩

/-! ### a text by its places -/
def Ites (x : Str) : It :=
  ⟨fun i _ => i < x.cps.size, fun i H v H' => ∃ T c, v = .ref T ∧ H T = none ∧ H' = upd H T (.tup [.int (i : Nat), .str ⟨#[c]⟩]) ∧ x.cps[i]? = some c, fun i _ => x.cps.size ≤ i⟩
theorem turn_enumS {P : Program} {w : World} {K : PySem.W.Frag} {elts : List Expr} {kk : Nat} {tpos : Pos} (e it : Addr) (x : Str) (t : Tok) (hei : e ≠ it) :
    Turn P w K (.Tuple elts kk tpos) (Ites x) [e, it] e (fun i h => i ≤ x.cps.size ∧ (∃ old, IsEnum h e it ((i : Nat) : Int) old) ∧ h.IsStrIter it (strIterType x) x t i) where
  mem := by simp
  obj := fun i h st b hb => by
    obtain ⟨_, ⟨old, he⟩, ⟨o, ho, hc, hd⟩⟩ := st
    have cs : b = e ∨ b = it := by simpa using hb
    rcases cs with rfl | rfl
    · exact ⟨_, he, fun v q => by cases q⟩
    · exact ⟨o, ho, fun v q => by rw [hd] at q; cases q⟩
  keep := fun i h h' st k => by
    obtain ⟨hle, ⟨old, he⟩, ⟨o, ho, r⟩⟩ := st
    exact ⟨hle, ⟨old, k e (by simp) _ he⟩, ⟨o, k it (by simp) o ho, r⟩⟩
  item := by
    intro X hP hw hK hc i pins s σ H E I hf st hg
    subst hP hw hK
    obtain ⟨hle, ⟨old, he⟩, hit⟩ := st
    have hg' : i < x.cps.size := hg
    have D := Draws.text (prog := X.prog) (w := X.w) (A := X.A.in1) (I.ok.hd hc) it x t
    have hel : e < s.heap.objs.size := Heap.lt_size he
    have hil : it < s.heap.objs.size := by obtain ⟨_, q, _⟩ := hit; exact Heap.lt_size q
    have hei2 : e ∉ [it] := by simpa using hei
    refine wpAny_pyNext_enum_itemD D he hit hg' hei hei2 fun v h' tk p ho hit' hT hsz hk => ?_
    obtain ⟨c, t1, hc1, rfl⟩ := p
    refine ⟨_, rfl, wpAny_letOwnedTupleGo_enum (s := { s with heap := h', toks := tk + 1 }) ho fun h'' he' sb => ?_⟩
    have hT2 := (sb.2 _ (Nat.ne_of_gt hel)).trans hT
    have new : ObjOk X.prog X.w (upd H s.heap.objs.size (.tup [.int (i : Nat), .str ⟨#[c]⟩])) h'' s.heap.objs.size (.tup [.int (i : Nat), .str ⟨#[c]⟩]) :=
      ⟨by show 2 ≤ sizeLine; decide, [.int i tk, .str ⟨#[c]⟩ t1], .cons ⟨_, rfl⟩ (.cons ⟨_, rfl⟩ .nil), ⟨_, hT2, rfl, _, rfl⟩⟩
    have I1 := I.turnedNew (h' := h'') (t' := tk + 1) (ch := [e, it]) (fun b ob hb q => by
      simp only [List.mem_cons, List.not_mem_nil, or_false, not_or] at hb
      exact (sb.2 b hb.1).trans (hk b ob hb.1 hb.2 q)) hf (Nat.le_refl _) new
    refine ⟨.ref s.heap.objs.size, _, I1, rfl, ⟨_, c, rfl, I.hok.fresh (Nat.le_refl _), rfl, hc1⟩, ⟨by omega, ⟨.str ⟨#[c]⟩ t1, ?_⟩, ?_⟩, fun b hb => ?_⟩
    · have e1 : ((i + 1 : Nat) : Int) = (i : Int) + 1 := by omega
      rw [e1]; exact he'
    · obtain ⟨o, ho', r⟩ := hit'; exact ⟨o, (sb.2 it (Ne.symm hei)).trans ho', r⟩
    · have hb' : b < s.heap.objs.size := by
        have cs : b = e ∨ b = it := by simpa using hb
        rcases cs with rfl | rfl
        · exact hel
        · exact hil
      rw [upd_ne (Nat.ne_of_lt hb')]
      exact (hf b hb).1
  done := by
    intro X hP hw hK hc i pins s σ H E I hf st hg
    subst hP hw hK
    obtain ⟨hle, ⟨old, he⟩, hit⟩ := st
    have hg' : x.cps.size ≤ i := hg
    have ei : i = x.cps.size := Nat.le_antisymm hle hg'
    subst ei
    have D := Draws.text (prog := X.prog) (w := X.w) (A := X.A.in1) (I.ok.hd hc) it x t
    obtain ⟨f0, f1, f2, f3, f4, f5⟩ := hf it (by simp)
    exact wpAny_pyNext_enum_endD D he hit fun h' eb => ⟨rfl, I.turned (t' := s.toks) (fun b o hb q => eb b o hb q) f0 f1 f3 f4 f5⟩
  self := fun A i s Q E st h => by
    obtain ⟨_, ⟨old, he⟩, _⟩ := st
    exact wpAny_pyIter_enum he h
def iEnumS (ta : TA) : TI := fun σ H R => ta σ H fun vs H1 => ∃ x, vs = [.str x] ∧ R (Ites x) H1
theorem pi_enumS {X : Cx} {e : Expr} {ta : TA} {p pos tpos : Pos} {elts : List Expr} {kk : Nat} (hg : Gl X "enumerate") (hm : X.mg "enumerate" = none) (ha : PA X [e] ta) (hs : starEach [e] X.env = [(false, eval e X.env)] := by rfl) :
    PI X (.Tuple elts kk tpos) (.Call (.Name "enumerate" p) [e] [] pos) (iEnumS ta) := by
  refine ⟨fun pins s σ H R I h => ?_⟩
  refine Call_ (ld_blt I hg hm boot_enumerate (PyProof.Rows.callWith_type1 (thn (ha.run pos pins s σ H _ I h) fun us s1 ⟨vs, H1, I1, r1, q1⟩ => ?_) hs rfl))
  obtain ⟨x, ex, q⟩ := q1
  subst ex
  cases r1 with
  | cons r rr =>
    cases rr
    obtain ⟨t, rfl⟩ := r
    refine call_enumerate_str fun h' he hit hsz hk => wpAny_pyIter_enum he ?_
    have I2 : Inv X pins σ H1 { s1 with heap := h' } := I1.kept (t' := s1.toks) hk
    refine ⟨s1.heap.objs.size + 1, [s1.heap.objs.size + 1, s1.heap.objs.size], _, _, H1, rfl, I2, turn_enumS (s1.heap.objs.size + 1) s1.heap.objs.size x t (Nat.succ_ne_self _), ⟨Nat.zero_le _, ⟨.none, he⟩, hit⟩, fun b hb => ?_, q⟩
    have hle : s1.heap.objs.size ≤ b := by
      have cs : b = s1.heap.objs.size + 1 ∨ b = s1.heap.objs.size := by simpa using hb
      rcases cs with e | e <;> rw [e] <;> first | exact Nat.le_refl _ | exact Nat.le_add_right _ _
    exact I1.fpOk hle (I1.hok.fresh hle)
theorem walk_enumS {x : Str} : Walk (Ites x) x.cps.size (fun _ => True) (YPair (fun i => some (.int (i : Nat))) (fun i => (x.cps[i]?).map fun c => V.str ⟨#[c]⟩)) :=
  ⟨fun _ _ hi _ => hi, fun _ _ => Nat.le_refl _, fun i H v H' _ _ yy => by
    obtain ⟨T, c, h1, h2, h3, h4⟩ := yy
    exact ⟨T, _, _, h1, h2, h3, rfl, by simp [h4]⟩⟩
end Sw
namespace Sw
open PySem PySem.Spec PyProof.Rows L2
/-! ### the rules that speak of the written part, the part named (within a comprehension) -/
section
variable {X : Cx} (K : PySem.W.Frag)
theorem call_lenK (h : X.K = K := by rfl) : CallR X (.builtin "len") (fun xs H Q => ∃ x n, xs = [x] ∧ LenV K x H n ∧ Q (.int n) H) := h ▸ call_len
theorem call_len_seqK (h : X.K = K := by rfl) : CallR X (.builtin "len") (fun xs H Q => ∃ p ys, xs = [.ref p] ∧ (SqL K H p ys ∨ SqT K H p ys) ∧ Q (.int ys.length) H) := h ▸ call_len_seq
theorem ix_listK (h : X.K = K := by rfl) : IxR X (rIxL K) := h ▸ ix_list
theorem ix_tupK (h : X.K = K := by rfl) : IxR X (rIxT K) := h ▸ ix_tup
theorem op_in_seqK (h : X.K = K := by rfl) : OpR X (compareOp .In) (rIn K false) := h ▸ op_in_seq
theorem sl_listK (h : X.K = K := by rfl) : SlR X (rSlL K) := h ▸ sl_list
theorem cr_sumK (hc : X.calm = true) (h : X.K = K := by rfl) : CallR X (.builtin "sum") (rSum K) := h ▸ cr_sum hc
theorem cr_allK (hc : X.calm = true) (h : X.K = K := by rfl) : CallR X (.builtin "all") (rAll K) := h ▸ cr_all hc
theorem call_isiK (h : X.K = K := by rfl) : CallR X (.builtin "isinstance") (rIsi K) := h ▸ call_isi
theorem pg_tupK {es : List Expr} {k n : Nat} {t : TGs} {pos : Pos} (hc : X.calm = true) (h : PGs X es t) (hK : X.K = K := by rfl)
    (hn : (assignEach es X.env).length = n := by rfl) (hst : (assignEach es X.env).findIdx? (·.1) = none := by rfl) : PG X (.Tuple es k pos) (gTup K n t) := hK ▸ pg_tup hc h hn hst
end
/-- f(k = v, ..), nothing by place -/
theorem pe_callN0 {X : Cx} {CX : CXT} {k : Nat} {f : Addr} {fd : FuncData} {ps ks : List Str} {sp : Sp} {E : XK} {x : Str} {p pos : Pos} {kws : List Keyword} {tk : TA} {g : List Value → List Value → List Value} {gV : List V → List V → List V}
    (F : FnOk X.prog X.w X.K X.mg X.base CX k f fd ps sp) (hr : Room k X.A) (hg : Gl X x) (hm : X.mg x = some (.ref f)) (hk : PySem.W.keepIn X.K (.ref f) = true) (hb : KBn X.K fd ps 0 ks g gV) (hx : Passes CX X E) (hkw : PK X kws tk)
    (hall : (backToKw pos (keywordEach kws X.env)).all (·.1.isSome) = true := by rfl) (hks : (backToKw pos (keywordEach kws X.env)).filterMap (·.1) = ks := by rfl) (hdb : (x == ("__debug__" : Str)) = false := by decide)
    (hpl : ((backTo pos (starEach [] X.env)).any (·.1) || (backToKw pos (keywordEach kws X.env)).any (·.1.isNone)) = false := by rfl) :
    PE X (.Call (.Name x p) [] kws pos) (tCallN 0 ks.length sp gV E tNil tk) := by
  refine ⟨fun pins s σ H Q I h => wpAny_Call_Name_kw (ld_glob I hg hm ?_ hdb)⟩
  refine PySem.W.callWith_KW0 (h₀ := X.base) I.ok.mod.kin hk hall (thn (hkw.run pos pins s σ H _ I h) fun ws s2 ⟨zs, H2, I2, rz, l1, l2, q2⟩ => ⟨I2.kIn, ?_⟩) hpl
  rw [hks]
  exact run_fnN (us := []) F hr hb hx I2 .nil rz l1 l2 q2
end Sw
/-! Words as lists of signs; what a def keeps of the heap; draws. -/
namespace Sw
open PySem PySem.Spec PyProof.Rows L2
/-- the text of these signs -/
abbrev S (l : List Nat) : Str := SX.S l
/-- all that was tracked is as it was, but for what stands at g -/
def But (g : Addr) (H H' : Hp) : Prop := ∀ b o, b ≠ g → H b = some o → H' b = some o
theorem But.refl (g : Addr) (H : Hp) : But g H H := fun _ _ _ h => h
theorem But.trans {g : Addr} {H H1 H2 : Hp} (a : But g H H1) (b : But g H1 H2) : But g H H2 := fun c o n h => b c o n (a c o n h)
theorem But.same {g : Addr} {H H' : Hp} (a : Same H H') : But g H H' := fun c o _ h => a c o h
theorem But.upd {g : Addr} {H : Hp} {o : HO} : But g H (upd H g o) := fun c u n h => by rw [upd_ne n]; exact h
theorem Same.upd {H : Hp} {p : Addr} {o : HO} (hp : H p = none) : Same H (upd H p o) := fun c u h => by rw [upd_ne (ne_of_none h hp)]; exact h
theorem But.new {g p : Addr} {H H1 : Hp} {o : HO} (a : But g H H1) (hp : H1 p = none) : But g H (L2.upd H1 p o) := a.trans (.same (Same.upd hp))
theorem But.seq {K : PySem.W.Frag} {g a : Addr} {H H' : Hp} {xs : List V} (e : But g H H') (n : a ≠ g) (h : SqL K H a xs) : SqL K H' a xs := by
  rcases h with (h | ⟨o, h⟩) | h
  · exact .inl (.inl (e _ _ n h))
  · exact .inl (.inr ⟨o, e _ _ n h⟩)
  · exact .inr h
/-- the drawing state: what is left of the seed, its hash's part, how many were drawn -/
def GenAt (H : Hp) (g : Addr) (n : Nat) : Prop := ∃ x y z : Int, H g = some (.lst [.int x, .int y, .int z]) ∧ (0 ≤ x ∧ x.natAbs < 2 ^ 2000) ∧ (0 ≤ y ∧ y < 2147483647) ∧ (0 ≤ z ∧ z ≤ (n : Int))
theorem GenAt.same {H H' : Hp} {g : Addr} {n : Nat} (e : Same H H') (h : GenAt H g n) : GenAt H' g n := by
  obtain ⟨x, y, z, h0, r⟩ := h
  exact ⟨x, y, z, e _ _ h0, r⟩
theorem GenAt.mono {H : Hp} {g : Addr} {n m : Nat} (h : GenAt H g n) (l : n ≤ m) : GenAt H g m := by
  obtain ⟨x, y, z, h0, hx, hy, hz⟩ := h
  exact ⟨x, y, z, h0, hx, hy, hz.1, by omega⟩
theorem GenAt.new {H : Hp} {g p : Addr} {n : Nat} {o : HO} (h : GenAt H g n) (hp : H p = none) : GenAt (upd H p o) g n := h.same (Same.upd hp)
theorem GenAt.ne {H : Hp} {g p : Addr} {n : Nat} (h : GenAt H g n) (hp : H p = none) : p ≠ g := by
  obtain ⟨x, y, z, h0, _⟩ := h
  exact (ne_of_none h0 hp).symm
/-! ### signs -/
def signB (c : Nat) : Bool := decide (97 ≤ c) && decide (c ≤ 122)
def wordB (l : List Nat) : Bool := l.all signB
def ascB (l : List Nat) : Bool := (l.zip l.tail).all fun p => decide (p.1 < p.2)
def jointsB (l : List Nat) : Bool := wordB l && ascB l
theorem one_lt {c d : Nat} : (([c] : List Nat) < [d]) ↔ c < d := by
  constructor
  · intro h
    cases h with
    | rel h => exact h
    | cons h => cases h
  · exact fun h => List.Lex.rel h
theorem sign_chain (c : Nat) : (if (!decide ((⟨#[c]⟩ : Str).cps.toList < (Str.ofString "a").cps.toList)) = true then !decide ((Str.ofString "z").cps.toList < (⟨#[c]⟩ : Str).cps.toList) else false) = signB c := by
  have e1 : (Str.ofString "a").cps.toList = [97] := by decide +kernel
  have e2 : (Str.ofString "z").cps.toList = [122] := by decide +kernel
  rw [e1, e2]
  show (if (!decide (([c] : List Nat) < [97])) = true then !decide (([122] : List Nat) < [c]) else false) = signB c
  unfold signB
  simp only [one_lt]
  by_cases h1 : c < 97
  · simp [h1, Nat.not_le.mpr h1]
  · by_cases h2 : 122 < c
    · simp [h1, h2]
    · simp [h1, h2, Nat.not_lt.mp h1, Nat.not_lt.mp h2]
theorem size_S {l : List Nat} : (S l).cps.size = l.length := by simp [SX.S]
theorem at_S {l : List Nat} {i : Nat} : (S l).cps[i]? = l[i]? := by simp [SX.S]
theorem len_S (l : List Nat) : (S l).length = l.length := SX.S_len l
theorem take_snoc {α : Type} {l : List α} {i : Nat} {x : α} (h : l[i]? = some x) : l.take (i + 1) = l.take i ++ [x] := by
  rw [List.take_add_one, h]
  rfl
end Sw
namespace Sw
open PySem PySem.Spec PyProof.Rows L2
theorem small_line {n : Nat} (h : n ≤ 100000) : n < sizeLine := Nat.lt_of_le_of_lt h (by decide)
theorem small_le {n : Nat} (h : n ≤ 100000) : n ≤ sizeLine := Nat.le_of_lt (small_line h)
end Sw
namespace Sw
open PySem PySem.Spec PyProof.Rows L2
/-! ### slices of texts -/
theorem cutS_from {l : List Nat} {i : Int} (h : 0 ≤ i) : cutS (S l) (some i) none = S (l.drop i.toNat) := by
  rw [C8.cutS_slice]; exact SX.slice_from h
theorem cutS_to {l : List Nat} {i : Int} (h : 0 ≤ i) : cutS (S l) none (some i) = S (l.take i.toNat) := by
  rw [C8.cutS_slice]; exact SX.slice_to h
end Sw
namespace Sw
open PySem PySem.Spec PyProof.Rows L2
theorem zip_tail {l : List Nat} {i c d : Nat} (h1 : l[i]? = some c) (h2 : (l.drop (1 : Int).toNat)[i]? = some d) : (l.zip l.tail)[i]? = some (c, d) := by
  rw [List.getElem?_zip_eq_some]
  refine ⟨h1, ?_⟩
  have e : l.drop (1 : Int).toNat = l.tail := List.drop_one
  rw [e] at h2
  exact h2
theorem zip_size {l : List Nat} : min (S l).cps.size (S (l.drop (1 : Int).toNat)).cps.size = (l.zip l.tail).length := by
  rw [size_S, size_S, List.length_zip]
  have e : l.drop (1 : Int).toNat = l.tail := List.drop_one
  rw [e]
theorem one_lt_S {c d : Nat} : decide ((⟨#[c]⟩ : Str).cps.toList < (⟨#[d]⟩ : Str).cps.toList) = decide (c < d) := by
  show decide (([c] : List Nat) < [d]) = decide (c < d)
  simp only [one_lt]
end Sw
namespace Sw
open PySem PySem.Spec PyProof.Rows L2
theorem cutS_mid {l : List Nat} {i j : Nat} (h : i ≤ j) (hj : j ≤ l.length) : cutS (S l) (some (i : Int)) (some (j : Int)) = S ((l.drop i).take (j - i)) := by
  unfold cutS
  rw [HT.sIx_nat, HT.sIx_nat, len_S, Nat.min_eq_left hj, Nat.min_eq_left (Nat.le_trans h hj)]
/-! ### the first place of a sign -/
open PySem.StrLaws in
theorem occ_full (s sub : Str) (hi : Nat) (p : Nat) : ∀ (l : List Nat) (f : Nat), (forIn l ((#[p] : Array Nat), f) (occBody s sub hi 1)).run.fst = #[p]
  | [], f => rfl
  | a :: l, f => by
    rw [List.forIn_cons]
    unfold occBody
    rw [if_neg (by simp)]
    exact occ_full s sub hi p l f
open PySem.StrLaws in
theorem occ_to (s sub : Str) (hi p : Nat) (hp : p + sub.length ≤ hi) (hs : Builtin.Str.subAt s sub p = true) : ∀ (n a f : Nat), f ≤ a → a ≤ p → p < a + n → (∀ i, a ≤ i → i < p → ¬ Builtin.Str.subAt s sub i = true) →
    (forIn (List.range' a n) ((#[] : Array Nat), f) (occBody s sub hi 1)).run.fst = #[p]
  | 0, a, f, _, h1, h2, _ => by omega
  | n + 1, a, f, h0, h1, h2, hn => by
    rw [List.range'_succ, List.forIn_cons]
    by_cases e : a = p
    · subst e
      unfold occBody
      rw [if_pos ⟨⟨⟨by simp, h0⟩, hp⟩, hs⟩]
      exact occ_full s sub hi a _ _
    · unfold occBody
      rw [if_neg (fun z => hn a (Nat.le_refl _) (by omega) z.2)]
      exact occ_to s sub hi p hp hs n (a + 1) f (by omega) (by omega) (by omega) fun i h3 h4 => hn i (by omega) h4
theorem first_sign {l : List Nat} {c p : Nat} (h : l[p]? = some c) (hn : ∀ i, i < p → l[i]? ≠ some c) : Builtin.Str.occurrences (S l) (S [c]) 0 (S l).length 1 = [p] := by
  have hp : p < l.length := (List.getElem?_eq_some_iff.mp h).1
  have e1 : (S [c]).length = 1 := rfl
  have at1 := PySem.StrLaws.subAt_one (S l) c
  rw [PySem.StrLaws.occ_eq, occ_to (S l) (S [c]) (S l).length p (by rw [e1, len_S]; omega) ((at1 p).mpr h).2 _ 0 0 (Nat.le_refl _) (Nat.zero_le _) (by rw [len_S]; omega) fun i _ h4 z => hn i h4 ((at1 i).mp ⟨?_, z⟩)]
  show i + 1 ≤ (S l).length
  rw [len_S]
  omega
end Sw
namespace Sw
open PySem PySem.Spec PyProof.Rows L2
/-! ### the deed -/
def swapL (l : List Nat) (p : Nat) : List Nat := l.drop (p + 1) ++ (l.drop p).take 1 ++ l.take p
theorem drop_one {l : List Nat} {p c : Nat} (h : l[p]? = some c) : (l.drop p).take 1 = [c] := by
  obtain ⟨hp, e⟩ := List.getElem?_eq_some_iff.mp h
  rw [List.drop_eq_getElem_cons hp, e]
  rfl
theorem swapL_one {l : List Nat} {p c : Nat} (h : l[p]? = some c) : swapL l p = l.drop (p + 1) ++ [c] ++ l.take p := by
  unfold swapL
  rw [drop_one h]
theorem swapL_len {l : List Nat} {p : Nat} (h : p < l.length) : (swapL l p).length = l.length := by
  unfold swapL
  simp
  omega
theorem swapL_mem {l : List Nat} {p c : Nat} (h : c ∈ swapL l p) : c ∈ l := by
  unfold swapL at h
  rcases List.mem_append.mp h with h | h
  · rcases List.mem_append.mp h with h | h
    · exact List.mem_of_mem_drop h
    · exact List.mem_of_mem_drop (List.mem_of_mem_take h)
  · exact List.mem_of_mem_take h
/-- at the place counted from the end the same sign, and its deed leads back -/
theorem swapL_at {l : List Nat} {p : Nat} (h : p < l.length) : (swapL l p)[l.length - 1 - p]? = l[p]? := by
  have hc : l[p]? = some l[p] := List.getElem?_eq_getElem h
  rw [swapL_one hc, hc, List.append_assoc, List.getElem?_append_right (by rw [List.length_drop]; omega), List.length_drop, show l.length - 1 - p - (l.length - (p + 1)) = 0 by omega]
  rfl
theorem swapL_back {l : List Nat} {p : Nat} (h : p < l.length) : swapL (swapL l p) (l.length - 1 - p) = l := by
  have hc : l[p]? = some l[p] := List.getElem?_eq_getElem h
  rw [swapL_one ((swapL_at h).trans hc), swapL_one hc]
  have e1 : (l.drop (p + 1)).length = l.length - 1 - p := by rw [List.length_drop]; omega
  have e2 : (l.drop (p + 1) ++ [l[p]]).length = l.length - 1 - p + 1 := by rw [List.length_append, e1]; rfl
  rw [List.drop_left' e2, List.append_assoc (l.drop (p + 1)), List.take_left' e1, List.append_assoc]
  rw [List.singleton_append, ← List.drop_eq_getElem_cons h, List.take_append_drop]
/-- the places at which a joint stands -/
def openL (l js : List Nat) : List Nat := (List.range l.length).filter fun i => (l[i]?).any fun c => decide (c ∈ js)
theorem openL_len (l js : List Nat) : (openL l js).length ≤ l.length := by
  unfold openL
  have h := List.length_filter_le (fun i => (l[i]?).any fun c => decide (c ∈ js)) (List.range l.length)
  rw [List.length_range] at h
  exact h
theorem openL_snoc {l : List Nat} (js : List Nat) {i c : Nat} (h : l[i]? = some c) : openL (l.take (i + 1)) js = openL (l.take i) js ++ (if c ∈ js then [i] else []) := by
  obtain ⟨hi, e⟩ := List.getElem?_eq_some_iff.mp h
  have l1 : (l.take (i + 1)).length = i + 1 := by rw [List.length_take]; omega
  have l2 : (l.take i).length = i := by rw [List.length_take]; omega
  unfold openL
  rw [l1, l2, List.range_succ, List.filter_append]
  congr 1
  · refine List.filter_congr fun k hk => ?_
    have hk' : k < i := List.mem_range.mp hk
    rw [List.getElem?_take_of_lt (by omega), List.getElem?_take_of_lt hk']
  · rw [List.filter_cons, List.getElem?_take_of_lt (by omega), h]
    by_cases hm : c ∈ js <;> simp [hm]
theorem mem_openL {l js : List Nat} {i : Nat} (h : i ∈ openL l js) : ∃ c, l[i]? = some c ∧ c ∈ js := by
  unfold openL at h
  obtain ⟨_, h2⟩ := List.mem_filter.mp h
  cases e : l[i]? with
  | none => rw [e] at h2; cases h2
  | some c =>
    rw [e] at h2
    exact ⟨c, rfl, of_decide_eq_true h2⟩
end Sw
namespace Sw
open PySem PySem.Spec PyProof.Rows L2
theorem wordB_mem {l : List Nat} (h : wordB l = true) {c : Nat} (hc : c ∈ l) : 97 ≤ c ∧ c ≤ 122 := by
  have q := List.all_eq_true.mp h c hc
  unfold signB at q
  rw [Bool.and_eq_true] at q
  exact ⟨of_decide_eq_true q.1, of_decide_eq_true q.2⟩
theorem wordB_of {l : List Nat} (h : ∀ c ∈ l, 97 ≤ c ∧ c ≤ 122) : wordB l = true := by
  refine List.all_eq_true.mpr fun c hc => ?_
  unfold signB
  rw [decide_eq_true (h c hc).1, decide_eq_true (h c hc).2]
  rfl
theorem underscore : Str.ofString "_" = S [95] := by decide +kernel
/-- the ring with its hole at p, read from behind the hole on -/
theorem ring_hole {l : List Nat} {p c : Nat} (hw : wordB l = true) (hc : l[p]? = some c) :
    Builtin.Str.occurrences (S (l.take p ++ [95] ++ l.drop (p + 1) ++ [c])) (S [95]) 0 (S (l.take p ++ [95] ++ l.drop (p + 1) ++ [c])).length 1 = [p] := by
  obtain ⟨hp, e⟩ := List.getElem?_eq_some_iff.mp hc
  have lt : (l.take p).length = p := by rw [List.length_take]; omega
  refine first_sign ?_ fun i hi z => ?_
  · rw [List.append_assoc, List.append_assoc, List.getElem?_append_right (by omega), lt, Nat.sub_self]
    rfl
  · rw [List.append_assoc, List.append_assoc, List.getElem?_append_left (by omega)] at z
    have := wordB_mem hw (List.mem_of_mem_take (List.mem_of_getElem? z))
    omega
theorem ring_from {l : List Nat} {p c : Nat} (hp : p < l.length) : (l.take p ++ [95] ++ l.drop (p + 1) ++ [c]).drop (p + 1) = l.drop (p + 1) ++ [c] := by
  have lt : (l.take p ++ [95]).length = p + 1 := by rw [List.length_append, List.length_take]; simp; omega
  rw [List.append_assoc, List.drop_left' lt]
theorem ring_to {l : List Nat} {p c : Nat} (hp : p < l.length) : (l.take p ++ [95] ++ l.drop (p + 1) ++ [c]).take p = l.take p := by
  have lt : (l.take p).length = p := by rw [List.length_take]; omega
  rw [List.append_assoc, List.append_assoc, List.take_left' lt]
end Sw
namespace Sw
open PySem PySem.Spec PyProof.Rows L2
theorem cutV_to1 {ns : List Int} : some (HO.lst (cutV (ns.map V.int) none (some 1))) = some (HO.lst ((ns.take 1).map V.int)) := by
  have e : cutV (ns.map V.int) none (some 1) = (ns.map V.int).take 1 := by
    unfold cutV
    rw [HT.sIx_none, show (some (1 : Int)) = some ((1 : Nat) : Int) from rfl, HT.sIx_nat, List.drop_zero, Nat.sub_zero]
    rcases Nat.lt_or_ge (ns.map V.int).length 1 with h | h
    · rw [Nat.min_eq_right (by omega), List.take_length, List.take_of_length_le (by omega)]
    · rw [Nat.min_eq_left h]
  rw [e, List.map_take]
theorem seed_ok (x : Int) : 0 ≤ x % (10 ^ (60 : Int).toNat) ^ (10 : Int).toNat ∧ (x % (10 ^ (60 : Int).toNat) ^ (10 : Int).toNat).natAbs < 2 ^ 2000 := by
  have h0 : (0 : Int) < (10 ^ (60 : Int).toNat) ^ (10 : Int).toNat := by decide +kernel
  have h1 : ((10 ^ (60 : Int).toNat) ^ (10 : Int).toNat : Int).natAbs < 2 ^ 2000 := by decide +kernel
  have a := Int.emod_nonneg x (show ((10 ^ (60 : Int).toNat) ^ (10 : Int).toNat : Int) ≠ 0 by omega)
  have b := Int.emod_lt_of_pos x h0
  exact ⟨a, Nat.lt_of_lt_of_le (by omega) (Nat.le_of_lt h1)⟩
theorem joinL_signs : ∀ ws : List Nat, TL.joinL [] (ws.map fun c => [c]) = ws
  | [] => rfl
  | [c] => rfl
  | c :: d :: r => by
    have ih := joinL_signs (d :: r)
    show [c] ++ ([] ++ TL.joinL [] ((d :: r).map fun c => [c])) = c :: d :: r
    rw [ih]
    rfl
theorem join_signs (ws : List Nat) : Txt.join (Str.ofString "") (ws.map fun c => S [c]) = S ws := by
  have e0 : Str.ofString "" = S [] := by decide +kernel
  have e1 : (ws.map fun c => S [c]) = (ws.map fun c => [c]).map SX.S := by rw [List.map_map]; rfl
  rw [e0, e1, SX.join_S, joinL_signs]
theorem join_bound {ws : List Nat} (h : ws.length ≤ 100000) : ((ws.map fun c => S [c]).map (·.length)).sum + (ws.map fun c => S [c]).length * (Str.ofString "").length ≤ 16777216 := by
  have e0 : (Str.ofString "").length = 0 := by decide +kernel
  have e1 : ((ws.map fun c => S [c]).map (·.length)).sum = ws.length := by
    rw [List.map_map]
    have : ((fun x : Str => x.length) ∘ fun c => S [c]) = fun _ : Nat => 1 := funext fun c => rfl
    rw [this, List.map_const', List.sum_replicate_nat, Nat.mul_one]
  rw [e0, e1]
  omega
theorem alpha_len : (Str.ofString "abcdefghijklmnopqrstuvwxyz").length = 26 := by decide +kernel
theorem alpha_at (i : Nat) (h : i < 26) : (Str.ofString "abcdefghijklmnopqrstuvwxyz").cps[i]? = some (97 + i) := by
  have all : ∀ k : Fin 26, (Str.ofString "abcdefghijklmnopqrstuvwxyz").cps[k.val]? = some (97 + k.val) := by decide +kernel
  exact all ⟨i, h⟩
end Sw
namespace Sw
open PySem PySem.Spec PyProof.Rows L2
/-! ### lists of places compared -/
abbrev placesV (ns : List Nat) : List V := ns.map fun i => V.int (i : Nat)
def placesD (ns : List Nat) : List PyData := ns.map fun i => PyData.int (i : Nat)
theorem places_dp {K : PySem.W.Frag} {H : Hp} : ∀ ns : List Nat, DpAll K H (placesV ns) (placesD ns)
  | [] => .nil
  | n :: r => .cons (.int _) (places_dp r)
theorem places_lay : ∀ ns : List Nat, PyData.canLayAll0 (placesD ns) = true
  | [] => rfl
  | n :: r => by
    show (PyData.canLay0 (.int (n : Nat)) && PyData.canLayAll0 (placesD r)) = true
    rw [places_lay r]
    rfl
theorem places_depth : ∀ ns : List Nat, PyData.depthAll (placesD ns) = 0
  | [] => rfl
  | n :: r => by
    show max (PyData.depth (.int (n : Nat))) (PyData.depthAll (placesD r)) = 0
    rw [places_depth r]
    rfl
theorem places_shaped (ns : List Nat) : SeqAt.shaped (.list (placesD ns)) = true := by
  unfold SeqAt.shaped
  have e : (PyData.list (placesD ns)).depth = 1 := by
    show PyData.depthAll (placesD ns) + 1 = 1
    rw [places_depth]
  have e2 : (PyData.list (placesD ns)).canLay0 = true := places_lay ns
  rw [e, e2]
  rfl
theorem places_eqv (ns : List Nat) : PyData.eqv (.list (placesD ns)) (.list (placesD ns)) = true := PySem.SeqAt.eqv_refl _ (places_lay ns)
/-- a test that two lists of places are unlike, which they are not -/
theorem ne_places {K : PySem.W.Frag} {H : Hp} {a b : Addr} {ns : List Nat} {Q : VK} (ha : SqL K H a (placesV ns)) (hb : SqL K H b (placesV ns)) (q : Q (.bl false) H) : rNeD K (.ref a) (.ref b) H Q := by
  refine ⟨_, _, .lst ha (places_dp ns), .lst hb (places_dp ns), places_shaped ns, places_shaped ns, ?_⟩
  rw [places_eqv]
  exact q
/-- one of three -/
theorem pick3 {a b c r : Int} (h0 : 0 ≤ r) (h1 : r < 3) {m : Int} (ha : 0 ≤ a ∧ a ≤ m) (hb : 0 ≤ b ∧ b ≤ m) (hc : 0 ≤ c ∧ c ≤ m) : ∃ n : Nat, atI [V.int a, V.int b, V.int c] r = some (V.int (n : Nat)) ∧ (n : Int) ≤ m := by
  have e : r = 0 ∨ r = 1 ∨ r = 2 := by omega
  rcases e with rfl | rfl | rfl
  · exact ⟨a.toNat, by show some (V.int a) = _; rw [Int.toNat_of_nonneg ha.1], by omega⟩
  · exact ⟨b.toNat, by show some (V.int b) = _; rw [Int.toNat_of_nonneg hb.1], by omega⟩
  · exact ⟨c.toNat, by show some (V.int c) = _; rw [Int.toNat_of_nonneg hc.1], by omega⟩
theorem ascB_of {l : List Nat} (h : l.Pairwise (· < ·)) : ascB l = true := by
  unfold ascB
  refine List.all_eq_true.mpr fun p hp => ?_
  refine decide_eq_true ?_
  induction h with
  | nil => cases hp
  | @cons a r hr _ ih =>
    cases r with
    | nil => cases hp
    | cons b t =>
      have hp' : p ∈ (a, b) :: ((b :: t).zip t) := hp
      rcases List.mem_cons.mp hp' with e | hp'
      · rw [e]; exact hr b List.mem_cons_self
      · exact ih hp'
theorem jointsB_of {l : List Nat} (h : l.Pairwise (· < ·)) (hw : ∀ c ∈ l, 97 ≤ c ∧ c ≤ 122) : jointsB l = true := by
  unfold jointsB
  rw [wordB_of hw, ascB_of h]
  rfl
theorem jointsB_one {c : Nat} (h : 97 ≤ c ∧ c ≤ 122) : jointsB [c] = true := jointsB_of (List.pairwise_singleton _ _) fun d hd => by rw [List.mem_singleton.mp hd]; exact h
/-- some of the places: the first twelve and the last two -/
theorem cutV_to12 (xs : List V) : cutV xs none (some 12) = xs.take 12 := by
  unfold cutV
  rw [HT.sIx_none, show (some (12 : Int)) = some ((12 : Nat) : Int) from rfl, HT.sIx_nat, List.drop_zero, Nat.sub_zero]
  rcases Nat.lt_or_ge xs.length 12 with h | h
  · rw [Nat.min_eq_right (by omega), List.take_length, List.take_of_length_le (by omega)]
  · rw [Nat.min_eq_left h]
theorem openL_nil (l : List Nat) : openL l [] = [] := by
  unfold openL
  refine List.filter_eq_nil_iff.mpr fun i _ => ?_
  cases l[i]? <;> simp
theorem cutV_from {xs : List V} {k : Nat} (h : k ≤ xs.length) : cutV xs (some (k : Int)) none = xs.drop k := by
  unfold cutV
  rw [HT.sIx_none, HT.sIx_nat, Nat.min_eq_left h, List.take_of_length_le (by rw [List.length_drop]; omega)]
end Sw
namespace Sw
open PySem PySem.Spec PyProof.Rows L2
/-- what was not there before may change -/
theorem But.after {g : Addr} {H H1 H2 : Hp} (b : But g H1 H2) (s : Same H H1) (hg : H g = none) : Same H H2 := fun c o h => b c o (ne_of_none h hg) (s c o h)
end Sw
/-! Roads, what they move, what they cost. -/
namespace Sw
open PySem PySem.Spec PyProof.Rows L2
/-- the word to which a road leads; the words it passes -/
def ends (l r : List Nat) : List Nat := r.foldl swapL l
def pass (l : List Nat) : List Nat → List (List Nat)
  | [] => [l]
  | p :: r => l :: pass (swapL l p) r
def IsRoad (js l : List Nat) : List Nat → Prop
  | [] => True
  | p :: r => (∃ c, l[p]? = some c ∧ c ∈ js) ∧ IsRoad js (swapL l p) r
def backL (n : Nat) (r : List Nat) : List Nat := r.reverse.map fun p => n - 1 - p
theorem ends_cons (l : List Nat) (p : Nat) (r : List Nat) : ends l (p :: r) = ends (swapL l p) r := rfl
theorem ends_append (l r q : List Nat) : ends l (r ++ q) = ends (ends l r) q := by unfold ends; rw [List.foldl_append]
theorem ends_snoc (l r : List Nat) (p : Nat) : ends l (r ++ [p]) = swapL (ends l r) p := by rw [ends_append]; rfl
theorem pass_len (l r : List Nat) : (pass l r).length = r.length + 1 := by
  induction r generalizing l with
  | nil => rfl
  | cons p r ih => unfold pass; rw [List.length_cons, ih]; rfl
theorem pass_snoc (l r : List Nat) (p : Nat) : pass l (r ++ [p]) = pass l r ++ [ends l (r ++ [p])] := by
  induction r generalizing l with
  | nil => rfl
  | cons q r ih =>
    show l :: pass (swapL l q) (r ++ [p]) = l :: pass (swapL l q) r ++ [ends (swapL l q) (r ++ [p])]
    rw [ih]
    rfl
theorem pass_last (l r : List Nat) : (pass l r)[r.length]? = some (ends l r) := by
  induction r generalizing l with
  | nil => rfl
  | cons p r ih => show (l :: pass (swapL l p) r)[r.length + 1]? = _; rw [List.getElem?_cons_succ, ih]; rfl
theorem road_lt {js l r : List Nat} (h : IsRoad js l r) : ∀ p ∈ r, p < l.length := by
  induction r generalizing l with
  | nil => intro p hp; cases hp
  | cons q r ih =>
    obtain ⟨⟨c, hc, _⟩, h2⟩ := h
    have hq : q < l.length := (List.getElem?_eq_some_iff.mp hc).1
    intro p hp
    rcases List.mem_cons.mp hp with e | hp
    · rw [e]; exact hq
    · have := ih h2 p hp
      rw [swapL_len hq] at this
      exact this
theorem ends_len {l r : List Nat} (h : ∀ p ∈ r, p < l.length) : (ends l r).length = l.length := by
  induction r generalizing l with
  | nil => rfl
  | cons q r ih =>
    have hq := h q List.mem_cons_self
    rw [ends_cons, ih fun p hp => by rw [swapL_len hq]; exact h p (List.mem_cons_of_mem _ hp), swapL_len hq]
theorem ends_mem {l r : List Nat} {c : Nat} (h : c ∈ ends l r) : c ∈ l := by
  induction r generalizing l with
  | nil => exact h
  | cons q r ih => exact swapL_mem (ih h)
theorem road_append {js l r q : List Nat} : IsRoad js l (r ++ q) ↔ IsRoad js l r ∧ IsRoad js (ends l r) q := by
  induction r generalizing l with
  | nil => exact ⟨fun h => ⟨trivial, h⟩, fun h => h.2⟩
  | cons p r ih =>
    constructor
    · rintro ⟨h1, h2⟩
      exact ⟨⟨h1, (ih.mp h2).1⟩, (ih.mp h2).2⟩
    · rintro ⟨⟨h1, h2⟩, h3⟩
      exact ⟨h1, ih.mpr ⟨h2, h3⟩⟩
theorem road_at {js l r : List Nat} {i p : Nat} (h : IsRoad js l r) (hi : r[i]? = some p) : ∃ c, (ends l (r.take i))[p]? = some c ∧ c ∈ js := by
  have e : r = r.take i ++ p :: r.drop (i + 1) := by
    obtain ⟨hl, e⟩ := List.getElem?_eq_some_iff.mp hi
    rw [← e, ← List.drop_eq_getElem_cons hl, List.take_append_drop]
  rw [e] at h
  exact (road_append.mp h).2.1
theorem ends_take {l r : List Nat} {i p : Nat} (hi : r[i]? = some p) : ends l (r.take (i + 1)) = swapL (ends l (r.take i)) p := by
  rw [take_snoc hi, ends_snoc]
theorem pass_take {l r : List Nat} {i p : Nat} (hi : r[i]? = some p) : pass l (r.take (i + 1)) = pass l (r.take i) ++ [ends l (r.take (i + 1))] := by
  rw [take_snoc hi, pass_snoc]
theorem road_take {js l r : List Nat} {i : Nat} (h : IsRoad js l r) : IsRoad js l (r.take i) := by
  have e : r = r.take i ++ r.drop i := (List.take_append_drop i r).symm
  rw [e] at h
  exact (road_append.mp h).1
theorem backL_cons (n p : Nat) (r : List Nat) : backL n (p :: r) = backL n r ++ [n - 1 - p] := by
  unfold backL
  rw [List.reverse_cons, List.map_append]
  rfl
theorem back_ends {l r : List Nat} (h : ∀ p ∈ r, p < l.length) : ends (ends l r) (backL l.length r) = l := by
  induction r generalizing l with
  | nil => rfl
  | cons p r ih =>
    have hp := h p List.mem_cons_self
    have hr : ∀ q ∈ r, q < (swapL l p).length := fun q hq => by rw [swapL_len hp]; exact h q (List.mem_cons_of_mem _ hq)
    have := ih hr
    rw [swapL_len hp] at this
    rw [backL_cons, ends_snoc, ends_cons, this, swapL_back hp]
theorem back_road {js l r : List Nat} (h : IsRoad js l r) : IsRoad js (ends l r) (backL l.length r) := by
  induction r generalizing l with
  | nil => trivial
  | cons p r ih =>
    obtain ⟨⟨c, hc, hm⟩, h2⟩ := h
    have hp : p < l.length := (List.getElem?_eq_some_iff.mp hc).1
    have i2 := ih h2
    have e2 := back_ends (road_lt h2)
    rw [swapL_len hp] at i2 e2
    rw [backL_cons, road_append, ends_cons]
    refine ⟨i2, ⟨c, ?_, hm⟩, trivial⟩
    rw [e2]
    exact (swapL_at hp).trans hc
/-! ### what goes along: the same for the places as for the signs -/
theorem swapL_map (f : Nat → Nat) (l : List Nat) (p : Nat) : swapL (l.map f) p = (swapL l p).map f := by
  unfold swapL
  rw [List.map_append, List.map_append, List.map_drop, List.map_take, List.map_drop, List.map_take]
theorem ends_map (f : Nat → Nat) (l r : List Nat) : ends (l.map f) r = (ends l r).map f := by
  induction r generalizing l with
  | nil => rfl
  | cons p r ih => rw [ends_cons, ends_cons, swapL_map, ih]
theorem range_get (l : List Nat) : (List.range l.length).map (fun i => l.getD i 0) = l := by
  refine List.ext_getElem (by simp) fun i h1 h2 => ?_
  simp at h1
  simp [h1]
theorem moved_get (l r : List Nat) : (ends (List.range l.length) r).map (fun i => l.getD i 0) = ends l r := by
  rw [← ends_map, range_get]
/-! ### prices -/
def PricesOk (ps : List (Nat × Int)) : Prop := (∀ q ∈ ps, (97 ≤ q.1 ∧ q.1 ≤ 122) ∧ 1 ≤ q.2) ∧ (ps.map (·.1)).Pairwise (· < ·)
def priceAt (ps : List (Nat × Int)) (c : Nat) : Int := ((ps.find? fun q => decide (q.1 = c)).map (·.2)).getD 0
def costL (ps : List (Nat × Int)) (l : List Nat) : List Nat → Int
  | [] => 0
  | p :: r => priceAt ps (l.getD p 0) + costL ps (swapL l p) r
theorem cost_append (ps : List (Nat × Int)) (l r q : List Nat) : costL ps l (r ++ q) = costL ps l r + costL ps (ends l r) q := by
  induction r generalizing l with
  | nil => show costL ps l q = 0 + costL ps l q; omega
  | cons p r ih => show priceAt ps (l.getD p 0) + costL ps (swapL l p) (r ++ q) = _; rw [ih, ends_cons]; show _ = (priceAt ps (l.getD p 0) + costL ps (swapL l p) r) + _; omega
theorem cost_take {ps : List (Nat × Int)} {l r : List Nat} {i p : Nat} (hi : r[i]? = some p) : costL ps l (r.take (i + 1)) = costL ps l (r.take i) + priceAt ps ((ends l (r.take i)).getD p 0) := by
  rw [take_snoc hi, cost_append]
  show _ + (priceAt ps _ + 0) = _
  omega
theorem cost_back (ps : List (Nat × Int)) {l r : List Nat} (h : ∀ p ∈ r, p < l.length) : costL ps (ends l r) (backL l.length r) = costL ps l r := by
  induction r generalizing l with
  | nil => rfl
  | cons p r ih =>
    have hp := h p List.mem_cons_self
    have hr : ∀ q ∈ r, q < (swapL l p).length := fun q hq => by rw [swapL_len hp]; exact h q (List.mem_cons_of_mem _ hq)
    have i2 := ih hr
    have e2 := back_ends hr
    rw [swapL_len hp] at i2 e2
    rw [backL_cons, cost_append, ends_cons, i2, e2]
    show costL ps (swapL l p) r + (priceAt ps ((swapL l p).getD (l.length - 1 - p) 0) + 0) = priceAt ps (l.getD p 0) + costL ps (swapL l p) r
    have e3 : (swapL l p).getD (l.length - 1 - p) 0 = l.getD p 0 := by rw [List.getD_eq_getElem?_getD, List.getD_eq_getElem?_getD, swapL_at hp]
    rw [e3]
    omega
/-- the price of a letter is the sum of all prices of this letter -/
theorem price_sum {ps : List (Nat × Int)} (h : (ps.map (·.1)).Pairwise (· < ·)) (c : Nat) : ((ps.filter fun q => decide (q.1 = c)).map (·.2)).sum = priceAt ps c := by
  induction ps with
  | nil => rfl
  | cons q r ih =>
    have h' : (q.1 :: r.map (·.1)).Pairwise (· < ·) := h
    obtain ⟨h1, h2⟩ := List.pairwise_cons.mp h'
    unfold priceAt
    rw [List.filter_cons, List.find?_cons]
    by_cases e : q.1 = c
    · have hno : r.filter (fun q => decide (q.1 = c)) = [] := List.filter_eq_nil_iff.mpr fun y hy z => by
        have := h1 y.1 (List.mem_map_of_mem hy)
        have := of_decide_eq_true z
        omega
      simp [e, hno]
    · have := ih h2
      unfold priceAt at this
      simp only [e, decide_false]
      exact this
theorem price_find {ps : List (Nat × Int)} {c : Nat} (h : c ∈ ps.map (·.1)) : ∃ v, (ps.find? fun q => decide (q.1 = c)) = some v ∧ v.2 = priceAt ps c := by
  unfold priceAt
  cases e : ps.find? fun q => decide (q.1 = c) with
  | some v => exact ⟨v, rfl, rfl⟩
  | none =>
    obtain ⟨q, hq, rfl⟩ := List.mem_map.mp h
    exact absurd (decide_eq_true rfl) (List.find?_eq_none.mp e q hq)
/-- prices as they stand in the heap -/
def PriceT (H : Hp) (t : V) (q : Nat × Int) : Prop := ∃ a, t = .ref a ∧ H a = some (.tup [.str (S [q.1]), .int q.2])
def PricesAt (H : Hp) (a : Addr) (ps : List (Nat × Int)) : Prop := ∃ ts : List V, H a = some (.lst ts) ∧ Paired (PriceT H) ts ps
theorem PriceT.same {H H' : Hp} {t : V} {q : Nat × Int} (s : Same H H') (h : PriceT H t q) : PriceT H' t q := by
  obtain ⟨a, e, h⟩ := h
  exact ⟨a, e, s _ _ h⟩
theorem PricesAt.same {H H' : Hp} {a : Addr} {ps : List (Nat × Int)} (s : Same H H') (h : PricesAt H a ps) : PricesAt H' a ps := by
  obtain ⟨ts, h1, h2⟩ := h
  exact ⟨ts, s _ _ h1, Paired.mapP h2 fun t q z => PriceT.same s z⟩
theorem Paired.len {α β : Type} {F : α → β → Prop} : ∀ {xs : List α} {ys : List β}, Paired F xs ys → xs.length = ys.length
  | _, _, .nil => rfl
  | _, _, .cons _ t => congrArg Nat.succ (Paired.len t)
theorem Paired.at {α β : Type} {F : α → β → Prop} : ∀ {xs : List α} {ys : List β} {i : Nat} {x : α}, Paired F xs ys → xs[i]? = some x → ∃ y, ys[i]? = some y ∧ F x y
  | _, _, _, _, .nil, e => by simp at e
  | _, _, 0, x, .cons r _, e => by simp at e; subst e; exact ⟨_, rfl, r⟩
  | _, _, i + 1, x, .cons _ t, e => Paired.at (i := i) t (by simpa using e)
theorem Paired.snoc {α β : Type} {F : α → β → Prop} : ∀ {xs : List α} {ys : List β} {x : α} {y : β}, Paired F xs ys → F x y → Paired F (xs ++ [x]) (ys ++ [y])
  | _, _, _, _, .nil, h => .cons h .nil
  | _, _, _, _, .cons r t, h => .cons r (Paired.snoc t h)
/-- the dict of prices -/
def pricesK (ps : List (Nat × Int)) : List (Key × V) := ps.map fun q => (Sum.inr (S [q.1]), V.int q.2)
theorem mergeK_new : ∀ (more kvs : List (Key × V)), (∀ q ∈ more, valV kvs q.1 = none) → (more.map (·.1)).Nodup → mergeK kvs more = kvs ++ more
  | [], kvs, _, _ => (List.append_nil kvs).symm
  | q :: r, kvs, h, nd => by
    obtain ⟨n1, n2⟩ := List.nodup_cons.mp (show (q.1 :: r.map (·.1)).Nodup from nd)
    have e := putK_new q.2 (h q List.mem_cons_self)
    show mergeK (putK kvs q.1 q.2) r = kvs ++ q :: r
    rw [e, mergeK_new r _ (fun y hy => ?_) n2, List.append_assoc]
    · rfl
    · rw [valV_snoc _ _ _ _ (h q List.mem_cons_self), if_neg (fun z : y.1 = q.1 => n1 (by rw [← z]; exact List.mem_map_of_mem hy))]
      exact h y (List.mem_cons_of_mem _ hy)
theorem S_one_inj {c d : Nat} (h : S [c] = S [d]) : c = d := by
  have := SX.S_inj h
  injection this
theorem prices_merge {ps : List (Nat × Int)} (h : (ps.map (·.1)).Pairwise (· < ·)) : mergeK [] (pricesK ps) = pricesK ps := by
  rw [mergeK_new (pricesK ps) [] (fun _ _ => rfl) ?_, List.nil_append]
  unfold pricesK
  rw [List.map_map]
  have e : ((fun x : Key × V => x.1) ∘ fun q : Nat × Int => ((Sum.inr (S [q.1]) : Key), V.int q.2)) = (fun c : Nat => (Sum.inr (S [c]) : Key)) ∘ fun q : Nat × Int => q.1 := rfl
  rw [e, ← List.map_map, List.Nodup, List.pairwise_map]
  refine h.imp fun {a b} lt z => ?_
  have := S_one_inj (Sum.inr.inj z)
  omega
theorem prices_val {ps : List (Nat × Int)} {c : Nat} (h : c ∈ ps.map (·.1)) : valV (pricesK ps) (Sum.inr (S [c])) = some (V.int (priceAt ps c)) := by
  obtain ⟨v, hv, e⟩ := price_find h
  rw [← e]
  unfold valV pricesK
  rw [List.find?_map]
  have e2 : ((fun kv : Key × V => decide (kv.1 = Sum.inr (S [c]))) ∘ fun q : Nat × Int => ((Sum.inr (S [q.1]) : Key), V.int q.2)) = fun q : Nat × Int => decide (q.1 = c) := by
    funext q
    show decide ((Sum.inr (S [q.1]) : Key) = Sum.inr (S [c])) = decide (q.1 = c)
    by_cases z : q.1 = c
    · rw [z]; simp
    · rw [decide_eq_false z, decide_eq_false fun y => z (S_one_inj (Sum.inr.inj y))]
  rw [e2, hv]
  rfl
end Sw
namespace Sw
open PySem PySem.Spec PyProof.Rows L2
theorem cutV_tail (xs : List V) : cutV xs (some 1) none = xs.tail := by
  unfold cutV
  rw [HT.sIx_none, show (some (1 : Int)) = some ((1 : Nat) : Int) from rfl, HT.sIx_nat]
  cases xs with
  | nil => rfl
  | cons x r =>
    have e : min 1 (x :: r).length = 1 := by simp
    rw [e, List.take_of_length_le (by simp)]
    rfl
theorem one_lt_S' {c d : Nat} : decide ((S [c]).cps.toList < (S [d]).cps.toList) = decide (c < d) := one_lt_S
abbrev wordsV (ws : List (List Nat)) : List V := ws.map fun l => V.str (S l)
theorem place_of {r : List Nat} {i : Nat} {y : V} (h : (placesV r)[i]? = some y) : ∃ p, r[i]? = some p ∧ y = V.int (p : Nat) := by
  rw [List.getElem?_map] at h
  obtain ⟨p, hp, e⟩ := Option.map_eq_some_iff.mp h
  exact ⟨p, hp, e.symm⟩
theorem at_last {xs : List V} {v : V} (h : xs[xs.length - 1]? = some v) : atI xs (-1) = some v := by
  have hl : 0 < xs.length := by
    have := (List.getElem?_eq_some_iff.mp h).1
    omega
  unfold atI ixN
  rw [if_neg (by omega), if_pos (by omega)]
  show xs[((xs.length : Int) + -1).toNat]? = some v
  rw [show ((xs.length : Int) + -1).toNat = xs.length - 1 by omega]
  exact h
theorem last_word {l r : List Nat} (_ : r.length = r.length) : atI (wordsV (pass l r)) (-1) = some (V.str (S (ends l r))) := by
  refine at_last ?_
  rw [List.length_map, pass_len, Nat.add_sub_cancel, List.getElem?_map, pass_last]
  rfl
end Sw
namespace Sw
open PySem PySem.Spec PyProof.Rows L2
theorem cutV_mid {xs : List V} {i j : Nat} (h : i ≤ j) (hj : j ≤ xs.length) : cutV xs (some (i : Int)) (some (j : Int)) = (xs.drop i).take (j - i) := by
  unfold cutV
  rw [HT.sIx_nat, HT.sIx_nat, Nat.min_eq_left hj, Nat.min_eq_left (Nat.le_trans h hj)]
theorem cutV_toN {xs : List V} {j : Nat} (hj : j ≤ xs.length) : cutV xs none (some (j : Int)) = xs.take j := by
  unfold cutV
  rw [HT.sIx_none, HT.sIx_nat, Nat.min_eq_left hj, List.drop_zero, Nat.sub_zero]
theorem rg_places {n : Nat} : rgV 0 (n : Int) = placesV (List.range n) := by
  unfold rgV
  rw [show ((n : Int) - 0).toNat = n by omega]
  refine List.map_congr_left fun i _ => ?_
  rw [Int.zero_add]
theorem pass_at {l r : List Nat} {i : Nat} (h : i ≤ r.length) : (pass l r)[i]? = some (ends l (r.take i)) := by
  induction r generalizing l i with
  | nil =>
    have e : i = 0 := by simp at h; exact h
    subst e
    rfl
  | cons p r ih =>
    cases i with
    | zero => rfl
    | succ i =>
      show (l :: pass (swapL l p) r)[i + 1]? = _
      rw [List.getElem?_cons_succ, ih (by simp at h; omega)]
      rfl
theorem prices_addrs {H : Hp} : ∀ {ts : List V} {ps : List (Nat × Int)}, Paired (PriceT H) ts ps → ∃ as : List Addr, ts = as.map V.ref ∧ Paired (fun a q => H a = some (.tup [.str (S q.1.1), .int q.2]) ∧ True) as (ps.map fun q => (([q.1], ()), q.2))
  | _, _, .nil => ⟨[], rfl, .nil⟩
  | _, _, .cons r t => by
    obtain ⟨a, rfl, h⟩ := r
    obtain ⟨as, rfl, hp⟩ := prices_addrs t
    exact ⟨a :: as, rfl, .cons ⟨h, trivial⟩ hp⟩
theorem prices_paired {K : PySem.W.Frag} {H : Hp} : ∀ {as : List Addr} {ps : List (Nat × Int)}, Paired (fun a (q : (List Nat × Unit) × Int) => H a = some (.tup [.str (S q.1.1), .int q.2]) ∧ True) as (ps.map fun q => (([q.1], ()), q.2)) →
    Paired (fun p (kv : Key × V) => SqT K H p [kV kv.1, kv.2]) as (pricesK ps)
  | [], [], _ => .nil
  | a :: as, q :: ps, h => by
    cases h with
    | cons h t => exact .cons (SqT.of h.1) (prices_paired t)
  | [], _ :: _, h => by cases h
  | _ :: _, [], h => by cases h
theorem places_ne_nil {K : PySem.W.Frag} {H : Hp} {a b : Addr} {ns : List Nat} {Q : VK} (ha : SqL K H a (placesV ns)) (hb : SqL K H b []) (q : Q (.bl (!ns.isEmpty)) H) : rNeD K (.ref a) (.ref b) H Q := by
  refine ⟨_, _, .lst ha (places_dp ns), .lst hb .nil, places_shaped ns, places_shaped [], ?_⟩
  have e : PyData.eqv (.list (placesD ns)) (.list []) = ns.isEmpty := by
    cases ns with
    | nil => exact places_eqv []
    | cons n r => rfl
  rw [e]
  exact q
end Sw
namespace Sw
open PySem PySem.Spec PyProof.Rows L2
/-- one of two -/
theorem pick2 {a b r : Int} (h0 : 0 ≤ r) (h1 : r < 2) : ∃ n : Int, atI [V.int a, V.int b] r = some (V.int n) ∧ (n = a ∨ n = b) ∧ True := by
  have e : r = 0 ∨ r = 1 := by omega
  rcases e with rfl | rfl
  · exact ⟨a, rfl, .inl rfl, trivial⟩
  · exact ⟨b, rfl, .inr rfl, trivial⟩
end Sw
namespace Sw
open PySem PySem.Spec PyProof.Rows L2
theorem Same.updF {H H1 : Hp} {p : Addr} {o : HO} (s : Same H H1) (hp : H p = none) : Same H (L2.upd H1 p o) := fun c u h => by
  rw [upd_ne (ne_of_none h hp)]
  exact s c u h
/-! ### prices compared -/
def priceD (q : Nat × Int) : PyData := .tuple [.str (S [q.1]), .int q.2]
theorem prices_dp {K : PySem.W.Frag} {H : Hp} : ∀ {ts : List V} {ps : List (Nat × Int)}, Paired (PriceT H) ts ps → DpAll K H ts (ps.map priceD)
  | _, _, .nil => .nil
  | _, _, .cons r t => by
    obtain ⟨a, rfl, h⟩ := r
    exact .cons (.tup (SqT.of h) (.cons (.str _) (.cons (.int _) .nil))) (prices_dp t)
theorem prices_lay : ∀ {ps : List (Nat × Int)}, (∀ q ∈ ps, q.1 ≤ 122) → PyData.canLayAll0 (ps.map priceD) = true
  | [], _ => rfl
  | q :: r, h => by
    have h1 := h q List.mem_cons_self
    have h2 := prices_lay (ps := r) fun y hy => h y (List.mem_cons_of_mem _ hy)
    have e : PyData.strOk (S [q.1]) = true := by
      show ((#[q.1] : Array Nat).all fun c => decide (c < 0x110000)) = true
      simp
      omega
    show ((PyData.strOk (S [q.1]) && (true && true)) && PyData.canLayAll0 (r.map priceD)) = true
    rw [e, h2]
    rfl
theorem prices_depth : ∀ ps : List (Nat × Int), PyData.depthAll (ps.map priceD) ≤ 1
  | [] => Nat.zero_le _
  | q :: r => Nat.max_le.mpr ⟨Nat.le_refl _, prices_depth r⟩
theorem prices_shaped {ps : List (Nat × Int)} (h : ∀ q ∈ ps, q.1 ≤ 122) : SeqAt.shaped (.list (ps.map priceD)) = true := by
  unfold SeqAt.shaped
  have e : (PyData.list (ps.map priceD)).depth ≤ 64 := by
    show PyData.depthAll (ps.map priceD) + 1 ≤ 64
    have := prices_depth ps
    omega
  have e2 : (PyData.list (ps.map priceD)).canLay0 = true := prices_lay h
  rw [e2, decide_eq_true e]
  rfl
theorem prices_same {K : PySem.W.Frag} {H : Hp} {a b : Addr} {ps : List (Nat × Int)} {Q : VK} (ok : PricesOk ps) (ha : PricesAt H a ps) (hb : PricesAt H b ps) (q : Q (.bl false) H) : rNeD K (.ref a) (.ref b) H Q := by
  obtain ⟨ts, h1, h2⟩ := ha
  obtain ⟨us, h3, h4⟩ := hb
  have hle : ∀ q ∈ ps, q.1 ≤ 122 := fun q hq => (ok.1 q hq).1.2
  refine ⟨_, _, .lst (SqL.of h1) (prices_dp h2), .lst (SqL.of h3) (prices_dp h4), prices_shaped hle, prices_shaped hle, ?_⟩
  rw [PySem.SeqAt.eqv_refl _ (show (PyData.list (ps.map priceD)).canLay0 = true from prices_lay hle)]
  exact q
theorem PriceT.upd {H : Hp} {D : Addr} {xs ys : List V} (hD : H D = some (.lst xs)) {t : V} {q : Nat × Int} (h : PriceT H t q) : PriceT (L2.upd H D (.lst ys)) t q := by
  obtain ⟨a, e, h⟩ := h
  exact ⟨a, e, by rw [upd_ne (ne_of h hD (by intro z; cases z))]; exact h⟩
theorem PricesAt.but {g a : Addr} {H H' : Hp} {n : Nat} {ps : List (Nat × Int)} (G : GenAt H g n) (ne : a ≠ g) (b : But g H H') (h : PricesAt H a ps) : PricesAt H' a ps := by
  obtain ⟨ts, h1, h2⟩ := h
  obtain ⟨x, y, z, g0, _⟩ := G
  refine ⟨ts, b _ _ ne h1, Paired.mapP h2 fun t q z => ?_⟩
  obtain ⟨c, e, h⟩ := z
  exact ⟨c, e, b _ _ (ne_of h g0 (by intro z; cases z)) h⟩
/-- what the last part of the law about moved letters leans on -/
structure Facts4 (H0 : Hp) (g D m fe v : Addr) (ps : List (Nat × Int)) (r due : List Nat) (c : Nat) (H : Hp) : Prop where
  pr : PricesAt H D ps
  fe : PricesAt H fe ps
  du : H m = some (.lst (placesV due))
  ro : H v = some (.lst (placesV r))
  G : GenAt H g c
  B : But g H0 H
theorem Facts4.same {H0 H H' : Hp} {g D m fe v : Addr} {ps : List (Nat × Int)} {r due : List Nat} {c : Nat} (F : Facts4 H0 g D m fe v ps r due c H) (s : Same H H') : Facts4 H0 g D m fe v ps r due c H' :=
  ⟨F.pr.same s, F.fe.same s, s _ _ F.du, s _ _ F.ro, F.G.same s, F.B.trans (.same s)⟩
theorem due_get {n : Nat} {r : List Nat} (h : ∀ p ∈ r, p < n) : (ends (List.range n) (backL n r)).map (fun i => (ends (List.range n) r).getD i 0) = List.range n := by
  have hl : ∀ p ∈ r, p < (List.range n).length := fun p hp => by rw [List.length_range]; exact h p hp
  have e0 : (ends (List.range n) r).length = n := by rw [ends_len hl, List.length_range]
  have e1 : (List.range n).map (fun i => (ends (List.range n) r).getD i 0) = ends (List.range n) r := by
    have := range_get (ends (List.range n) r)
    rw [e0] at this
    exact this
  rw [← ends_map, e1]
  have := back_ends hl
  rw [List.length_range] at this
  exact this
end Sw
namespace Sw
open PySem PySem.Spec PyProof.Rows L2
/-- a test that two lists of places are alike, which they are -/
theorem eq_places {K : PySem.W.Frag} {H : Hp} {a b : Addr} {ns : List Nat} {Q : VK} (ha : SqL K H a (placesV ns)) (hb : SqL K H b (placesV ns)) (q : Q (.bl true) H) : rEqD K (.ref a) (.ref b) H Q := by
  refine ⟨_, _, .lst ha (places_dp ns), .lst hb (places_dp ns), places_shaped ns, places_shaped ns, ?_⟩
  rw [places_eqv]
  exact q
end Sw
/-! Defs that are entered while no repr runs: what repr of data needs of its surroundings, carried from call to call. -/
namespace Sw
open PySem PySem.Spec PyProof.Rows L2
/-- no repr of a container is under way -/
def Calm (A : Around) : Prop := A.guards = some []
section
variable {CX : CXT} {P : Program} {w : World} {K : PySem.W.Frag} {mg : Str → Option Value} {base : Heap}
/-- one entry of a def, by its body at just this entry -/
theorem enter_at {k : Nat} {f : Addr} {name qual : Str} {params : Arguments} {body : List Stmt} {scope : Scope} {dV kV doc pm cdv ct oc : Value} {an od : Option Addr} {osl : Array (Option Value)} {N ps : List Str}
    {A : Around} {outer : List Env} {s : Shared} {H : Hp} {args : Args} {us : List Value} {vs : List V} {Q : VK} {E : XK} {t : TS}
    (lk : K.lookup f = some ⟨oc, od, .func (PySem.W.fnOf name qual params body scope dV kV doc pm an cdv ct), osl⟩) (hcd : PySem.W.codeIn K cdv qual = true) (S : FnScope N ps scope) (hl : vs.length = ps.length)
    (hr : Room (k + 1) A) (e0 : Env0 P w K mg base A outer s H) (hb : BindsTo s (PySem.W.fnOf name qual params body scope dV kV doc pm an cdv ct) args (ps.zip us)) (r : Vals vs us)
    (ht : PSs (cxOf CX P w K mg base N qual scope f cdv A outer s H E) body t) (hq : t { nx := fun _ H' => Q .non H', rt := Q } (start N vs) H) :
    codeAny (model P w) A (.call (.ref f) args) (CR CX outer P w H s Q E) s := by
  have kept : ∀ b o, base.get? b = some o → s.heap.get? b = some o := fun b o e => (e0.bs b o e).1
  have KX := e0.mod.kin.keeps kept
  refine codeAny_call_function hr.depth (KX _ _ lk) rfl S.co S.gen rfl (PySem.W.codeRec_of KX hcd) (hb _ _ _ _ (wpAny_newFunctionEnv_cells S.kind (fun y hy => ?_) fun env he s1 x => ?_))
  · have hm : y.1 ∈ ps := (List.of_mem_zip (show (y.1, y.2) ∈ ps.zip us from hy)).1
    cases S.par y.1 hm with
    | inl q => exact .inl q
    | inr q => exact .inr ⟨q, PySem.W.cellsFrom_some _ _ _ (.inl q)⟩
  · subst he
    refine ⟨(e0.mod.nolimit.keeps kept).keeps x.toInCall.keep, codeAny_func ?_⟩
    refine wpAny_mono (ht.run [] s1 (start N vs) H _ (inv_start S hr.hd e0 hl r x) hq) (fun fl s' hs => ?_) fun _ _ hs => hs
    match fl, hs with
    | .ret u, hs =>
      obtain ⟨v, σ', H', J, rv, q⟩ := hs
      exact ⟨v, H', J.os, J.bare, J.base, J.hok, rv, q⟩
    | .next, hs =>
      obtain ⟨σ', H', J, q⟩ := hs
      exact ⟨V.non, H', J.os, J.bare, J.base, J.hok, rfl, q⟩
    | .brk, hs => exact hs.elim fun _ hs => hs.elim fun _ hs => hs.2.elim
    | .cont, hs => exact hs.elim fun _ hs => hs.elim fun _ hs => hs.2.elim
end
/-- a def's promise where no repr is under way -/
structure FnC (P : Program) (w : World) (K : PySem.W.Frag) (mg : Str → Option Value) (base : Heap) (CX : CXT) (k : Nat) (f : Addr) (fd : FuncData) (ps : List Str) (sp : Sp) : Prop where
  len : ∀ vs H Q E, sp vs H Q E → vs.length = ps.length
  run : ∀ (A : Around) (outer : List Env) (s : Shared) (H : Hp) (args : Args) (us : List Value) (vs : List V) (Q : VK) (E : XK), Room k A → Calm A → Env0 P w K mg base A outer s H → BindsTo s fd args (ps.zip us) → Vals vs us → sp vs H Q E →
    codeAny (model P w) A (.call (.ref f) args) (CR CX outer P w H s Q E) s
section
variable {CX : CXT} {P : Program} {w : World} {K : PySem.W.Frag} {mg : Str → Option Value} {base : Heap} {k : Nat} {f : Addr} {fd : FuncData} {ps : List Str} {sp : Sp}
theorem FnC.of (F : FnOk P w K mg base CX k f fd ps sp) : FnC P w K mg base CX k f fd ps sp := ⟨F.len, fun A outer s H args us vs Q E hr _ => F.run A outer s H args us vs Q E hr⟩
theorem calm_deeper {A : Around} {env : Env} (h : Calm A) : Calm (A.deeper env) := h
/-- the rule for a def, in such surroundings -/
theorem okC {x qual : Str} {st : Stmt} {N : List Str} (F : Fun K x qual st f fd) (S : FnScope N ps (defScope st)) (len : ∀ vs H Q E, sp vs H Q E → vs.length = ps.length)
    (hbody : ∀ (cdv : Value) (A : Around) (outer : List Env) (s : Shared) (H : Hp) (vs : List V) (Q : VK) (E : XK), Room k (A.deeper (envOfC qual (defScope st) s.heap.objs.size f cdv)) → Calm (A.deeper (envOfC qual (defScope st) s.heap.objs.size f cdv)) → sp vs H Q E →
      ∃ t, PSs (cxOf CX0 P w K mg base N qual (defScope st) f cdv A outer s H E).nox (defBody st) t ∧ t { nx := fun _ H' => Q .non H', rt := Q } (start N vs) H) : FnC P w K mg base CX0 (k + 1) f fd ps sp := by
  obtain ⟨oc, od, kV, doc, pm, an, cdv, ct, osl, rfl, lk, hcd⟩ := F.ex
  refine ⟨len, fun A outer s H args us vs Q E hr hc e0 hb r hsp => ?_⟩
  obtain ⟨t, h, q⟩ := hbody cdv A outer s H vs Q E (hr.deeper _) (calm_deeper hc) hsp
  exact enter_at lk hcd S (len _ _ _ _ hsp) hr e0 hb r h.nox q
end
/-! ### calls of such defs -/
section
variable {X : Cx} {CX : CXT} {k n : Nat} {f : Addr} {fd : FuncData} {ps ks : List Str} {sp : Sp} {E : XK} {x : Str} {p pos : Pos} {e : Expr} {es : List Expr} {kws : List Keyword} {t tk : TA} {ds : List Value} {dvs : List V} {g : List Value → List Value → List Value} {gV : List V → List V → List V}
theorem runC {pins : List (Addr × Obj)} {σ : L2.St} {H : Hp} {s : Shared} {Q : VK} {args : Args} {us : List Value} {vs : List V} (F : FnC X.prog X.w X.K X.mg X.base CX k f fd ps sp) (hr : Room k X.A) (hc : Calm X.A) (hx : Passes CX X E)
    (I : Inv X pins σ H s) (hb : BindsTo s fd args (ps.zip us)) (r : Vals vs us) (h : sp vs H Q E) : codeAny (model X.prog X.w) X.A (.call (.ref f) args) (fun r s' => match r with | .ok (.ret u) => EP X pins σ Q u s' | .ok _ => False | .error e => X.xe e s') s := by
  refine codeAny_mono (F.run X.A X.stack s H args us vs Q E hr hc I.env0 hb r h) fun z s' hq => ?_
  match z, hq with
  | .error e, hq => exact hx pins σ H s e s' I hq
  | .ok (.ret u), hq => exact I.after hq
  | .ok .next, hq => exact hq
  | .ok .brk, hq => exact hq
  | .ok .cont, hq => exact hq
theorem call_of {M : Model} {A : Around} {E : Value → Shared → Prop} {Q : Value → Shared → Prop} {s : Shared} {f : Value} {us : List Value} {kw : List (Str × Value)}
    (h : codeAny M A (.call f ⟨us, kw⟩) (fun r s' => match r with | .ok (.ret u) => Q u s' | .ok _ => False | .error e => E e s') s) : wpAny M A (call f us kw) Q E s := by
  refine wpAny_call (codeAny_mono h fun z s' hq => ?_)
  match z, hq with
  | .error e, hq => exact hq
  | .ok (.ret u), hq => exact hq
theorem pe_callC (F : FnC X.prog X.w X.K X.mg X.base CX k f fd ps sp) (hr : Room k X.A) (hc : Calm X.A) (hg : Gl X x) (hm : X.mg x = some (.ref f)) (hk : PySem.W.keepIn X.K (.ref f) = true) (hb : Binds X.K fd ps ds) (hd : Vals dvs ds) (hx : Passes CX X E)
    (ha : PA X (e :: es) t) (hdb : (x == ("__debug__" : Str)) = false := by decide) (he : starEach (e :: es) X.env = (false, eval e X.env) :: starEach es X.env := by rfl) (hpl : (backTo pos (starEach es X.env)).any (·.1) = false := by rfl) :
    PE X (.Call (.Name x p) (e :: es) [] pos) (tCall sp dvs E t) := by
  refine ⟨fun pins s σ H Q I h => wpAny_Call_Name_kw (ld_glob I hg hm ?_ hdb)⟩
  refine PySem.W.callWith_K (h₀ := X.base) I.ok.mod.kin hk (thn (ha.run pos pins s σ H _ I h) fun us s1 ⟨vs, H1, I1, r, q⟩ => ⟨I1.kIn, call_of ?_⟩) he hpl
  have r2 : Vals (vs ++ dvs) (us ++ ds) := r.append hd
  exact runC F hr hc hx I1 (hb s1 us I1.kIn (by rw [← r2.length]; exact F.len _ _ _ _ q)) r2 q
theorem pe_callNC (F : FnC X.prog X.w X.K X.mg X.base CX k f fd ps sp) (hr : Room k X.A) (hc : Calm X.A) (hg : Gl X x) (hm : X.mg x = some (.ref f)) (hk : PySem.W.keepIn X.K (.ref f) = true) (hb : KBn X.K fd ps 0 ks g gV) (hx : Passes CX X E) (hkw : PK X kws tk)
    (hall : (backToKw pos (keywordEach kws X.env)).all (·.1.isSome) = true := by rfl) (hks : (backToKw pos (keywordEach kws X.env)).filterMap (·.1) = ks := by rfl) (hdb : (x == ("__debug__" : Str)) = false := by decide)
    (hpl : ((backTo pos (starEach [] X.env)).any (·.1) || (backToKw pos (keywordEach kws X.env)).any (·.1.isNone)) = false := by rfl) :
    PE X (.Call (.Name x p) [] kws pos) (tCallN 0 ks.length sp gV E tNil tk) := by
  refine ⟨fun pins s σ H Q I h => wpAny_Call_Name_kw (ld_glob I hg hm ?_ hdb)⟩
  refine PySem.W.callWith_KW0 (h₀ := X.base) I.ok.mod.kin hk hall (thn (hkw.run pos pins s σ H _ I h) fun ws s2 ⟨zs, H2, I2, rz, l1, l2, q2⟩ => ⟨I2.kIn, call_of ?_⟩) hpl
  rw [hks]
  exact runC F hr hc hx I2 (hb.to s2 [] ws I2.kIn rfl (rz.length.symm.trans l2)) (hb.rel (vs := []) (us := []) .nil rz) q2
end
/-! ### repr of data -/
/-- repr(x), x data without a dict -/
theorem call_reprD {X : Cx} (hg : Calm X.A) (hu : X.A.units + 66 < cLine) : CallR X (.builtin "repr") (fun xs H Q => ∃ (a : Addr) (d : PyData), xs = [.ref a] ∧ Dp X.K H (.ref a) d ∧ d.showable = true ∧ d.hasDict = false ∧ d.depth ≤ 64 ∧ d.shown.length ≤ sizeLine ∧ Q (.str d.shown) H) := by
  intro pins s σ H xs us Q I r h
  obtain ⟨a, d, rfl, hd, sh, nd, dp, sz, q⟩ := h
  obtain ⟨u, rfl, rx⟩ := vals1 r
  obtain ⟨as, rd⟩ := Dp.reads I d _ _ hd rx
  obtain rfl : u = Value.ref a := rx
  exact repr_of_reads' rd sh (fun z => by rw [nd] at z; cases z) hg (by omega) (fun _ _ e => e) (fun h' u tk hk => ⟨.str d.shown, H, I.kept hk, ⟨_, rfl⟩, q⟩) sz
end Sw
namespace Sw
open PySem PySem.Spec PyProof.Rows L2
/-! ### the law's own call, entered in calm -/
/-- the state at the law's call: an abstract heap in which nothing but the script is told -/
theorem start_at {P : Program} {w : World} {K : PySem.W.Frag} {mg mb : Str → Option Value} {a : Addr} {s : Shared} {vs : List Value} {ns : List Int}
    (KX : K.In s.heap) (hns : s.heap.Ns mainGlobals mg) (hb : s.heap.Ns builtinsNs mb) (hbb : ∀ x : Str, x ≠ "__name__" → mb x = bootBuiltins x) (hlim : s.heap.NoLimit) (hg : s.gens = #[])
    (ha : s.heap.get? a = some { cls := .type "list", data := .seq vs.toArray }) (hi : IntsAre vs ns) (hl : ns.length ≤ sizeLine) :
    ∃ (H : Hp) (base : Heap), Only H ∧ SqL K H a (ns.map V.int) ∧ K.In base ∧ base.Ns mainGlobals mg ∧ Env0 P w K mg base callerA [] s H := by
  have rv := vals_ints hi
  have bare : AllBare s.gens := .of_eq hg
  have nofrs : ∀ {H : Hp}, ∀ b ∈ frs ([] : List Env), H b = none := fun b hb => by cases hb
  cases hk : K.lookup a with
  | some o =>
    obtain rfl : { cls := .type "list", data := .seq vs.toArray } = o := Option.some.inj (ha.symm.trans (KX a o hk))
    refine ⟨fun _ => none, s.heap, fun _ => .inl rfl, .inr ⟨_, vs.toArray, _, hk, rfl, rfl, rfl, by rw [List.size_toArray, hi.length]; exact hl, by simpa using rv⟩, KX, hns, ?_⟩
    exact ⟨rfl, ⟨KX, hns, ⟨mb, hb, hbb⟩, hlim⟩, fun b o e => ⟨e, rfl⟩, Nat.le_refl _, trivial, nofrs, (fun b u z => by cases z), bare⟩
  | none =>
    let H : Hp := fun b => if b = a then some (.frz { cls := .type "list", data := .seq vs.toArray } (.lst (ns.map V.int))) else none
    have Ha : H a = some (.frz { cls := .type "list", data := .seq vs.toArray } (.lst (ns.map V.int))) := if_pos rfl
    have Hn : ∀ b, b ≠ a → H b = none := fun b h => if_neg h
    have ns_hid : ∀ {b : Addr} {m : Str → Option Value}, s.heap.Ns b m → (hidT s.heap H).Ns b m := fun {b m} q => by
      obtain ⟨o, es, ep, e, d, z⟩ := q
      refine ⟨o, es, ep, hidT_get e (Hn b fun y => ?_), d, z⟩
      rw [y, ha] at e
      cases e
      cases d
    have k_hid : K.In (hidT s.heap H) := fun b o e => hidT_get (KX b o e) (Hn b fun y => by rw [y, hk] at e; cases e)
    refine ⟨H, hidT s.heap H, fun b => ?_, .inl (.inr ⟨_, Ha⟩), k_hid, ns_hid hns, ⟨rfl, ⟨k_hid, ns_hid hns, ⟨mb, ns_hid hb, hbb⟩, ?_⟩, fun b o e => of_hidT e, Nat.le_of_eq (hidT_size _ _), trivial, nofrs, fun b u z => ?_, bare⟩⟩
    · by_cases y : b = a
      · exact .inr ⟨_, _, by rw [y]; exact Ha⟩
      · exact .inl (Hn b y)
    · obtain ⟨mc, h1, h2⟩ := hlim
      exact ⟨mc, ns_hid h1, h2⟩
    · by_cases y : b = a
      · subst y
        rw [Ha] at z
        cases z
        exact ⟨ha, by rw [List.length_map]; exact hl, vs, _, rv, ha⟩
      · rw [Hn b y] at z
        cases z
theorem walkC {l : PySem.W.OpenLaw} {n k : Nat} {q : Program} {loose : List Str} {XP : (Str → Option Value) → Heap → Prop} {YP : World → Heap → Prop} {d : DefRec} {K : Params → PySem.W.Frag} {sp : World → Sp} {x : Str}
    (hn : l.most = some n) (hn2 : n ≤ sizeLine) (hdf : d.params.defaults = []) (hr : Room k callerA) (hY : ∀ (w : World) (h : Heap), YP w h → (K w.params).In h)
    (F : ∀ (w : World) (mg : Str → Option Value) (fa : Addr) (h : Heap), (K w.params).In h → h.Ns mainGlobals mg → mg d.name = some (.ref fa) →
      ∃ fd : FuncData, (∀ (s : Shared) (u : Value), BindsTo s fd ⟨[u], []⟩ [(x, u)]) ∧ ∀ base : Heap, (K w.params).In base → base.Ns mainGlobals mg → FnC l.prog w (K w.params) mg base CX0 k fa fd [x] (sp w))
    (hsp : ∀ (w : World) (H : Hp) (a : Addr) (ns : List Int), ns.length ≤ n → Only H → SqL (K w.params) H a (ns.map V.int) → sp w [.ref a] H (fun v _ => v = .bl true) fun _ _ _ => False) :
    PySem.W.WalkO q loose XP YP l.row.toRowW d [] (fun f vs => PySem.call f vs) := by
  refine Att.attach_call hn hdf fun w s₀ s mg mb fa o pm cd doc a vs ns G Y ho hd hcd hmg hobj hints hlen hg => ?_
  have KX := hY w _ Y
  obtain ⟨fd, hb, hF⟩ := F w mg fa _ KX G.T.g hmg
  obtain ⟨H, base, hO, hS, kb, nb, e0⟩ := start_at (P := l.prog) (w := w) KX G.T.g G.T.b G.T.builtins G.T.nolimit hg hobj hints (Nat.le_trans hlen hn2)
  refine codeAny_mono ((hF base kb nb).run callerA [] s H ⟨[.ref a], []⟩ [.ref a] [.ref a] _ _ hr rfl e0 (hb s (.ref a)) (.cons rfl .nil) (hsp w H a ns hlen hO hS)) fun r s' h => ?_
  match r, h with
  | .error e, h => exact h.elim
  | .ok (.ret u), h =>
    obtain ⟨v, H', os, bare, un, hok', r', rfl⟩ := h
    obtain rfl : u = Value.bool true := r'
    refine ⟨rfl, OldK.of_keep fun b o e => ?_, os, bare⟩
    rcases hO b with z | ⟨ob, xs, z⟩
    · exact un.keep b o e z (fun y => by cases y) (fun y => by cases y)
    · have h1 := (e0.hok b _ z).1
      have h2 := (hok' b _ (un.frzs b ob _ z)).1
      rw [e] at h1
      cases h1
      exact h2
end Sw
/-! Values of any kind where a road is asked for. -/
namespace Sw
open PySem PySem.Spec PyProof.Rows L2
/-- an item of a list: a whole number, or something that is none -/
inductive Item (H : Hp) : V → Option Int → Prop
  | int (i : Int) : Item H (.int i) (some i)
  | bl (b : Bool) : Item H (.bl b) none
  | non : Item H .non none
  | str (s : Str) : Item H (.str s) none
  | tup {a : Addr} {xs : List V} : H a = some (.tup xs) → Item H (.ref a) none
  | lst {a : Addr} {xs : List V} : H a = some (.lst xs) → Item H (.ref a) none
theorem Item.same {H H' : Hp} {v : V} {o : Option Int} (s : Same H H') (h : Item H v o) : Item H' v o := by
  cases h with
  | int i => exact .int i
  | bl b => exact .bl b
  | non => exact .non
  | str x => exact .str x
  | tup h => exact .tup (s _ _ h)
  | lst h => exact .lst (s _ _ h)
/-- the items of a list, in order -/
def Items (H : Hp) (xs : List V) (os : List (Option Int)) : Prop := xs.length = os.length ∧ ∀ (i : Nat) (x : V), xs[i]? = some x → ∃ o, os[i]? = some o ∧ Item H x o
theorem Items.same {H H' : Hp} {xs : List V} {os : List (Option Int)} (s : Same H H') (h : Items H xs os) : Items H' xs os :=
  ⟨h.1, fun i x e => by obtain ⟨o, h1, h2⟩ := h.2 i x e; exact ⟨o, h1, h2.same s⟩⟩
theorem Items.nil {H : Hp} : Items H [] [] := ⟨rfl, fun i x e => by cases e⟩
theorem Items.cons {H : Hp} {x : V} {o : Option Int} {xs : List V} {os : List (Option Int)} (h : Item H x o) (t : Items H xs os) : Items H (x :: xs) (o :: os) := by
  refine ⟨by rw [List.length_cons, List.length_cons, t.1], fun i y e => ?_⟩
  cases i with
  | zero => cases e; exact ⟨o, rfl, h⟩
  | succ i => exact t.2 i y e
theorem Items.append {H : Hp} : ∀ {xs ys : List V} {os us : List (Option Int)}, Items H xs os → Items H ys us → Items H (xs ++ ys) (os ++ us)
  | [], ys, [], us, _, h => h
  | [], ys, o :: os, us, h, _ => by cases h.1
  | x :: xs, ys, [], us, h, _ => by cases h.1
  | x :: xs, ys, o :: os, us, h, g => by
    obtain ⟨p, hp, hi⟩ := h.2 0 x rfl
    cases hp
    exact .cons hi (Items.append ⟨Nat.succ.inj h.1, fun i y e => h.2 (i + 1) y e⟩ g)
theorem Items.ints {H : Hp} : ∀ (ns : List Int), Items H (ns.map V.int) (ns.map some)
  | [] => .nil
  | n :: ns => .cons (.int n) (Items.ints ns)
/-- a value of any kind: a list with its items, or something else -/
inductive Val (H : Hp) : V → Option (List (Option Int)) → Prop
  | lst {a : Addr} {xs : List V} {os : List (Option Int)} : H a = some (.lst xs) → Items H xs os → Val H (.ref a) (some os)
  | tup {a : Addr} {xs : List V} : H a = some (.tup xs) → Val H (.ref a) none
  | dic {a : Addr} {kvs : List (Key × V)} : H a = some (.dK kvs) → Val H (.ref a) none
  | int (i : Int) : Val H (.int i) none
  | bl (b : Bool) : Val H (.bl b) none
  | non : Val H .non none
  | str (s : Str) : Val H (.str s) none
theorem Val.same {H H' : Hp} {v : V} {o : Option (List (Option Int))} (s : Same H H') (h : Val H v o) : Val H' v o := by
  cases h with
  | lst h g => exact .lst (s _ _ h) (g.same s)
  | tup h => exact .tup (s _ _ h)
  | dic h => exact .dic (s _ _ h)
  | int i => exact .int i
  | bl b => exact .bl b
  | non => exact .non
  | str x => exact .str x
def cntB : Option Int → Bool
  | some i => decide (0 ≤ i)
  | none => false
/-- the place at which a deed is done, if the item is one -/
def placeO (l js : List Nat) : Option Int → Option Nat
  | some i => if 0 ≤ i then (match l[i.toNat]? with | some c => if c ∈ js then some i.toNat else none | none => none) else none
  | none => none
/-- whether the items are a road -/
def walkO (js : List Nat) : List Nat → List (Option Int) → Bool
  | _, [] => true
  | l, o :: os => match placeO l js o with | some p => walkO js (swapL l p) os | none => false
def roadB (js l : List Nat) : Option (List (Option Int)) → Bool
  | some os => walkO js l os
  | none => false
theorem placeO_lt {l js : List Nat} {o : Option Int} {p : Nat} (h : placeO l js o = some p) : ∃ c, o = some (p : Int) ∧ l[p]? = some c ∧ c ∈ js := by
  cases o with
  | none => cases h
  | some i =>
    replace h : (if 0 ≤ i then (match l[i.toNat]? with | some c => if c ∈ js then some i.toNat else none | none => none) else none) = some p := h
    split at h
    · split at h
      · rename_i c e
        split at h
        · rename_i hc
          cases h
          exact ⟨c, by rw [show ((i.toNat : Nat) : Int) = i by omega], e, hc⟩
        · cases h
      · cases h
    · cases h
theorem placeO_yes {l js : List Nat} {p c : Nat} (h : l[p]? = some c) (hm : c ∈ js) : placeO l js (some (p : Int)) = some p := by
  show (if 0 ≤ (p : Int) then (match l[(p : Int).toNat]? with | some c => if c ∈ js then some (p : Int).toNat else none | none => none) else none) = some p
  rw [if_pos (by omega), Int.toNat_natCast, h]
  exact if_pos hm
theorem placeO_not {l js : List Nat} {p c : Nat} (h : l[p]? = some c) (hm : ¬ c ∈ js) : placeO l js (some (p : Int)) = none := by
  show (if 0 ≤ (p : Int) then (match l[(p : Int).toNat]? with | some c => if c ∈ js then some (p : Int).toNat else none | none => none) else none) = none
  rw [if_pos (by omega), Int.toNat_natCast, h]
  exact if_neg hm
theorem placeO_far {l js : List Nat} {p : Nat} (h : l.length ≤ p) : placeO l js (some (p : Int)) = none := by
  show (if 0 ≤ (p : Int) then (match l[(p : Int).toNat]? with | some c => if c ∈ js then some (p : Int).toNat else none | none => none) else none) = none
  rw [if_pos (by omega), Int.toNat_natCast, List.getElem?_eq_none h]
theorem placeO_neg {l js : List Nat} {i : Int} (h : ¬ 0 ≤ i) : placeO l js (some i) = none := by
  show (if 0 ≤ i then (match l[i.toNat]? with | some c => if c ∈ js then some i.toNat else none | none => none) else none) = none
  rw [if_neg h]
theorem walkO_step {js l : List Nat} {os : List (Option Int)} {i p : Nat} {o : Option Int} (h : os[i]? = some o) (hp : placeO l js o = some p) : walkO js l (os.drop i) = walkO js (swapL l p) (os.drop (i + 1)) := by
  obtain ⟨hi, rfl⟩ := List.getElem?_eq_some_iff.mp h
  rw [List.drop_eq_getElem_cons hi]
  show (match placeO l js os[i] with | some p => walkO js (swapL l p) (os.drop (i + 1)) | none => false) = _
  rw [hp]
theorem walkO_stop {js l : List Nat} {os : List (Option Int)} {i : Nat} {o : Option Int} (h : os[i]? = some o) (hp : placeO l js o = none) : walkO js l (os.drop i) = false := by
  obtain ⟨hi, rfl⟩ := List.getElem?_eq_some_iff.mp h
  rw [List.drop_eq_getElem_cons hi]
  show (match placeO l js os[i] with | some p => walkO js (swapL l p) (os.drop (i + 1)) | none => false) = _
  rw [hp]
theorem walkO_end {js l : List Nat} {os : List (Option Int)} : walkO js l (os.drop os.length) = true := by
  rw [List.drop_length]
  rfl
theorem atI_snoc {xs : List V} {x : V} : atI (xs ++ [x]) (-1) = some x := by
  refine at_last ?_
  rw [List.length_append]
  simp
theorem atI_len {xs : List V} {x : V} : atI (xs ++ [x]) ((((xs ++ [x]).length : Nat) : Int) - 1) = some x := by
  unfold atI ixN
  rw [List.length_append]
  have e : ((xs.length + [x].length : Nat) : Int) - 1 = (xs.length : Int) := by simp
  rw [e, if_pos (by omega), if_pos (by simp; omega)]
  show (xs ++ [x])[((xs.length : Nat) : Int).toNat]? = some x
  simp
end Sw
/-! repr of a value of any kind, where no repr is under way -/
namespace Sw
open PySem PySem.Spec PyProof.Rows L2
/-- what repr tells of a value -/
inductive Rp (K : PySem.W.Frag) (H : Hp) : V → Str → Prop
  | non : Rp K H .non (Str.ofString "None")
  | bl (b : Bool) : Rp K H (.bl b) (if b = true then Str.ofString "True" else Str.ofString "False")
  | int (i : Int) : i.natAbs.log2 < 1920 → Rp K H (.int i) (Str.ofString (toString i))
  | str (s : Str) : (reprText s).length ≤ sizeLine → Rp K H (.str s) (reprText s)
  | dic {a : Addr} : H a = some (.dK []) → Rp K H (.ref a) (PyData.dict []).shown
  | seq {a : Addr} {d : PyData} : Dp K H (.ref a) d → d.showable = true → d.hasDict = false → d.depth ≤ 62 → d.shown.length ≤ sizeLine → Rp K H (.ref a) d.shown
theorem sqL_same {K : PySem.W.Frag} {H H' : Hp} {a : Addr} {xs : List V} (s : Same H H') (h : SqL K H a xs) : SqL K H' a xs := by
  rcases h with (h | ⟨o, h⟩) | h
  · exact .inl (.inl (s _ _ h))
  · exact .inl (.inr ⟨o, s _ _ h⟩)
  · exact .inr h
theorem sqT_same {K : PySem.W.Frag} {H H' : Hp} {a : Addr} {xs : List V} (s : Same H H') (h : SqT K H a xs) : SqT K H' a xs := by
  rcases h with (h | ⟨o, h⟩) | h
  · exact .inl (.inl (s _ _ h))
  · exact .inl (.inr ⟨o, s _ _ h⟩)
  · exact .inr h
mutual
theorem dp_same {K : PySem.W.Frag} {H H' : Hp} (s : Same H H') : ∀ {d : PyData} {v : V}, Dp K H v d → Dp K H' v d
  | _, _, .non => .non
  | _, _, .bl b => .bl b
  | _, _, .int i => .int i
  | _, _, .str x => .str x
  | _, _, .lst h g => .lst (sqL_same s h) (dpAll_same s g)
  | _, _, .tup h g => .tup (sqT_same s h) (dpAll_same s g)
theorem dpAll_same {K : PySem.W.Frag} {H H' : Hp} (s : Same H H') : ∀ {ds : List PyData} {vs : List V}, DpAll K H vs ds → DpAll K H' vs ds
  | _, _, .nil => .nil
  | _, _, .cons h t => .cons (dp_same s h) (dpAll_same s t)
end
theorem Rp.same {K : PySem.W.Frag} {H H' : Hp} {v : V} {t : Str} (s : Same H H') (h : Rp K H v t) : Rp K H' v t := by
  cases h with
  | non => exact .non
  | bl b => exact .bl b
  | int i h => exact .int i h
  | str x h => exact .str x h
  | dic h => exact .dic (s _ _ h)
  | seq d h1 h2 h3 h4 => exact .seq (dp_same s d) h1 h2 h3 h4
/-- repr(x) -/
theorem call_reprV {X : Cx} (hg : Calm X.A) (hu : X.A.units + 64 < cLine) : CallR X (.builtin "repr") (fun xs H Q => ∃ (v : V) (t : Str), xs = [v] ∧ Rp X.K H v t ∧ Q (.str t) H) := by
  intro pins s σ H xs us Q I r h
  obtain ⟨v, t, rfl, hr, q⟩ := h
  obtain ⟨u, rfl, rx⟩ := vals1 r
  cases hr with
  | non =>
    obtain rfl : u = Value.none := rx
    exact PySem.P.repr_of_none ⟨.str _, H, I.kept (fun _ _ e => e), ⟨_, rfl⟩, q⟩
  | bl b =>
    obtain rfl : u = Value.bool b := rx
    exact PySem.P.repr_of_bool ⟨.str _, H, I.kept (fun _ _ e => e), ⟨_, rfl⟩, q⟩
  | int i hi =>
    obtain ⟨t, rfl⟩ : ∃ t, u = Value.int i t := rx
    exact PySem.P.repr_of_int hi ⟨.str _, H, I.kept (fun _ _ e => e), ⟨_, rfl⟩, q⟩
  | str x hx =>
    obtain ⟨t, rfl⟩ : ∃ t, u = Value.str x t := rx
    exact PySem.P.repr_of_str ⟨.str _, H, I.kept (fun _ _ e => e), ⟨_, rfl⟩, q⟩ hx
  | @dic a ha =>
    obtain rfl : u = Value.ref a := rx
    have ok := I.hok a _ ha
    obtain ⟨_, low, vs, kv, o, es, ep, e, ex, ed, _, pr, _⟩ := ok
    cases kv
    have hes : es.toList = [] := by
      cases hl : es.toList with
      | nil => rfl
      | cons y ys => rw [hl] at pr; cases pr
    have rd : Reads s.heap (.ref a) (.dict []) ([a] ++ []) := .dict e ex.1 ed (by rw [hes]; exact .nil) (by rw [hes]; exact .nil)
    exact repr_of_reads' rd rfl (fun _ m => by
      rw [List.mem_singleton.mp m, beq_self_eq_true] at low
      cases low) hg (by show X.A.units + ((PyData.dict []).depth + 1) < cLine; have : (PyData.dict []).depth ≤ 2 := by decide
                        omega) (fun _ _ e => e) (fun h' u tk hk => ⟨.str _, H, I.kept hk, ⟨_, rfl⟩, q⟩) (by decide +kernel)
  | @seq a d hd sh nd dp sz =>
    obtain ⟨as, rd⟩ := Dp.reads I d _ _ hd rx
    obtain rfl : u = Value.ref a := rx
    exact repr_of_reads' rd sh (fun z => by rw [nd] at z; cases z) hg (by omega) (fun _ _ e => e) (fun h' u tk hk => ⟨.str d.shown, H, I.kept hk, ⟨_, rfl⟩, q⟩) sz
end Sw

namespace Sw
open PySem PySem.Spec PyProof.Rows L2
/-! ### xs[::step], step reckoned to -1 -/
def tRevS (K : PySem.W.Frag) (te ts : TE) : TE := fun σ H Q => te σ H fun x H1 => ∃ (a : Addr) (xs : List V), x = .ref a ∧ tPart ts σ H1 fun o H2 => o = some (-1) ∧ SqL K H2 a xs ∧ ∀ p, H2 p = none → Q (.ref p) (upd H2 p (.lst xs.reverse))
theorem pe_revS {X : Cx} {e st : PySem.Expr} {te ts : TE} {p3 pos : Pos} (he : PE X e te) (hs : PE X st ts) : PE X (.Subscript e (.Slice none none (some st) p3) pos) (tRevS X.K te ts) := by
  refine ⟨fun pins s σ H Q I h => Subscript_ (thn (he.run pins s σ H _ I h) fun v s1 ⟨x, H1, I1, r1, q1⟩ => ?_)⟩
  obtain ⟨a, xs, rfl, q⟩ := q1
  obtain rfl : v = .ref a := r1
  refine wpAny_Slice (thn (po_none.run pins s1 σ H1 (fun o H2 => o = none ∧ H2 = H1) I1 ⟨rfl, rfl⟩) fun vl s2 ⟨l, H2, I2, pl, el, e2⟩ => ?_)
  subst el e2
  refine thn (po_none.run pins s2 σ H2 (fun o H3 => o = none ∧ H3 = H2) I2 ⟨rfl, rfl⟩) fun vu s3 ⟨u, H3, I3, pu, eu, e3⟩ => ?_
  subst eu e3
  refine thn ((po_some hs).run pins s3 σ H3 _ I3 q) fun vs s4 ⟨o, H4, I4, ps, eo, hx, q4⟩ => ?_
  subst eo
  have I5 := I4.kept (t' := s4.toks) (fun b ob q => Heap.get?_push_of_some { cls := Value.type "slice", data := Data.fields #[vl, vu, vs] } q)
  obtain ⟨its, r, ht, hz⟩ := I5.list hx
  have hlen := r.length
  refine tail_any (PlainL.isList ht).typeIs slot_list_getitem.lookup (wpAny_getItem_list_slice (PlainL.isList ht) (Heap.IsSliceOf.new s4.heap vl vu vs) pl pu ps (by decide) ?_ ?_) rfl
  · rw [PySem.W.krv_pick]
    refine ⟨.ref _, _, I5.laid (o := HO.lst xs.reverse) (fun b ob q => Heap.get?_push_of_some _ q) (Nat.le_refl _) ⟨by rw [List.length_reverse]; exact hz, its.reverse, 0, r.reverse, Heap.get?_push_size _ rfl⟩, rfl, q4 _ (HOk.fresh I5.hok (Nat.le_refl _))⟩
  · rw [List.size_toArray]; omega
end Sw
/-! Data short enough for repr; values of any kind with what repr tells of them. -/
namespace Sw
open PySem PySem.Spec PyProof.Rows L2
structure Short (D W : Nat) (d : PyData) : Prop where
  sh : d.showable = true
  nd : d.hasDict = false
  dp : d.depth ≤ D
  wt : d.weight ≤ W
  lv : PyData.leavesShort 13 d = true
structure ShortAll (D W : Nat) (ds : List PyData) : Prop where
  sh : PyData.showableAll ds = true
  nd : PyData.hasDictAll ds = false
  dp : PyData.depthAll ds ≤ D
  wt : PyData.weightAll ds ≤ ds.length * (W + 1)
  lv : PyData.leavesShortAll 13 ds = true
theorem Short.all {D W : Nat} : ∀ {ds : List PyData}, (∀ d ∈ ds, Short D W d) → ShortAll D W ds
  | [], _ => ⟨rfl, rfl, Nat.zero_le _, Nat.zero_le _, rfl⟩
  | d :: ds, h => by
    have a := h d List.mem_cons_self
    have b := Short.all (ds := ds) fun y hy => h y (List.mem_cons_of_mem _ hy)
    refine ⟨?_, ?_, ?_, ?_, ?_⟩
    · show (d.showable && PyData.showableAll ds) = true
      rw [a.sh, b.sh]; rfl
    · show (d.hasDict || PyData.hasDictAll ds) = false
      rw [a.nd, b.nd]; rfl
    · exact Nat.max_le.mpr ⟨a.dp, b.dp⟩
    · show d.weight + 1 + PyData.weightAll ds ≤ (ds.length + 1) * (W + 1)
      have := a.wt
      have := b.wt
      rw [Nat.add_mul, Nat.one_mul]
      omega
    · show (PyData.leavesShort 13 d && PyData.leavesShortAll 13 ds) = true
      rw [a.lv, b.lv]; rfl
theorem Short.list {D W : Nat} {ds : List PyData} (h : ∀ d ∈ ds, Short D W d) : Short (D + 1) (ds.length * (W + 1)) (.list ds) :=
  have a := Short.all h
  ⟨a.sh, a.nd, Nat.succ_le_succ a.dp, a.wt, a.lv⟩
theorem Short.tup {D W : Nat} {ds : List PyData} (h : ∀ d ∈ ds, Short D W d) : Short (D + 1) (ds.length * (W + 1)) (.tuple ds) :=
  have a := Short.all h
  ⟨a.sh, a.nd, Nat.succ_le_succ a.dp, a.wt, a.lv⟩
theorem Short.mono {D W E X : Nat} {d : PyData} (h : Short D W d) (e : D ≤ E) (x : W ≤ X) : Short E X d := ⟨h.sh, h.nd, Nat.le_trans h.dp e, Nat.le_trans h.wt x, h.lv⟩
theorem Short.non : Short 0 0 .none := ⟨rfl, rfl, Nat.le_refl _, Nat.le_refl _, by decide +kernel⟩
theorem Short.bl (b : Bool) : Short 0 0 (.bool b) := by cases b <;> exact ⟨rfl, rfl, Nat.le_refl _, Nat.le_refl _, by decide +kernel⟩
theorem Short.int {i : Int} (h : i.natAbs ≤ 99999) : Short 0 17 (.int i) := by
  have hl : i.natAbs.log2 ≤ 16 := by
    by_cases z : i.natAbs = 0
    · rw [z]; decide
    · have := (Nat.log2_lt z (k := 17)).mpr (by omega)
      omega
  refine ⟨decide_eq_true (Nat.lt_of_le_of_lt hl (by decide)), rfl, Nat.le_refl _, ?_, ?_⟩
  · show (if (i == 0) = true then 0 else i.natAbs.log2 + 1) ≤ 17
    split <;> omega
  · refine decide_eq_true ?_
    exact PyData.shown_int_le (Nat.lt_of_le_of_lt h (by decide))
theorem Short.rp {K : PySem.W.Frag} {H : Hp} {a : Addr} {d : PyData} (h : Short 60 (2 ^ 20) d) (p : Dp K H (.ref a) d) : Rp K H (.ref a) d.shown :=
  .seq p h.sh h.nd (Nat.le_trans h.dp (by decide)) (PyData.shown_fits (B := 13) (by decide) (by decide) h.lv h.wt)
/-- items with their data -/
def Its (K : PySem.W.Frag) (H : Hp) (xs : List V) (os : List (Option Int)) : Prop := Items H xs os ∧ ∃ ds, DpAll K H xs ds ∧ ds.length = xs.length ∧ ∀ d ∈ ds, Short 2 2000 d
theorem Its.nil {K : PySem.W.Frag} {H : Hp} : Its K H [] [] := ⟨.nil, [], .nil, rfl, fun _ h => by cases h⟩
theorem Its.cons {K : PySem.W.Frag} {H : Hp} {x : V} {o : Option Int} {d : PyData} {xs : List V} {os : List (Option Int)} (h : Item H x o) (p : Dp K H x d) (s : Short 2 2000 d) (t : Its K H xs os) : Its K H (x :: xs) (o :: os) := by
  obtain ⟨t1, ds, t2, t3, t4⟩ := t
  refine ⟨.cons h t1, d :: ds, .cons p t2, by rw [List.length_cons, List.length_cons, t3], fun y hy => ?_⟩
  rcases List.mem_cons.mp hy with rfl | hy
  · exact s
  · exact t4 y hy
theorem dpAll_append {K : PySem.W.Frag} {H : Hp} : ∀ {xs ys : List V} {ds es : List PyData}, DpAll K H xs ds → DpAll K H ys es → DpAll K H (xs ++ ys) (ds ++ es)
  | _, _, _, _, .nil, h => h
  | _, _, _, _, .cons h t, g => .cons h (dpAll_append t g)
theorem Its.append {K : PySem.W.Frag} {H : Hp} {xs ys : List V} {os us : List (Option Int)} (h : Its K H xs os) (g : Its K H ys us) : Its K H (xs ++ ys) (os ++ us) := by
  obtain ⟨h1, ds, h2, h3, h4⟩ := h
  obtain ⟨g1, es, g2, g3, g4⟩ := g
  refine ⟨h1.append g1, ds ++ es, dpAll_append h2 g2, by rw [List.length_append, List.length_append, h3, g3], fun d hd => ?_⟩
  rcases List.mem_append.mp hd with hd | hd
  · exact h4 d hd
  · exact g4 d hd
theorem Its.same {K : PySem.W.Frag} {H H' : Hp} {xs : List V} {os : List (Option Int)} (s : Same H H') (h : Its K H xs os) : Its K H' xs os := by
  obtain ⟨h1, ds, h2, h3, h4⟩ := h
  exact ⟨h1.same s, ds, dpAll_same s h2, h3, h4⟩
theorem Its.ints {K : PySem.W.Frag} {H : Hp} : ∀ {ns : List Int}, (∀ n ∈ ns, n.natAbs ≤ 99999) → Its K H (ns.map V.int) (ns.map some)
  | [], _ => .nil
  | n :: ns, h => .cons (.int n) (.int n) ((Short.int (h n List.mem_cons_self)).mono (by decide) (by decide)) (Its.ints fun y hy => h y (List.mem_cons_of_mem _ hy))
theorem Its.places {K : PySem.W.Frag} {H : Hp} : ∀ {ns : List Nat}, (∀ n ∈ ns, n ≤ 99999) → Its K H (placesV ns) (ns.map fun p : Nat => some (p : Int))
  | [], _ => .nil
  | n :: ns, h => .cons (.int n) (.int n) ((Short.int (by have := h n List.mem_cons_self; omega)).mono (by decide) (by decide)) (Its.places fun y hy => h y (List.mem_cons_of_mem _ hy))
/-- a value of any kind, with what repr tells of it -/
def Fine (K : PySem.W.Frag) (H : Hp) (v : V) : Prop := ∃ (o : Option (List (Option Int))) (t : Str), Val H v o ∧ Rp K H v t ∧ ∀ os, o = some os → os.length ≤ 50000
theorem Fine.same {K : PySem.W.Frag} {H H' : Hp} {v : V} (s : Same H H') (h : Fine K H v) : Fine K H' v := by
  obtain ⟨o, t, h1, h2, h3⟩ := h
  exact ⟨o, t, h1.same s, h2.same s, h3⟩
theorem Its.rp {K : PySem.W.Frag} {H : Hp} {xs : List V} {os : List (Option Int)} {a : Addr} (h : Its K H xs os) (n : xs.length ≤ 500) (e : H a = some (.lst xs)) : ∃ d : PyData, Rp K H (.ref a) d.shown := by
  obtain ⟨h1, ds, h2, h3, h4⟩ := h
  have s := Short.list h4
  rw [h3] at s
  exact ⟨_, Short.rp (s.mono (by decide) (by omega)) (.lst (SqL.of e) h2)⟩
theorem Its.rpT {K : PySem.W.Frag} {H : Hp} {xs : List V} {os : List (Option Int)} {a : Addr} (h : Its K H xs os) (n : xs.length ≤ 500) (e : H a = some (.tup xs)) : ∃ d : PyData, Rp K H (.ref a) d.shown := by
  obtain ⟨h1, ds, h2, h3, h4⟩ := h
  have s := Short.tup h4
  rw [h3] at s
  exact ⟨_, Short.rp (s.mono (by decide) (by omega)) (.tup (SqT.of e) h2)⟩
theorem Fine.lst {K : PySem.W.Frag} {H : Hp} {xs : List V} {os : List (Option Int)} {a : Addr} (h : Its K H xs os) (n : xs.length ≤ 500) (e : H a = some (.lst xs)) : Fine K H (.ref a) := by
  obtain ⟨d, p⟩ := h.rp n e
  exact ⟨some os, _, .lst e h.1, p, fun os' z => by cases z; rw [← h.1.1]; omega⟩
theorem Fine.tup {K : PySem.W.Frag} {H : Hp} {xs : List V} {os : List (Option Int)} {a : Addr} (h : Its K H xs os) (n : xs.length ≤ 500) (e : H a = some (.tup xs)) : Fine K H (.ref a) := by
  obtain ⟨d, p⟩ := h.rpT n e
  exact ⟨none, _, .tup e, p, fun os' z => by cases z⟩
theorem Fine.non {K : PySem.W.Frag} {H : Hp} : Fine K H .non := ⟨none, _, .non, .non, fun _ z => by cases z⟩
theorem Fine.int {K : PySem.W.Frag} {H : Hp} {i : Int} (h : i.natAbs.log2 < 1920) : Fine K H (.int i) := ⟨none, _, .int i, .int i h, fun _ z => by cases z⟩
theorem Fine.str {K : PySem.W.Frag} {H : Hp} {s : Str} (h : (reprText s).length ≤ sizeLine) : Fine K H (.str s) := ⟨none, _, .str s, .str s h, fun _ z => by cases z⟩
theorem Fine.dic {K : PySem.W.Frag} {H : Hp} {a : Addr} (e : H a = some (.dK [])) : Fine K H (.ref a) := ⟨none, _, .dic e, .dic e, fun _ z => by cases z⟩

/-- one item with its data -/
def OneIt (K : PySem.W.Frag) (H : Hp) (x : V) : Prop := ∃ (o : Option Int) (d : PyData), Item H x o ∧ Dp K H x d ∧ Short 2 2000 d
theorem OneIt.same {K : PySem.W.Frag} {H H' : Hp} {x : V} (s : Same H H') (h : OneIt K H x) : OneIt K H' x := by
  obtain ⟨o, d, h1, h2, h3⟩ := h
  exact ⟨o, d, h1.same s, dp_same s h2, h3⟩
theorem OneIt.int {K : PySem.W.Frag} {H : Hp} {i : Int} (h : i.natAbs ≤ 99999) : OneIt K H (.int i) := ⟨_, _, .int i, .int i, (Short.int h).mono (by decide) (by decide)⟩
theorem OneIt.bl {K : PySem.W.Frag} {H : Hp} (b : Bool) : OneIt K H (.bl b) := ⟨_, _, .bl b, .bl b, (Short.bl b).mono (by decide) (by decide)⟩
theorem OneIt.non {K : PySem.W.Frag} {H : Hp} : OneIt K H .non := ⟨_, _, .non, .non, Short.non.mono (by decide) (by decide)⟩
theorem OneIt.zero {K : PySem.W.Frag} {H : Hp} : OneIt K H (.str (Str.ofString "0")) := ⟨_, _, .str _, .str _, ⟨by decide +kernel, by decide +kernel, by decide +kernel, by decide +kernel, by decide +kernel⟩⟩
theorem OneIt.tup {K : PySem.W.Frag} {H : Hp} {a : Addr} (h : H a = some (.tup [.int 0])) : OneIt K H (.ref a) :=
  ⟨_, _, .tup h, .tup (SqT.of h) (.cons (.int 0) .nil), (Short.tup (D := 0) (W := 17) fun d hd => by rw [List.mem_singleton.mp hd]; exact Short.int (by decide)).mono (by decide) (by decide)⟩
theorem OneIt.lst {K : PySem.W.Frag} {H : Hp} {a : Addr} (h : H a = some (.lst [.int 0])) : OneIt K H (.ref a) :=
  ⟨_, _, .lst h, .lst (SqL.of h) (.cons (.int 0) .nil), (Short.list (D := 0) (W := 17) fun d hd => by rw [List.mem_singleton.mp hd]; exact Short.int (by decide)).mono (by decide) (by decide)⟩
theorem OneIt.its {K : PySem.W.Frag} {H : Hp} {x : V} (h : OneIt K H x) : ∃ o, Its K H [x] [o] := by
  obtain ⟨o, d, h1, h2, h3⟩ := h
  exact ⟨o, .cons h1 h2 h3 .nil⟩
theorem placesDp {K : PySem.W.Frag} {H : Hp} : ∀ r : List Nat, DpAll K H (placesV r) (r.map fun p : Nat => PyData.int (p : Int))
  | [] => .nil
  | p :: r => .cons (.int _) (placesDp r)
theorem Its.nest {K : PySem.W.Frag} {H : Hp} {v : Addr} {r : List Nat} (h : H v = some (.lst (placesV r))) (l : r.length ≤ 100) (b : ∀ p ∈ r, p ≤ 99999) : Its K H [V.ref v] [none] := by
  have s := Short.list (D := 0) (W := 17) (ds := r.map fun p : Nat => PyData.int (p : Int)) fun d hd => by
    obtain ⟨p, hp, rfl⟩ := List.mem_map.mp hd
    exact Short.int (by have := b p hp; omega)
  rw [List.length_map] at s
  exact .cons (.lst h) (.lst (SqL.of h) (placesDp r)) (s.mono (by decide) (by omega)) .nil
theorem But.free {g m : Addr} {H H' : Hp} {n : Nat} (b : But g H H') (G : GenAt H' g n) (h : H' m = none) : H m = none := by
  cases e : H m with
  | none => rfl
  | some o =>
    by_cases z : m = g
    · subst z
      obtain ⟨x, y, w, h0, _⟩ := G
      rw [h0] at h
      cases h
    · rw [b m o z e] at h
      cases h
end Sw
/-! Lists of words compared; the words of the road back. -/
namespace Sw
open PySem PySem.Spec PyProof.Rows L2
def wordsD (ws : List (List Nat)) : List PyData := ws.map fun l => PyData.str (S l)
theorem words_dp {K : PySem.W.Frag} {H : Hp} : ∀ ws : List (List Nat), DpAll K H (wordsV ws) (wordsD ws)
  | [] => .nil
  | l :: r => .cons (.str _) (words_dp r)
theorem words_lay : ∀ {ws : List (List Nat)}, (∀ l ∈ ws, wordB l = true) → PyData.canLayAll0 (wordsD ws) = true
  | [], _ => rfl
  | l :: r, h => by
    have h1 := h l List.mem_cons_self
    have h2 := words_lay (ws := r) fun y hy => h y (List.mem_cons_of_mem _ hy)
    have e : PyData.strOk (S l) = true := by
      show (l.toArray.all fun c => decide (c < 0x110000)) = true
      rw [List.all_toArray]
      refine List.all_eq_true.mpr fun c hc => decide_eq_true ?_
      have := wordB_mem h1 hc
      omega
    show (PyData.strOk (S l) && PyData.canLayAll0 (wordsD r)) = true
    rw [e, h2]
    rfl
theorem words_depth : ∀ ws : List (List Nat), PyData.depthAll (wordsD ws) = 0
  | [] => rfl
  | l :: r => by
    show max (PyData.depth (.str (S l))) (PyData.depthAll (wordsD r)) = 0
    rw [words_depth r]
    rfl
theorem words_shaped {ws : List (List Nat)} (h : ∀ l ∈ ws, wordB l = true) : SeqAt.shaped (.list (wordsD ws)) = true := by
  unfold SeqAt.shaped
  have e : (PyData.list (wordsD ws)).depth = 1 := by
    show PyData.depthAll (wordsD ws) + 1 = 1
    rw [words_depth]
  have e2 : (PyData.list (wordsD ws)).canLay0 = true := words_lay h
  rw [e, e2]
  rfl
/-- a test that two lists of words are unlike, which they are not -/
theorem ne_words {K : PySem.W.Frag} {H : Hp} {a b : Addr} {ws : List (List Nat)} {Q : VK} (h : ∀ l ∈ ws, wordB l = true) (ha : SqL K H a (wordsV ws)) (hb : SqL K H b (wordsV ws)) (q : Q (.bl false) H) : rNeD K (.ref a) (.ref b) H Q := by
  refine ⟨_, _, .lst ha (words_dp ws), .lst hb (words_dp ws), words_shaped h, words_shaped h, ?_⟩
  rw [show PyData.eqv (.list (wordsD ws)) (.list (wordsD ws)) = true from PySem.SeqAt.eqv_refl _ (words_lay h)]
  exact q
theorem swapL_mem' {l : List Nat} {p : Nat} (h : wordB l = true) : wordB (swapL l p) = true := wordB_of fun c hc => wordB_mem h (swapL_mem hc)
theorem pass_words {l : List Nat} (h : wordB l = true) : ∀ (r : List Nat) (w : List Nat), w ∈ pass l r → wordB w = true := by
  intro r
  induction r generalizing l with
  | nil => intro w hw; rw [List.mem_singleton.mp hw]; exact h
  | cons p r ih =>
    intro w hw
    rcases List.mem_cons.mp hw with rfl | hw
    · exact h
    · exact ih (swapL_mem' h) w hw
/-- the words of the road back are those of the road, backwards -/
theorem pass_back {n : Nat} : ∀ {l r : List Nat}, l.length = n → (∀ p ∈ r, p < n) → pass (ends l r) (backL n r) = (pass l r).reverse := by
  intro l r
  induction r generalizing l with
  | nil => intro _ _; rfl
  | cons p r ih =>
    intro hl hp
    have hpn : p < l.length := by rw [hl]; exact hp p List.mem_cons_self
    have hr : ∀ q ∈ r, q < n := fun q hq => hp q (List.mem_cons_of_mem _ hq)
    have hs : (swapL l p).length = n := by rw [swapL_len hpn, hl]
    have e1 : backL n (p :: r) = backL n r ++ [n - 1 - p] := by unfold backL; simp
    have e2 : ends (ends (swapL l p) r) (backL n r) = swapL l p := by
      have z := pass_last (ends (swapL l p) r) (backL n r)
      rw [ih hs hr] at z
      have y : (pass (swapL l p) r).reverse[(backL n r).length]? = some (swapL l p) := by
        have hb : (backL n r).length = r.length := by unfold backL; simp
        rw [hb, List.getElem?_reverse (by rw [pass_len]; omega), pass_len]
        rw [show r.length + 1 - 1 - r.length = 0 by omega]
        cases r <;> rfl
      rw [y] at z
      exact (Option.some.inj z).symm
    rw [ends_cons, e1, pass_snoc, ends_snoc, e2, ih hs hr, ← hl, swapL_back hpn]
    show (pass (swapL l p) r).reverse ++ [l] = (l :: pass (swapL l p) r).reverse
    rw [List.reverse_cons]
theorem back_back {n : Nat} {r : List Nat} (h : ∀ p ∈ r, p < n) : backL n (backL n r) = r := by
  unfold backL
  rw [List.map_reverse, List.map_map, List.map_reverse, List.reverse_reverse]
  refine (List.map_congr_left fun p hp => ?_).trans (List.map_id r)
  have := h p hp
  show n - 1 - (n - 1 - p) = p
  omega
/-- what the draws made a road is one by the items, too -/
theorem walk_road {js : List Nat} : ∀ {l r : List Nat}, IsRoad js l r → walkO js l (r.map fun p : Nat => some (p : Int)) = true
  | _, [], _ => rfl
  | l, p :: r, h => by
    obtain ⟨⟨c, hc, hm⟩, h2⟩ := h
    show (match placeO l js (some (p : Int)) with | some p => walkO js (swapL l p) (r.map fun p : Nat => some (p : Int)) | none => false) = true
    rw [placeO_yes hc hm]
    exact walk_road h2
theorem last_len {l r : List Nat} : atI (wordsV (pass l r)) ((((wordsV (pass l r)).length : Nat) : Int) - 1) = some (V.str (S (ends l r))) := by
  have hl : (wordsV (pass l r)).length = r.length + 1 := by rw [List.length_map, pass_len]
  rw [hl, show (((r.length + 1 : Nat) : Int) - 1) = ((r.length : Nat) : Int) by omega]
  refine atI_nat ?_
  rw [List.getElem?_map, pass_last]
  rfl
/-- what stays through a law's row about one road -/
structure FW (H0 : Hp) (g v ke m : Addr) (r ws : List Nat) (c : Nat) (H : Hp) : Prop where
  ro : H v = some (.lst (placesV r))
  ke : H ke = some (.lst (placesV r))
  du : H m = some (.lst (wordsV (pass ws r)))
  G : GenAt H g c
  B : But g H0 H
theorem FW.same {H0 H H' : Hp} {g v ke m : Addr} {r ws : List Nat} {c : Nat} (h : FW H0 g v ke m r ws c H) (s : Same H H') : FW H0 g v ke m r ws c H' :=
  ⟨s _ _ h.ro, s _ _ h.ke, s _ _ h.du, h.G.same s, h.B.trans (.same s)⟩
end Sw
namespace Sw
open PySem PySem.Spec PyProof.Rows L2
theorem FW.but {H0 H H' : Hp} {g v ke m : Addr} {r ws : List Nat} {c c' : Nat} (h : FW H0 g v ke m r ws c H) (nv : v ≠ g) (nk : ke ≠ g) (nm : m ≠ g) (b : But g H H') (G : GenAt H' g c') : FW H0 g v ke m r ws c' H' :=
  ⟨b _ _ nv h.ro, b _ _ nk h.ke, b _ _ nm h.du, G, h.B.trans b⟩
/-- isinstance(x, list) for a value of any kind -/
theorem isi_list {K : PySem.W.Frag} {H : Hp} {v : V} {o : Option (List (Option Int))} {Q : VK} (h : Val H v o) (q : Q (.bl o.isSome) H) : rIsi K [v, .ty "list"] H Q := by
  cases h with
  | lst ht _ => exact ⟨_, _, _, _, true, rfl, ClsV.ty "list", .base (.lst ht), kit_ty (by decide +kernel), q⟩
  | tup ht => exact ⟨_, _, _, _, _, rfl, ClsV.ty "list", .base (.tup ht), kit_ty (by decide +kernel), q⟩
  | dic ht => exact ⟨_, _, _, _, _, rfl, ClsV.ty "list", .base (.dK ht), kit_ty (by decide +kernel), q⟩
  | int i => exact ⟨_, _, _, _, _, rfl, ClsV.ty "list", .base (.int _), kit_ty (by decide +kernel), q⟩
  | bl b => exact ⟨_, _, _, _, _, rfl, ClsV.ty "list", .base (.bl _), kit_ty (by decide +kernel), q⟩
  | non => exact ⟨_, _, _, _, _, rfl, ClsV.ty "list", .base .non, kit_ty (by decide +kernel), q⟩
  | str s => exact ⟨_, _, _, _, _, rfl, ClsV.ty "list", .base (.str _), kit_ty (by decide +kernel), q⟩
/-- a and b, where b is asked only if a holds -/
theorem and_then {t1 t2 : TE} {σ : L2.St} {H : Hp} {Q : VK} {b c : Bool} (h1 : ∀ Q' : VK, Q' (.bl b) H → t1 σ H Q') (h2 : b = true → (∀ H', Same H H' → Q (.bl c) H') → t2 σ H Q) (h3 : b = false → c = false) (q : ∀ H', Same H H' → Q (.bl c) H') : tAndV t1 t2 σ H Q := by
  refine h1 _ ⟨b, rfl, ?_⟩
  cases b with
  | true => exact iteT (h2 rfl q)
  | false =>
    have := q H fun _ _ e => e
    rw [h3 rfl] at this
    exact iteF this
theorem walk_zeros : ∀ n : Nat, IsRoad [120] [120] (List.replicate n 0)
  | 0 => trivial
  | n + 1 => ⟨⟨120, rfl, List.mem_singleton.mpr rfl⟩, walk_zeros n⟩
theorem ends_zeros : ∀ n : Nat, ends [120] (List.replicate n 0) = [120]
  | 0 => rfl
  | n + 1 => ends_zeros n
end Sw
namespace K03
open PySem PySem.Spec PyProof.Rows L2 Sw
def top (i : Nat) : Stmt := PySem.Challenge.pw_sideswaps_k03_whole_roads_and_back.main.body.getD i (.Pass ⟨0, 0, 0, 0⟩)
abbrev s_is_word : Stmt := top 8
abbrev N_is_word : List Str := ["value", "sign"]
abbrev P_is_word : List Str := ["value"]
theorem sc_is_word : FnScope N_is_word P_is_word (defScope s_is_word) := ⟨rfl, rfl, rfl, by decide +kernel, rfl, by decide +kernel, by decide +kernel⟩
abbrev s_is_count : Stmt := top 10
abbrev N_is_count : List Str := ["value"]
abbrev P_is_count : List Str := ["value"]
theorem sc_is_count : FnScope N_is_count P_is_count (defScope s_is_count) := ⟨rfl, rfl, rfl, by decide +kernel, rfl, by decide +kernel, by decide +kernel⟩
abbrev s__ascends : Stmt := top 11
abbrev N__ascends : List Str := ["signs", "first", "second"]
abbrev P__ascends : List Str := ["signs"]
theorem sc__ascends : FnScope N__ascends P__ascends (defScope s__ascends) := ⟨rfl, rfl, rfl, by decide +kernel, rfl, by decide +kernel, by decide +kernel⟩
abbrev s_sides_changed : Stmt := top 14
abbrev N_sides_changed : List Str := ["word", "place"]
abbrev P_sides_changed : List Str := ["word", "place"]
theorem sc_sides_changed : FnScope N_sides_changed P_sides_changed (defScope s_sides_changed) := ⟨rfl, rfl, rfl, by decide +kernel, rfl, by decide +kernel, by decide +kernel⟩
abbrev s__law_hash : Stmt := top 22
abbrev N__law_hash : List Str := ["_law_seed", "_law_index", "_law_mixed"]
abbrev P__law_hash : List Str := ["_law_seed", "_law_index"]
theorem sc__law_hash : FnScope N__law_hash P__law_hash (defScope s__law_hash) := ⟨rfl, rfl, rfl, by decide +kernel, rfl, by decide +kernel, by decide +kernel⟩
abbrev s__law_cell : Stmt := top 24
abbrev N__law_cell : List Str := ["_law_script", "_law_index"]
abbrev P__law_cell : List Str := ["_law_script", "_law_index"]
theorem sc__law_cell : FnScope N__law_cell P__law_cell (defScope s__law_cell) := ⟨rfl, rfl, rfl, by decide +kernel, rfl, by decide +kernel, by decide +kernel⟩
abbrev s__law_yes : Stmt := top 26
abbrev N__law_yes : List Str := ["_law_told", "_law_due"]
abbrev P__law_yes : List Str := ["_law_told", "_law_due"]
theorem sc__law_yes : FnScope N__law_yes P__law_yes (defScope s__law_yes) := ⟨rfl, rfl, rfl, by decide +kernel, rfl, by decide +kernel, by decide +kernel⟩
abbrev s__law_swapped : Stmt := top 30
abbrev N__law_swapped : List Str := ["_law_word_here", "_law_place"]
abbrev P__law_swapped : List Str := ["_law_word_here", "_law_place"]
theorem sc__law_swapped : FnScope N__law_swapped P__law_swapped (defScope s__law_swapped) := ⟨rfl, rfl, rfl, by decide +kernel, rfl, by decide +kernel, by decide +kernel⟩
abbrev s_is_joints : Stmt := top 9
abbrev N_is_joints : List Str := ["value"]
abbrev P_is_joints : List Str := ["value"]
theorem sc_is_joints : FnScope N_is_joints P_is_joints (defScope s_is_joints) := ⟨rfl, rfl, rfl, by decide +kernel, rfl, by decide +kernel, by decide +kernel⟩
abbrev s_check_word : Stmt := top 12
abbrev N_check_word : List Str := ["value"]
abbrev P_check_word : List Str := ["value"]
theorem sc_check_word : FnScope N_check_word P_check_word (defScope s_check_word) := ⟨rfl, rfl, rfl, by decide +kernel, rfl, by decide +kernel, by decide +kernel⟩
abbrev s__is_open : Stmt := top 15
abbrev N__is_open : List Str := ["word", "joints", "place"]
abbrev P__is_open : List Str := ["word", "joints", "place"]
theorem sc__is_open : FnScope N__is_open P__is_open (defScope s__is_open) := ⟨rfl, rfl, rfl, by decide +kernel, rfl, by decide +kernel, by decide +kernel⟩
abbrev s_back_road : Stmt := top 20
abbrev N_back_road : List Str := ["size", "road", "place"]
abbrev P_back_road : List Str := ["size", "road"]
theorem sc_back_road : FnScope N_back_road P_back_road (defScope s_back_road) := ⟨rfl, rfl, rfl, by decide +kernel, rfl, by decide +kernel, by decide +kernel⟩
abbrev s__law_random : Stmt := top 23
abbrev N__law_random : List Str := ["_law_generator_here", "_law_bound", "_law_drawn", "_law_turn"]
abbrev P__law_random : List Str := ["_law_generator_here", "_law_bound"]
theorem sc__law_random : FnScope N__law_random P__law_random (defScope s__law_random) := ⟨rfl, rfl, rfl, by decide +kernel, rfl, by decide +kernel, by decide +kernel⟩
abbrev s__law_generator : Stmt := top 25
abbrev N__law_generator : List Str := ["_law_script", "_law_index", "_law_seed"]
abbrev P__law_generator : List Str := ["_law_script", "_law_index"]
theorem sc__law_generator : FnScope N__law_generator P__law_generator (defScope s__law_generator) := ⟨rfl, rfl, rfl, by decide +kernel, rfl, by decide +kernel, by decide +kernel⟩
abbrev s__law_passed : Stmt := top 32
abbrev N__law_passed : List Str := ["_law_word_here", "_law_joints_here", "_law_road_here", "_law_found", "_law_place", "_law_there"]
abbrev P__law_passed : List Str := ["_law_word_here", "_law_joints_here", "_law_road_here"]
theorem sc__law_passed : FnScope N__law_passed P__law_passed (defScope s__law_passed) := ⟨rfl, rfl, rfl, by decide +kernel, rfl, by decide +kernel, by decide +kernel⟩
abbrev s_check_joints : Stmt := top 13
abbrev N_check_joints : List Str := ["value"]
abbrev P_check_joints : List Str := ["value"]
theorem sc_check_joints : FnScope N_check_joints P_check_joints (defScope s_check_joints) := ⟨rfl, rfl, rfl, by decide +kernel, rfl, by decide +kernel, by decide +kernel⟩
abbrev s__walked : Stmt := top 16
abbrev N__walked : List Str := ["word", "joints", "value", "made", "place"]
abbrev P__walked : List Str := ["word", "joints", "value"]
theorem sc__walked : FnScope N__walked P__walked (defScope s__walked) := ⟨rfl, rfl, rfl, by decide +kernel, rfl, by decide +kernel, by decide +kernel⟩
abbrev s__law_word : Stmt := top 27
abbrev N__law_word : List Str := ["_law_generator_here", "_law_letters_here", "_law_size", "_law_turn"]
abbrev P__law_word : List Str := ["_law_generator_here", "_law_letters_here", "_law_size"]
theorem sc__law_word : FnScope N__law_word P__law_word (defScope s__law_word) := ⟨rfl, rfl, rfl, by decide +kernel, rfl, by decide +kernel, by decide +kernel⟩
abbrev s__law_letters : Stmt := top 28
abbrev N__law_letters : List Str := ["_law_generator_here", "_law_least", "_law_most", "_law_many", "_law_found", "_law_start", "_law_turn"]
abbrev P__law_letters : List Str := ["_law_generator_here", "_law_least", "_law_most"]
theorem sc__law_letters : FnScope N__law_letters P__law_letters (defScope s__law_letters) := ⟨rfl, rfl, rfl, by decide +kernel, rfl, by decide +kernel, by decide +kernel⟩
abbrev s__law_joints : Stmt := top 29
abbrev N__law_joints : List Str := ["_law_generator_here", "_law_letters_here", "_law_letter"]
abbrev P__law_joints : List Str := ["_law_generator_here", "_law_letters_here"]
theorem sc__law_joints : FnScope N__law_joints P__law_joints (defScope s__law_joints) := ⟨rfl, rfl, rfl, by decide +kernel, rfl, by decide +kernel, by decide +kernel⟩
abbrev s__law_road : Stmt := top 31
abbrev N__law_road : List Str := ["_law_generator_here", "_law_word_here", "_law_joints_here", "_law_most", "_law_road_here", "_law_there", "_law_turn", "_law_open_ones", "_law_place"]
abbrev P__law_road : List Str := ["_law_generator_here", "_law_word_here", "_law_joints_here", "_law_most"]
theorem sc__law_road : FnScope N__law_road P__law_road (defScope s__law_road) := ⟨rfl, rfl, rfl, by decide +kernel, rfl, by decide +kernel, by decide +kernel⟩
abbrev s__law_bent : Stmt := top 33
abbrev N__law_bent : List Str := ["_law_generator_here", "_law_road_here", "_law_size", "_law_at", "_law_odd", "_law_found", "_law_item", "_law_place"]
abbrev P__law_bent : List Str := ["_law_generator_here", "_law_road_here", "_law_size"]
theorem sc__law_bent : FnScope N__law_bent P__law_bent (defScope s__law_bent) := ⟨rfl, rfl, rfl, by decide +kernel, rfl, by decide +kernel, by decide +kernel⟩
abbrev s_is_road : Stmt := top 17
abbrev N_is_road : List Str := ["word", "joints", "value"]
abbrev P_is_road : List Str := ["word", "joints", "value"]
theorem sc_is_road : FnScope N_is_road P_is_road (defScope s_is_road) := ⟨rfl, rfl, rfl, by decide +kernel, rfl, by decide +kernel, by decide +kernel⟩
abbrev s_passed : Stmt := top 18
abbrev N_passed : List Str := ["word", "joints", "road", "made"]
abbrev P_passed : List Str := ["word", "joints", "road"]
theorem sc_passed : FnScope N_passed P_passed (defScope s_passed) := ⟨rfl, rfl, rfl, by decide +kernel, rfl, by decide +kernel, by decide +kernel⟩
abbrev s_done : Stmt := top 19
abbrev N_done : List Str := ["word", "joints", "road"]
abbrev P_done : List Str := ["word", "joints", "road"]
theorem sc_done : FnScope N_done P_done (defScope s_done) := ⟨rfl, rfl, rfl, by decide +kernel, rfl, by decide +kernel, by decide +kernel⟩
abbrev s__law_right : Stmt := top 34
abbrev N__law_right : List Str := ["_law_generator_here", "_law_letters_here", "_law_joints_here", "_law_size", "_law_word_here", "_law_road_here", "_law_kept", "_law_due", "_law_told", "_law_last", "_law_back", "_law_more", "_law_value", "_law_right_here", "_law_place"]
abbrev P__law_right : List Str := ["_law_generator_here"]
theorem sc__law_right : FnScope N__law_right P__law_right (defScope s__law_right) := ⟨rfl, rfl, rfl, by decide +kernel, rfl, by decide +kernel, by decide +kernel⟩
abbrev s_law : Stmt := top 35
abbrev N_law : List Str := ["_law_script", "_law_index"]
abbrev P_law : List Str := ["_law_script"]
theorem sc_law : FnScope N_law P_law (defScope s_law) := ⟨rfl, rfl, rfl, by decide +kernel, rfl, by decide +kernel, by decide +kernel⟩
structure Txt (K : PySem.W.Frag) (mg : Str → Option Value) where
  f_is_word : Addr
  fd_is_word : FuncData
  F_is_word : Fun K "is_word" "is_word" s_is_word f_is_word fd_is_word
  m_is_word : mg "is_word" = some (.ref f_is_word)
  b_is_word : Binds K fd_is_word P_is_word []
  f_is_count : Addr
  fd_is_count : FuncData
  F_is_count : Fun K "is_count" "is_count" s_is_count f_is_count fd_is_count
  m_is_count : mg "is_count" = some (.ref f_is_count)
  b_is_count : Binds K fd_is_count P_is_count []
  f__ascends : Addr
  fd__ascends : FuncData
  F__ascends : Fun K "_ascends" "_ascends" s__ascends f__ascends fd__ascends
  m__ascends : mg "_ascends" = some (.ref f__ascends)
  b__ascends : Binds K fd__ascends P__ascends []
  f_sides_changed : Addr
  fd_sides_changed : FuncData
  F_sides_changed : Fun K "sides_changed" "sides_changed" s_sides_changed f_sides_changed fd_sides_changed
  m_sides_changed : mg "sides_changed" = some (.ref f_sides_changed)
  b_sides_changed : Binds K fd_sides_changed P_sides_changed []
  f__law_hash : Addr
  fd__law_hash : FuncData
  F__law_hash : Fun K "_law_hash" "_law_hash" s__law_hash f__law_hash fd__law_hash
  m__law_hash : mg "_law_hash" = some (.ref f__law_hash)
  b__law_hash : Binds K fd__law_hash P__law_hash []
  f__law_cell : Addr
  fd__law_cell : FuncData
  F__law_cell : Fun K "_law_cell" "_law_cell" s__law_cell f__law_cell fd__law_cell
  m__law_cell : mg "_law_cell" = some (.ref f__law_cell)
  b__law_cell : Binds K fd__law_cell P__law_cell []
  f__law_yes : Addr
  fd__law_yes : FuncData
  F__law_yes : Fun K "_law_yes" "_law_yes" s__law_yes f__law_yes fd__law_yes
  m__law_yes : mg "_law_yes" = some (.ref f__law_yes)
  b__law_yes : Binds K fd__law_yes P__law_yes []
  f__law_swapped : Addr
  fd__law_swapped : FuncData
  F__law_swapped : Fun K "_law_swapped" "_law_swapped" s__law_swapped f__law_swapped fd__law_swapped
  m__law_swapped : mg "_law_swapped" = some (.ref f__law_swapped)
  b__law_swapped : Binds K fd__law_swapped P__law_swapped []
  f_is_joints : Addr
  fd_is_joints : FuncData
  F_is_joints : Fun K "is_joints" "is_joints" s_is_joints f_is_joints fd_is_joints
  m_is_joints : mg "is_joints" = some (.ref f_is_joints)
  b_is_joints : Binds K fd_is_joints P_is_joints []
  f_check_word : Addr
  fd_check_word : FuncData
  F_check_word : Fun K "check_word" "check_word" s_check_word f_check_word fd_check_word
  m_check_word : mg "check_word" = some (.ref f_check_word)
  b_check_word : Binds K fd_check_word P_check_word []
  f__is_open : Addr
  fd__is_open : FuncData
  F__is_open : Fun K "_is_open" "_is_open" s__is_open f__is_open fd__is_open
  m__is_open : mg "_is_open" = some (.ref f__is_open)
  b__is_open : Binds K fd__is_open P__is_open []
  f_back_road : Addr
  fd_back_road : FuncData
  F_back_road : Fun K "back_road" "back_road" s_back_road f_back_road fd_back_road
  m_back_road : mg "back_road" = some (.ref f_back_road)
  b_back_road : Binds K fd_back_road P_back_road []
  f__law_random : Addr
  fd__law_random : FuncData
  F__law_random : Fun K "_law_random" "_law_random" s__law_random f__law_random fd__law_random
  m__law_random : mg "_law_random" = some (.ref f__law_random)
  b__law_random : Binds K fd__law_random P__law_random []
  f__law_generator : Addr
  fd__law_generator : FuncData
  F__law_generator : Fun K "_law_generator" "_law_generator" s__law_generator f__law_generator fd__law_generator
  m__law_generator : mg "_law_generator" = some (.ref f__law_generator)
  b__law_generator : Binds K fd__law_generator P__law_generator []
  f__law_passed : Addr
  fd__law_passed : FuncData
  F__law_passed : Fun K "_law_passed" "_law_passed" s__law_passed f__law_passed fd__law_passed
  m__law_passed : mg "_law_passed" = some (.ref f__law_passed)
  b__law_passed : Binds K fd__law_passed P__law_passed []
  f_check_joints : Addr
  fd_check_joints : FuncData
  F_check_joints : Fun K "check_joints" "check_joints" s_check_joints f_check_joints fd_check_joints
  m_check_joints : mg "check_joints" = some (.ref f_check_joints)
  b_check_joints : Binds K fd_check_joints P_check_joints []
  f__walked : Addr
  fd__walked : FuncData
  F__walked : Fun K "_walked" "_walked" s__walked f__walked fd__walked
  m__walked : mg "_walked" = some (.ref f__walked)
  b__walked : Binds K fd__walked P__walked []
  f__law_word : Addr
  fd__law_word : FuncData
  F__law_word : Fun K "_law_word" "_law_word" s__law_word f__law_word fd__law_word
  m__law_word : mg "_law_word" = some (.ref f__law_word)
  b__law_word : Binds K fd__law_word P__law_word []
  f__law_letters : Addr
  fd__law_letters : FuncData
  F__law_letters : Fun K "_law_letters" "_law_letters" s__law_letters f__law_letters fd__law_letters
  m__law_letters : mg "_law_letters" = some (.ref f__law_letters)
  b__law_letters : Binds K fd__law_letters P__law_letters []
  f__law_joints : Addr
  fd__law_joints : FuncData
  F__law_joints : Fun K "_law_joints" "_law_joints" s__law_joints f__law_joints fd__law_joints
  m__law_joints : mg "_law_joints" = some (.ref f__law_joints)
  b__law_joints : Binds K fd__law_joints P__law_joints []
  f__law_road : Addr
  fd__law_road : FuncData
  F__law_road : Fun K "_law_road" "_law_road" s__law_road f__law_road fd__law_road
  m__law_road : mg "_law_road" = some (.ref f__law_road)
  b__law_road : Binds K fd__law_road P__law_road []
  f__law_bent : Addr
  fd__law_bent : FuncData
  F__law_bent : Fun K "_law_bent" "_law_bent" s__law_bent f__law_bent fd__law_bent
  m__law_bent : mg "_law_bent" = some (.ref f__law_bent)
  b__law_bent : Binds K fd__law_bent P__law_bent []
  f_is_road : Addr
  fd_is_road : FuncData
  F_is_road : Fun K "is_road" "is_road" s_is_road f_is_road fd_is_road
  m_is_road : mg "is_road" = some (.ref f_is_road)
  b_is_road : Binds K fd_is_road P_is_road []
  f_passed : Addr
  fd_passed : FuncData
  F_passed : Fun K "passed" "passed" s_passed f_passed fd_passed
  m_passed : mg "passed" = some (.ref f_passed)
  b_passed : Binds K fd_passed P_passed []
  f_done : Addr
  fd_done : FuncData
  F_done : Fun K "done" "done" s_done f_done fd_done
  m_done : mg "done" = some (.ref f_done)
  b_done : Binds K fd_done P_done []
  f__law_right : Addr
  fd__law_right : FuncData
  F__law_right : Fun K "_law_right" "_law_right" s__law_right f__law_right fd__law_right
  m__law_right : mg "_law_right" = some (.ref f__law_right)
  b__law_right : Binds K fd__law_right P__law_right []
  f_law : Addr
  fd_law : FuncData
  F_law : Fun K "law" "law" s_law f_law fd_law
  m_law : mg "law" = some (.ref f_law)
  b_law : Binds K fd_law P_law []
  g_LONGEST : ∃ t, mg "LONGEST" = some (.int 300 t)
  z_all : mg "all" = none
  z_bool : mg "bool" = none
  z_int : mg "int" = none
  z_isinstance : mg "isinstance" = none
  z_len : mg "len" = none
  z_list : mg "list" = none
  z_max : mg "max" = none
  z_range : mg "range" = none
  z_repr : mg "repr" = none
  z_reversed : mg "reversed" = none
  z_str : mg "str" = none
  z_sum : mg "sum" = none
  z_tuple : mg "tuple" = none
  z_zip : mg "zip" = none
def gk_passed__0_road_joints_word {α : Type} : List α → List α → List α := fun us ws => match us, ws with | [], [w0, w1, w2] => [w2, w1, w0] | _, _ => []
theorem gk_rel_passed__0_road_joints_word {vs zs : List V} {us ws : List Value} (r1 : Vals vs us) (r2 : Vals zs ws) : Vals (gk_passed__0_road_joints_word vs zs) (gk_passed__0_road_joints_word us ws) := by
  cases r1 with
  | nil =>
    cases r2 with
    | nil => exact .nil
    | cons w0 r2 =>
      cases r2 with
      | nil => exact .nil
      | cons w1 r2 =>
        cases r2 with
        | nil => exact .nil
        | cons w2 r2 =>
          cases r2 with
          | nil =>
            exact (.cons w2 (.cons w1 (.cons w0 .nil)))
          | cons _ _ => exact .nil
  | cons _ _ => exact .nil
theorem kb_passed__0_road_joints_word {K : PySem.W.Frag} {mg : Str → Option Value} (T : Txt K mg) : KBn K T.fd_passed P_passed 0 ["road", "joints", "word"] gk_passed__0_road_joints_word gk_passed__0_road_joints_word := by
  obtain ⟨oc, od, kV, doc, pm, an, cdv, ct, osl, e, lk, hcd⟩ := T.F_passed.ex
  refine ⟨fun s us ws X l1 l2 => ?_, fun r1 r2 => gk_rel_passed__0_road_joints_word r1 r2⟩
  rw [e]
  exact match us, ws, l1, l2 with | [], [_, _, _], _, _ => .of_eq rfl
def gk_done__0_road_word_joints {α : Type} : List α → List α → List α := fun us ws => match us, ws with | [], [w0, w1, w2] => [w1, w2, w0] | _, _ => []
theorem gk_rel_done__0_road_word_joints {vs zs : List V} {us ws : List Value} (r1 : Vals vs us) (r2 : Vals zs ws) : Vals (gk_done__0_road_word_joints vs zs) (gk_done__0_road_word_joints us ws) := by
  cases r1 with
  | nil =>
    cases r2 with
    | nil => exact .nil
    | cons w0 r2 =>
      cases r2 with
      | nil => exact .nil
      | cons w1 r2 =>
        cases r2 with
        | nil => exact .nil
        | cons w2 r2 =>
          cases r2 with
          | nil =>
            exact (.cons w1 (.cons w2 (.cons w0 .nil)))
          | cons _ _ => exact .nil
  | cons _ _ => exact .nil
theorem kb_done__0_road_word_joints {K : PySem.W.Frag} {mg : Str → Option Value} (T : Txt K mg) : KBn K T.fd_done P_done 0 ["road", "word", "joints"] gk_done__0_road_word_joints gk_done__0_road_word_joints := by
  obtain ⟨oc, od, kV, doc, pm, an, cdv, ct, osl, e, lk, hcd⟩ := T.F_done.ex
  refine ⟨fun s us ws X l1 l2 => ?_, fun r1 r2 => gk_rel_done__0_road_word_joints r1 r2⟩
  rw [e]
  exact match us, ws, l1, l2 with | [], [_, _, _], _, _ => .of_eq rfl
def gk_back_road__0_road_size {α : Type} : List α → List α → List α := fun us ws => match us, ws with | [], [w0, w1] => [w1, w0] | _, _ => []
theorem gk_rel_back_road__0_road_size {vs zs : List V} {us ws : List Value} (r1 : Vals vs us) (r2 : Vals zs ws) : Vals (gk_back_road__0_road_size vs zs) (gk_back_road__0_road_size us ws) := by
  cases r1 with
  | nil =>
    cases r2 with
    | nil => exact .nil
    | cons w0 r2 =>
      cases r2 with
      | nil => exact .nil
      | cons w1 r2 =>
        cases r2 with
        | nil =>
          exact (.cons w1 (.cons w0 .nil))
        | cons _ _ => exact .nil
  | cons _ _ => exact .nil
theorem kb_back_road__0_road_size {K : PySem.W.Frag} {mg : Str → Option Value} (T : Txt K mg) : KBn K T.fd_back_road P_back_road 0 ["road", "size"] gk_back_road__0_road_size gk_back_road__0_road_size := by
  obtain ⟨oc, od, kV, doc, pm, an, cdv, ct, osl, e, lk, hcd⟩ := T.F_back_road.ex
  refine ⟨fun s us ws X l1 l2 => ?_, fun r1 r2 => gk_rel_back_road__0_road_size r1 r2⟩
  rw [e]
  exact match us, ws, l1, l2 with | [], [_, _], _, _ => .of_eq rfl
def gk_is_road__0_value_word_joints {α : Type} : List α → List α → List α := fun us ws => match us, ws with | [], [w0, w1, w2] => [w1, w2, w0] | _, _ => []
theorem gk_rel_is_road__0_value_word_joints {vs zs : List V} {us ws : List Value} (r1 : Vals vs us) (r2 : Vals zs ws) : Vals (gk_is_road__0_value_word_joints vs zs) (gk_is_road__0_value_word_joints us ws) := by
  cases r1 with
  | nil =>
    cases r2 with
    | nil => exact .nil
    | cons w0 r2 =>
      cases r2 with
      | nil => exact .nil
      | cons w1 r2 =>
        cases r2 with
        | nil => exact .nil
        | cons w2 r2 =>
          cases r2 with
          | nil =>
            exact (.cons w1 (.cons w2 (.cons w0 .nil)))
          | cons _ _ => exact .nil
  | cons _ _ => exact .nil
theorem kb_is_road__0_value_word_joints {K : PySem.W.Frag} {mg : Str → Option Value} (T : Txt K mg) : KBn K T.fd_is_road P_is_road 0 ["value", "word", "joints"] gk_is_road__0_value_word_joints gk_is_road__0_value_word_joints := by
  obtain ⟨oc, od, kV, doc, pm, an, cdv, ct, osl, e, lk, hcd⟩ := T.F_is_road.ex
  refine ⟨fun s us ws X l1 l2 => ?_, fun r1 r2 => gk_rel_is_road__0_value_word_joints r1 r2⟩
  rw [e]
  exact match us, ws, l1, l2 with | [], [_, _, _], _, _ => .of_eq rfl
section
variable {P : Program} {w : World} {K : PySem.W.Frag} {mg : Str → Option Value} {base : Heap}
/-! is_word -/
def sp_is_word : Sp := fun vs H Q _ => ∃ l : List Nat, vs = [.str (S l)] ∧ l.length ≤ 50000 ∧ ∀ H', Same H H' → Q (.bl (wordB l)) H'
theorem ok_is_word (T : Txt K mg) : FnOk P w K mg base CX0 1 T.f_is_word T.fd_is_word P_is_word (sp_is_word) := by
  have nd : N_is_word.Nodup := sc_is_word.nd
  refine T.F_is_word.ok sc_is_word (fun vs H Q E h => ?_) (fun cdv A outer s H vs Q E hr h => ?_)
  · obtain ⟨l, rfl, _⟩ := h
    rfl
  · obtain ⟨l, rfl, hl, k⟩ := h
    refine ⟨_, (pss_one (ps_ret (pe_and (pe_callB call_isi (by rfl) T.z_isinstance (by decide +kernel) (pa_cons (pv 0) (pa_cons (pe_bltn (v := .ty "str") (by rfl) T.z_str (by decide +kernel) rfl) pa_nil))) (pe_one (pe_callB (cr_all rfl) (by rfl) T.z_all (by decide +kernel) (pa_cons (pe_lc (own := [("sign", 1)]) (hc := rfl) (hN := nd) (pi_str (pv 0)) (blkOk_by (N := N_is_word) (sc := defScope s_is_word) (by decide +kernel)) (fun _ _ _ _ _ => by exact (pg_name (i := 1) nd rfl (Or.inl rfl))) (fun _ _ _ _ _ => by exact pts_nil) (fun _ _ _ _ _ => by exact (pe_chain op_le_str op_le_str pe_str (pv 1) pe_str))) pa_nil)))))), ?_⟩
    refine ⟨_, rfl, _, _, _, _, _, rfl, ClsV.ty "str", .base (.str _), kit_ty (by decide +kernel), true, rfl, iteT ?_⟩
    refine ⟨_, rfl, _, rfl, fun D hD => ?_⟩
    refine lc_it walk_str (fun i H' => Same H H' ∧ H' D = some (.lst (((l.take i).map signB).map V.bl))) ⟨Same.upd hD, by rw [upd_same]; rfl⟩ (fun _ _ _ _ => trivial) ?_ ?_
    · rintro i x H1 H2 hi ⟨s1, d1⟩ ⟨rfl, c, hc, rfl⟩
      rw [at_S] at hc
      refine ⟨rfl, _, rfl, _, _, rfl, rfl, _, rfl, ?_⟩
      have step : ∀ v, v = V.bl (signB c) → ∃ acc, H2 D = some (.lst acc) ∧ acc.length < sizeLine ∧ (Same H (upd H2 D (.lst (acc ++ [v]))) ∧ (upd H2 D (.lst (acc ++ [v]))) D = some (.lst (((l.take (i + 1)).map signB).map V.bl))) := by
        rintro v rfl
        refine ⟨_, d1, ?_, fun b o e => ?_, ?_⟩
        · rw [List.length_map, List.length_map, List.length_take]; exact small_line (by omega)
        · rw [upd_ne (ne_of_none e hD)]; exact s1 b o e
        · rw [upd_same, take_snoc hc]; simp
      have sc := sign_chain c
      refine ite2 (fun z => ?_) (fun z => ?_)
      · rw [if_pos z] at sc
        exact ⟨_, _, rfl, rfl, step _ (by rw [sc])⟩
      · rw [if_neg z] at sc
        exact step _ (by rw [sc])
    · rintro H1 ⟨s1, d1⟩
      rw [size_S, List.take_length] at d1
      refine ⟨D, l.map signB, rfl, SqL.of d1, ?_⟩
      have e : (l.map signB).all id = wordB l := by unfold wordB; rw [List.all_map]; rfl
      rw [e]
      exact k _ s1
/-! is_count -/
def sp_is_count : Sp := fun vs H Q _ => ∃ i : Int, vs = [.int i] ∧ Q (.bl (decide (0 ≤ i))) H
theorem ok_is_count (T : Txt K mg) : FnOk P w K mg base CX0 1 T.f_is_count T.fd_is_count P_is_count (sp_is_count) := by
  have nd : N_is_count.Nodup := sc_is_count.nd
  refine T.F_is_count.ok sc_is_count (fun vs H Q E h => ?_) (fun cdv A outer s H vs Q E hr h => ?_)
  · obtain ⟨l, rfl, _⟩ := h
    rfl
  · obtain ⟨i, rfl, k⟩ := h
    refine ⟨_, (pss_one (ps_ret (pe_and (pe_callB call_isi (by rfl) T.z_isinstance (by decide +kernel) (pa_cons (pv 0) (pa_cons (pe_bltn (v := .ty "int") (by rfl) T.z_int (by decide +kernel) rfl) pa_nil))) (pe_and (pe_not (pe_callB call_isi (by rfl) T.z_isinstance (by decide +kernel) (pa_cons (pv 0) (pa_cons (pe_bltn (v := .ty "bool") (by rfl) T.z_bool (by decide +kernel) rfl) pa_nil)))) (pe_one (pe_cmpR op_ge (pv 0) pe_int (nomark _))))))), ?_⟩
    refine ⟨_, rfl, _, _, _, _, _, rfl, ClsV.ty "int", .base (.int _), kit_ty (by decide +kernel), true, rfl, iteT ?_⟩
    refine ⟨_, rfl, _, _, _, _, _, rfl, ClsV.ty "bool", .base (.int _), kit_ty (by decide +kernel), false, rfl, true, rfl, iteT ?_⟩
    exact ⟨_, rfl, _, _, rfl, rfl, k⟩
/-! is_count -/
def sp_is_count_any : Sp := fun vs H Q _ => ∃ (v : V) (o : Option Int), vs = [v] ∧ Item H v o ∧ Q (.bl (cntB o)) H
theorem ok_is_count_any (T : Txt K mg) : FnOk P w K mg base CX0 1 T.f_is_count T.fd_is_count P_is_count (sp_is_count_any) := by
  have nd : N_is_count.Nodup := sc_is_count.nd
  refine T.F_is_count.ok sc_is_count (fun vs H Q E h => ?_) (fun cdv A outer s H vs Q E hr h => ?_)
  · obtain ⟨v, o, rfl, _⟩ := h
    rfl
  · obtain ⟨v, o, rfl, hi, k⟩ := h
    refine ⟨_, (pss_one (ps_ret (pe_and (pe_callB call_isi (by rfl) T.z_isinstance (by decide +kernel) (pa_cons (pv 0) (pa_cons (pe_bltn (v := .ty "int") (by rfl) T.z_int (by decide +kernel) rfl) pa_nil))) (pe_and (pe_not (pe_callB call_isi (by rfl) T.z_isinstance (by decide +kernel) (pa_cons (pv 0) (pa_cons (pe_bltn (v := .ty "bool") (by rfl) T.z_bool (by decide +kernel) rfl) pa_nil)))) (pe_one (pe_cmpR op_ge (pv 0) pe_int (nomark _))))))), ?_⟩
    cases hi with
    | int i =>
      refine ⟨_, rfl, _, _, _, _, _, rfl, ClsV.ty "int", .base (.int _), kit_ty (by decide +kernel), true, rfl, iteT ?_⟩
      refine ⟨_, rfl, _, _, _, _, _, rfl, ClsV.ty "bool", .base (.int _), kit_ty (by decide +kernel), false, rfl, true, rfl, iteT ?_⟩
      exact ⟨_, rfl, _, _, rfl, rfl, k⟩
    | bl b =>
      refine ⟨_, rfl, _, _, _, _, _, rfl, ClsV.ty "int", .base (.bl _), kit_ty (by decide +kernel), true, rfl, iteT ?_⟩
      exact ⟨_, rfl, _, _, _, _, _, rfl, ClsV.ty "bool", .base (.bl _), kit_ty (by decide +kernel), true, rfl, false, rfl, iteF k⟩
    | non => exact ⟨_, rfl, _, _, _, _, _, rfl, ClsV.ty "int", .base .non, kit_ty (by decide +kernel), false, rfl, iteF k⟩
    | str s => exact ⟨_, rfl, _, _, _, _, _, rfl, ClsV.ty "int", .base (.str _), kit_ty (by decide +kernel), false, rfl, iteF k⟩
    | tup ht => exact ⟨_, rfl, _, _, _, _, _, rfl, ClsV.ty "int", .base (.tup ht), kit_ty (by decide +kernel), false, rfl, iteF k⟩
    | lst ht => exact ⟨_, rfl, _, _, _, _, _, rfl, ClsV.ty "int", .base (.lst ht), kit_ty (by decide +kernel), false, rfl, iteF k⟩
/-! _ascends -/
def sp__ascends : Sp := fun vs H Q _ => ∃ l : List Nat, vs = [.str (S l)] ∧ l.length ≤ 50000 ∧ ∀ H', Same H H' → Q (.bl (ascB l)) H'
theorem ok__ascends (T : Txt K mg) : FnOk P w K mg base CX0 1 T.f__ascends T.fd__ascends P__ascends (sp__ascends) := by
  have nd : N__ascends.Nodup := sc__ascends.nd
  refine T.F__ascends.ok sc__ascends (fun vs H Q E h => ?_) (fun cdv A outer s H vs Q E hr h => ?_)
  · obtain ⟨l, rfl, _⟩ := h
    rfl
  · obtain ⟨l, rfl, hl, k⟩ := h
    refine ⟨_, (pss_one (ps_ret (pe_callB (cr_all rfl) (by rfl) T.z_all (by decide +kernel) (pa_cons (pe_lc (own := [("first", 1), ("second", 2)]) (hc := rfl) (hN := nd) (pi_zipS (by rfl) T.z_zip (pa_cons (pv 0) (pa_cons (pe_slice sl_str (pv 0) (po_some pe_int) po_none) pa_nil))) (blkOk_by (N := N__ascends) (sc := defScope s__ascends) (by decide +kernel)) (fun _ _ _ _ _ => by exact (pg_tupK K (n := 2) rfl (pgs_cons (by exact (pg_name (i := 1) nd rfl (Or.inl rfl))) (pgs_cons (by exact (pg_name (i := 2) nd rfl (Or.inl rfl))) pgs_nil)))) (fun _ _ _ _ _ => by exact pts_nil) (fun _ _ _ _ _ => by exact (pe_cmpR op_lt_str (pv 1) (pv 2) (nomark _)))) pa_nil)))), ?_⟩
    refine ⟨_, rfl, _, rfl, _, rfl, _, rfl, by rw [len_S]; exact small_le (by omega), _, _, rfl, fun D hD => ?_⟩
    rw [cutS_from (by decide)]
    refine lc_it walk_zipS (fun i H' => Same H H' ∧ H' D = some (.lst ((((l.zip l.tail).take i).map fun p => decide (p.1 < p.2)).map V.bl))) ⟨Same.upd hD, by rw [upd_same]; rfl⟩ (fun _ _ _ _ => trivial) ?_ ?_
    · rintro i x H1 H2 hi ⟨s1, d1⟩ ⟨T1, x1, y1, rfl, hT, rfl, h1, h2⟩
      replace h1 : (l[i]?).map (fun c => V.str ⟨#[c]⟩) = some x1 := by rw [← at_S]; exact h1
      replace h2 : ((l.drop (1 : Int).toNat)[i]?).map (fun c => V.str ⟨#[c]⟩) = some y1 := by rw [← at_S]; exact h2
      obtain ⟨c, hc, rfl⟩ := Option.map_eq_some_iff.mp h1
      obtain ⟨d, hd, rfl⟩ := Option.map_eq_some_iff.mp h2
      have hz : (l.zip l.tail)[i]? = some (c, d) := zip_tail hc hd
      have nT : D ≠ T1 := ne_of_none d1 hT
      refine ⟨T1, _, rfl, SqT.of upd_same, rfl, _, _, rfl, _, _, rfl, rfl, rfl, ?_⟩
      refine ⟨_, rfl, _, rfl, _, _, rfl, rfl, ?_⟩
      rw [one_lt_S]
      refine ⟨_, by rw [upd_ne nT]; exact d1, ?_, fun b o e => ?_, ?_⟩
      · rw [List.length_map, List.length_map, List.length_take, List.length_zip]; exact small_line (by omega)
      · rw [upd_ne (ne_of_none e hD)]; exact Same.upd hT _ _ (s1 b o e)
      · rw [upd_same, take_snoc hz]; simp
    · rintro H1 ⟨s1, d1⟩
      rw [zip_size, List.take_length] at d1
      refine ⟨D, _, rfl, SqL.of d1, ?_⟩
      have e : ((l.zip l.tail).map fun p => decide (p.1 < p.2)).all id = ascB l := by unfold ascB; rw [List.all_map]; rfl
      rw [e]
      exact k _ s1
/-! _ascends -/
def sp__ascends_list : Sp := fun vs H Q _ => ∃ (a : Addr) (l : List Nat), vs = [.ref a] ∧ H a = some (.lst ((l.map fun c => S [c]).map V.str)) ∧ l.length ≤ 50000 ∧ ∀ H', Same H H' → Q (.bl (ascB l)) H'
theorem ok__ascends_list (T : Txt K mg) : FnOk P w K mg base CX0 1 T.f__ascends T.fd__ascends P__ascends (sp__ascends_list) := by
  have nd : N__ascends.Nodup := sc__ascends.nd
  refine T.F__ascends.ok sc__ascends (fun vs H Q E h => ?_) (fun cdv A outer s H vs Q E hr h => ?_)
  · obtain ⟨a, l, rfl, _⟩ := h
    rfl
  · obtain ⟨a, l, rfl, ha, hl, k⟩ := h
    refine ⟨_, (pss_one (ps_ret (pe_callB (cr_all rfl) (by rfl) T.z_all (by decide +kernel) (pa_cons (pe_lc (own := [("first", 1), ("second", 2)]) (hc := rfl) (hN := nd) (pi_zip (by rfl) T.z_zip (pa_cons (pv 0) (pa_cons (pe_slice sl_list (pv 0) (po_some pe_int) po_none) pa_nil))) (blkOk_by (N := N__ascends) (sc := defScope s__ascends) (by decide +kernel)) (fun _ _ _ _ _ => by exact (pg_tupK K (n := 2) rfl (pgs_cons (by exact (pg_name (i := 1) nd rfl (Or.inl rfl))) (pgs_cons (by exact (pg_name (i := 2) nd rfl (Or.inl rfl))) pgs_nil)))) (fun _ _ _ _ _ => by exact pts_nil) (fun _ _ _ _ _ => by exact (pe_cmpR op_lt_str (pv 1) (pv 2) (nomark _)))) pa_nil)))), ?_⟩
    refine ⟨_, rfl, _, rfl, _, rfl, a, _, rfl, SqL.of ha, fun p hp => ?_⟩
    have hal := Same.upd (o := HO.lst (cutV ((l.map fun c => S [c]).map V.str) (some 1) none)) hp _ _ ha
    have hcut : cutV ((l.map fun c => S [c]).map V.str) (some 1) none = (l.tail.map fun c => S [c]).map V.str := by
      rw [cutV_tail]; simp
    rw [hcut] at hal
    rw [hcut]
    refine ⟨a, p, _, _, rfl, SqL.of hal, SqL.of upd_same, fun D hD => ?_⟩
    refine lc_it (walk_zip (n := (l.zip l.tail).length) (by simp)) (fun i H' => Same (upd H p (.lst ((l.tail.map fun c => S [c]).map V.str))) H' ∧ H' D = some (.lst ((((l.zip l.tail).take i).map fun p => decide (p.1 < p.2)).map V.bl))) ⟨Same.upd hD, by rw [upd_same]; rfl⟩
      (fun i H' _ ⟨s, _⟩ => ⟨SqL.of (s _ _ hal), SqL.of (s _ _ upd_same)⟩) ?_ ?_
    · rintro i x H1 H2 hi ⟨s1, d1⟩ ⟨T1, x1, y1, rfl, hT, rfl, h1, h2⟩
      replace h1 : ((l.map fun c => S [c]).map V.str)[i]? = some x1 := h1
      replace h2 : ((l.tail.map fun c => S [c]).map V.str)[i]? = some y1 := h2
      obtain ⟨c, hc, rfl⟩ : ∃ c, l[i]? = some c ∧ x1 = V.str (S [c]) := by
        rw [List.getElem?_map, List.getElem?_map] at h1
        cases e : l[i]? with
        | none => rw [e] at h1; cases h1
        | some c => rw [e] at h1; exact ⟨c, rfl, (Option.some.inj h1).symm⟩
      obtain ⟨d, hd, rfl⟩ : ∃ c, l.tail[i]? = some c ∧ y1 = V.str (S [c]) := by
        rw [List.getElem?_map, List.getElem?_map] at h2
        cases e : l.tail[i]? with
        | none => rw [e] at h2; cases h2
        | some c => rw [e] at h2; exact ⟨c, rfl, (Option.some.inj h2).symm⟩
      have hz : (l.zip l.tail)[i]? = some (c, d) := by rw [List.getElem?_zip_eq_some]; exact ⟨hc, hd⟩
      have nT : D ≠ T1 := ne_of_none d1 hT
      refine ⟨T1, _, rfl, SqT.of upd_same, rfl, _, _, rfl, _, _, rfl, rfl, rfl, ?_⟩
      refine ⟨_, rfl, _, rfl, _, _, rfl, rfl, ?_⟩
      rw [one_lt_S']
      refine ⟨_, by rw [upd_ne nT]; exact d1, ?_, fun b o e => ?_, ?_⟩
      · rw [List.length_map, List.length_map, List.length_take, List.length_zip]; exact small_line (by omega)
      · rw [upd_ne (ne_of_none e hD)]; exact Same.upd hT _ _ (s1 b o e)
      · rw [upd_same, take_snoc hz]; simp
    · rintro H1 ⟨s1, d1⟩
      rw [List.take_length] at d1
      refine ⟨D, _, rfl, SqL.of d1, ?_⟩
      have e : ((l.zip l.tail).map fun p => decide (p.1 < p.2)).all id = ascB l := by unfold ascB; rw [List.all_map]; rfl
      rw [e]
      exact k _ ((Same.upd hp).trans s1)
/-! sides_changed -/
def sp_sides_changed : Sp := fun vs H Q _ => ∃ (l : List Nat) (p : Nat), vs = [.str (S l), .int (p : Int)] ∧ l.length ≤ 50000 ∧ p < l.length ∧ Q (.str (S (swapL l p))) H
theorem ok_sides_changed (T : Txt K mg) : FnOk P w K mg base CX0 1 T.f_sides_changed T.fd_sides_changed P_sides_changed (sp_sides_changed) := by
  have nd : N_sides_changed.Nodup := sc_sides_changed.nd
  refine T.F_sides_changed.ok sc_sides_changed (fun vs H Q E h => ?_) (fun cdv A outer s H vs Q E hr h => ?_)
  · obtain ⟨l, p, rfl, _⟩ := h
    rfl
  · obtain ⟨l, p, rfl, hl, hp, k⟩ := h
    refine ⟨_, (pss_one (ps_ret (pe_op op_add_str (pe_op op_add_str (pe_slice sl_str (pv 0) (po_some (pe_op op_add (pv 1) pe_int)) po_none) (pe_slice sl_str (pv 0) (po_some (pv 1)) (po_some (pe_op op_add (pv 1) pe_int)))) (pe_slice sl_str (pv 0) po_none (po_some (pv 1)))))), ?_⟩
    have hz : (S l).length ≤ sizeLine := by rw [len_S]; exact small_le (by omega)
    refine ⟨_, rfl, _, rfl, _, _, rfl, rfl, _, rfl, _, rfl, hz, ?_⟩
    refine ⟨_, rfl, _, rfl, _, rfl, _, rfl, _, _, rfl, rfl, _, rfl, _, rfl, hz, ?_⟩
    rw [cutS_from (by omega), show ((p : Int) + 1) = ((p + 1 : Nat) : Int) by omega, cutS_mid (by omega) (by omega), Int.toNat_natCast]
    refine ⟨_, _, rfl, rfl, ?_, ?_⟩
    · rw [len_S, len_S, List.length_drop, List.length_take, List.length_drop]; exact small_le (by omega)
    refine ⟨_, rfl, _, rfl, _, rfl, _, rfl, hz, ?_⟩
    rw [cutS_to (by omega), Int.toNat_natCast, SX.S_cat]
    refine ⟨_, _, rfl, rfl, ?_, ?_⟩
    · rw [len_S, len_S, List.length_append, List.length_drop, List.length_take, List.length_drop, List.length_take]; exact small_le (by omega)
    rw [SX.S_cat, show p + 1 - p = 1 by omega]
    exact k
/-! sides_changed -/
def sp_sides_changed_list : Sp := fun vs H Q _ => ∃ (a : Addr) (xs : List Nat) (p : Nat), vs = [.ref a, .int (p : Int)] ∧ H a = some (.lst (placesV xs)) ∧ xs.length ≤ 50000 ∧ p < xs.length ∧ ∀ m H', H m = none → Same H H' → H' m = some (.lst (placesV (swapL xs p))) → Q (.ref m) H'
theorem ok_sides_changed_list (T : Txt K mg) : FnOk P w K mg base CX0 1 T.f_sides_changed T.fd_sides_changed P_sides_changed (sp_sides_changed_list) := by
  have nd : N_sides_changed.Nodup := sc_sides_changed.nd
  refine T.F_sides_changed.ok sc_sides_changed (fun vs H Q E h => ?_) (fun cdv A outer s H vs Q E hr h => ?_)
  · obtain ⟨a, xs, p, rfl, _⟩ := h
    rfl
  · obtain ⟨a, xs, p, rfl, ha, hl, hp, k⟩ := h
    refine ⟨_, (pss_one (ps_ret (pe_op op_cat (pe_op op_cat (pe_slice sl_list (pv 0) (po_some (pe_op op_add (pv 1) pe_int)) po_none) (pe_slice sl_list (pv 0) (po_some (pv 1)) (po_some (pe_op op_add (pv 1) pe_int)))) (pe_slice sl_list (pv 0) po_none (po_some (pv 1)))))), ?_⟩
    have e1 : ((p : Int) + 1) = ((p + 1 : Nat) : Int) := by omega
    have c1 : cutV (placesV xs) (some ((p : Int) + 1)) none = placesV (xs.drop (p + 1)) := by rw [e1, cutV_from (by rw [List.length_map]; omega)]; simp [placesV]
    have c2 : cutV (placesV xs) (some (p : Int)) (some ((p : Int) + 1)) = placesV ((xs.drop p).take 1) := by rw [e1, cutV_mid (by omega) (by rw [List.length_map]; omega), show p + 1 - p = 1 by omega]; simp [placesV]
    have c3 : cutV (placesV xs) none (some (p : Int)) = placesV (xs.take p) := by rw [cutV_toN (by rw [List.length_map]; omega)]; simp [placesV]
    refine ⟨_, rfl, _, rfl, _, _, rfl, rfl, _, rfl, a, _, rfl, SqL.of ha, fun p1 n1 => ?_⟩
    rw [c1]
    have a1 := Same.upd (o := HO.lst (placesV (xs.drop (p + 1)))) n1 _ _ ha
    refine ⟨_, rfl, _, rfl, _, rfl, _, rfl, _, _, rfl, rfl, _, rfl, a, _, rfl, SqL.of a1, fun p2 n2 => ?_⟩
    rw [c2]
    have a2 := Same.upd (o := HO.lst (placesV ((xs.drop p).take 1))) n2 _ _ a1
    have b2 := Same.upd (o := HO.lst (placesV ((xs.drop p).take 1))) n2 _ _ (upd_same (H := H) (a := p1) (o := HO.lst (placesV (xs.drop (p + 1)))))
    refine ⟨p1, p2, _, _, rfl, rfl, b2, upd_same, ?_, fun p3 n3 => ?_⟩
    · rw [List.length_map, List.length_map, List.length_drop, List.length_take, List.length_drop]; exact small_le (by omega)
    have a3 := Same.upd (o := HO.lst (placesV (xs.drop (p + 1)) ++ placesV ((xs.drop p).take 1))) n3 _ _ a2
    refine ⟨_, rfl, _, rfl, _, rfl, a, _, rfl, SqL.of a3, fun p4 n4 => ?_⟩
    rw [c3]
    refine ⟨p3, p4, _, _, rfl, rfl, Same.upd n4 _ _ upd_same, upd_same, ?_, fun p5 n5 => ?_⟩
    · rw [List.length_append, List.length_map, List.length_map, List.length_map, List.length_drop, List.length_take, List.length_drop, List.length_take]; exact small_le (by omega)
    have s1 := Same.upd (o := HO.lst (placesV (xs.drop (p + 1)))) n1
    have s2 := s1.trans (Same.upd (o := HO.lst (placesV ((xs.drop p).take 1))) n2)
    have s3 := s2.trans (Same.upd (o := HO.lst (placesV (xs.drop (p + 1)) ++ placesV ((xs.drop p).take 1))) n3)
    have s4 := s3.trans (Same.upd (o := HO.lst (placesV (xs.take p))) n4)
    refine k p5 _ (s4.free n5) (s4.trans (Same.upd n5)) (upd_same.trans ?_)
    unfold swapL placesV
    rw [List.map_append, List.map_append]
/-! _law_hash -/
def sp__law_hash : Sp := fun vs H Q _ => ∃ a b : Int, vs = [.int a, .int b] ∧ (0 ≤ a ∧ a < 2147483647) ∧ (0 ≤ b ∧ b ≤ 1000000000) ∧ ∀ r : Int, 0 ≤ r → r < 2147483647 → Q (.int r) H
theorem ok__law_hash (T : Txt K mg) : FnOk P w K mg base CX0 1 T.f__law_hash T.fd__law_hash P__law_hash (sp__law_hash) := by
  have nd : N__law_hash.Nodup := sc__law_hash.nd
  refine T.F__law_hash.ok sc__law_hash (fun vs H Q E h => ?_) (fun cdv A outer s H vs Q E hr h => ?_)
  · obtain ⟨a, b, rfl, _⟩ := h
    rfl
  · obtain ⟨a, b, rfl, ha, hb, k⟩ := h
    refine ⟨_, (pss_cons (ps_set (i := 2) nd rfl (Or.inl rfl) (pe_op op_mod (pe_callTy call_int1 (by rfl) T.z_int (by decide +kernel) (pa_cons (pe_op op_add (pe_op op_add (pe_op op_add (pe_op op_mul (pv 0) pe_int) (pe_op op_mul (pe_op op_mul pe_int (pv 1)) (pv 1))) (pe_op op_mul pe_int (pv 1))) pe_int) pa_nil)) pe_int))
      (pss_cons (ps_set (i := 2) nd rfl (Or.inl rfl) (pe_op op_mod (pe_callTy call_int1 (by rfl) T.z_int (by decide +kernel) (pa_cons (pe_op op_add (pe_op op_add (pe_op op_mul (pv 2) (pv 2)) (pe_op op_mul pe_int (pv 1))) pe_int) pa_nil)) pe_int))
      (pss_one (ps_ret (pe_op op_mod (pe_callTy call_int1 (by rfl) T.z_int (by decide +kernel) (pa_cons (pe_op op_mul (pv 2) pe_int) pa_nil)) pe_int))))), ?_⟩
    refine ⟨_, rfl, _, _, rfl, rfl, .inl ⟨by omega, by omega⟩, _, rfl, _, _, rfl, rfl, .inl ⟨by decide, by decide⟩, _, rfl, _, _, rfl, rfl, .inl ⟨by omega, by omega⟩, ?_⟩
    refine ⟨_, _, rfl, rfl, _, rfl, _, _, rfl, rfl, .inl ⟨by decide, by decide⟩, _, _, rfl, rfl, _, _, rfl, rfl, .inl ⟨_, rfl, ?_⟩⟩
    refine ⟨_, _, rfl, rfl, (by show (0 : Int) < 2147483629; decide), ?_⟩
    refine ⟨_, rfl, _, rfl, _, _, rfl, rfl, .inl ⟨by omega, by omega⟩, _, rfl, _, _, rfl, rfl, .inl ⟨by decide, by decide⟩, _, _, rfl, rfl, _, _, rfl, rfl, .inl ⟨_, rfl, ?_⟩⟩
    refine ⟨_, _, rfl, rfl, (by show (0 : Int) < 2147483587; decide), ?_⟩
    refine ⟨_, rfl, _, _, rfl, rfl, .inl ⟨by omega, by omega⟩, .inl ⟨_, rfl, ?_⟩⟩
    refine ⟨_, _, rfl, rfl, (by show (0 : Int) < 2147483647; decide), ?_⟩
    exact k _ (Int.emod_nonneg _ (by decide)) (Int.emod_lt_of_pos _ (by decide))
/-! _law_cell -/
def sp__law_cell (K : PySem.W.Frag) : Sp := fun vs H Q _ => ∃ (a : Addr) (ns : List Int) (j : Nat), vs = [.ref a, .int (j : Int)] ∧ SqL K H a (ns.map V.int) ∧ ∀ (r : Int) H', Same H H' → Q (.int r) H'
theorem ok__law_cell (T : Txt K mg) : FnOk P w K mg base CX0 1 T.f__law_cell T.fd__law_cell P__law_cell (sp__law_cell K) := by
  have nd : N__law_cell.Nodup := sc__law_cell.nd
  refine T.F__law_cell.ok sc__law_cell (fun vs H Q E h => ?_) (fun cdv A outer s H vs Q E hr h => ?_)
  · obtain ⟨a, ns, j, rfl, _⟩ := h
    rfl
  · obtain ⟨a, ns, j, rfl, hS, k⟩ := h
    refine ⟨_, (pss_cons (ps_if (pt_cmpR op_lt (pv 1) (pe_callB call_len_seq (by rfl) T.z_len (by decide +kernel) (pa_cons (pv 0) pa_nil)) (nomark _)) (pss_one (ps_ret (pe_ix ix_list (pv 0) (pv 1) (fun _ _ => rfl)))) pss_nil)
      (pss_one (ps_ret (pe_op op_mod (pe_callB (cr_sum rfl) (by rfl) T.z_sum (by decide +kernel) (pa_cons (pe_slice sl_list (pv 0) po_none (po_some pe_int)) pa_nil)) pe_int)))), ?_⟩
    refine ⟨_, rfl, _, rfl, a, _, rfl, .inl hS, _, _, rfl, rfl, _, rfl, ite2 (fun q => ?_) (fun q => ?_)⟩
    · have q' : j < ns.length := by have := of_decide_eq_true q; rw [List.length_map] at this; omega
      exact ⟨_, rfl, _, rfl, a, _, _, V.int ns[j], rfl, rfl, hS, atI_nat (by rw [List.getElem?_map, List.getElem?_eq_getElem q']; rfl), k _ _ (Same.refl _)⟩
    · refine ⟨_, rfl, _, rfl, a, _, rfl, hS, fun p hp => ?_⟩
      refine ⟨p, ns.take 1, rfl, SqL.of (by rw [upd_same, cutV_to1]), _, _, rfl, rfl, (by show (0 : Int) < 1000003; decide), k _ _ (Same.upd hp)⟩
/-! _law_yes -/
def sp__law_yes : Sp := fun vs H Q _ => ∃ b : Bool, vs = [.bl b, .bl b] ∧ Q (.bl true) H
theorem ok__law_yes (T : Txt K mg) : FnOk P w K mg base CX0 1 T.f__law_yes T.fd__law_yes P__law_yes (sp__law_yes) := by
  have nd : N__law_yes.Nodup := sc__law_yes.nd
  refine T.F__law_yes.ok sc__law_yes (fun vs H Q E h => ?_) (fun cdv A outer s H vs Q E hr h => ?_)
  · obtain ⟨b, rfl, _⟩ := h
    rfl
  · obtain ⟨b, rfl, k⟩ := h
    refine ⟨_, (pss_one (ps_ret (pe_and (pe_callB call_isi (by rfl) T.z_isinstance (by decide +kernel) (pa_cons (pv 0) (pa_cons (pe_bltn (v := .ty "bool") (by rfl) T.z_bool (by decide +kernel) rfl) pa_nil))) (pe_one (pe_cmpR op_eq (pv 0) (pv 1) (nomark _)))))), ?_⟩
    refine ⟨_, rfl, _, _, _, _, _, rfl, ClsV.ty "bool", .base (.bl _), kit_ty (by decide +kernel), true, rfl, iteT ?_⟩
    refine ⟨_, rfl, _, rfl, rfl, ?_⟩
    have e : Q (V.bl (decide (V.bl b = V.bl b))) H := by rw [decide_eq_true rfl]; exact k
    exact e
/-! _law_swapped -/
def sp__law_swapped : Sp := fun vs H Q _ => ∃ (l : List Nat) (p : Nat), vs = [.str (S l), .int (p : Int)] ∧ l.length ≤ 50000 ∧ p < l.length ∧ Q (.str (S (swapL l p))) H
theorem ok__law_swapped (T : Txt K mg) : FnOk P w K mg base CX0 1 T.f__law_swapped T.fd__law_swapped P__law_swapped (sp__law_swapped) := by
  have nd : N__law_swapped.Nodup := sc__law_swapped.nd
  refine T.F__law_swapped.ok sc__law_swapped (fun vs H Q E h => ?_) (fun cdv A outer s H vs Q E hr h => ?_)
  · obtain ⟨l, p, rfl, _⟩ := h
    rfl
  · obtain ⟨l, p, rfl, hl, hp, k⟩ := h
    refine ⟨_, (pss_one (ps_ret (pe_op op_add_str (pe_op op_add_str (pe_slice sl_str (pv 0) (po_some (pe_op op_add (pv 1) pe_int)) po_none) (pe_item_str (pv 0) (pv 1) (fun _ _ => rfl))) (pe_slice sl_str (pv 0) po_none (po_some (pv 1)))))), ?_⟩
    have hz : (S l).length ≤ sizeLine := by rw [len_S]; exact small_le (by omega)
    have hc : l[p]? = some l[p] := List.getElem?_eq_getElem hp
    refine ⟨_, rfl, _, rfl, _, _, rfl, rfl, _, rfl, _, rfl, hz, ?_⟩
    rw [cutS_from (by omega), show ((p : Int) + 1).toNat = p + 1 by omega]
    refine ⟨_, rfl, _, rfl, S l, p, l[p], rfl, rfl, by omega, by omega, by rw [len_S]; omega, by rw [Int.toNat_natCast, at_S]; exact hc, ?_⟩
    refine ⟨_, S [l[p]], rfl, rfl, ?_, ?_⟩
    · rw [len_S, len_S, List.length_drop]; exact small_le (by simp; omega)
    refine ⟨_, rfl, _, rfl, _, rfl, _, rfl, hz, ?_⟩
    rw [cutS_to (by omega), Int.toNat_natCast, SX.S_cat]
    refine ⟨_, _, rfl, rfl, ?_, ?_⟩
    · rw [len_S, len_S, List.length_append, List.length_drop, List.length_take]; exact small_le (by simp; omega)
    rw [SX.S_cat, ← swapL_one hc]
    exact k
/-! is_joints -/
def sp_is_joints : Sp := fun vs H Q _ => ∃ l : List Nat, vs = [.str (S l)] ∧ l.length ≤ 50000 ∧ ∀ H', Same H H' → Q (.bl (jointsB l)) H'
theorem ok_is_joints (T : Txt K mg) : FnOk P w K mg base CX0 2 T.f_is_joints T.fd_is_joints P_is_joints (sp_is_joints) := by
  have nd : N_is_joints.Nodup := sc_is_joints.nd
  refine T.F_is_joints.ok sc_is_joints (fun vs H Q E h => ?_) (fun cdv A outer s H vs Q E hr h => ?_)
  · obtain ⟨l, rfl, _⟩ := h
    rfl
  · obtain ⟨l, rfl, hl, k⟩ := h
    refine ⟨_, (pss_one (ps_ret (pe_and (pe_call (ok_is_word T) (hr.mono (by decide)) rfl T.m_is_word T.F_is_word.kp T.b_is_word .nil pass0 (pa_cons (pv 0) pa_nil)) (pe_one (pe_call (ok__ascends T) (hr.mono (by decide)) rfl T.m__ascends T.F__ascends.kp T.b__ascends .nil pass0 (pa_cons (pv 0) pa_nil)))))), ?_⟩
    refine ⟨_, rfl, l, rfl, hl, fun H1 s1 => ⟨_, rfl, ite2 (fun z => ?_) (fun z => ?_)⟩⟩
    · refine ⟨_, rfl, l, rfl, hl, fun H2 s2 => ?_⟩
      have e : ascB l = jointsB l := by unfold jointsB; rw [z]; rfl
      rw [e]
      exact k _ (s1.trans s2)
    · have e : jointsB l = false := by unfold jointsB; rw [Bool.eq_false_iff.mpr z]; rfl
      have q := k _ s1
      rw [e] at q
      exact q
/-! check_word -/
def sp_check_word : Sp := fun vs H Q _ => ∃ l : List Nat, vs = [.str (S l)] ∧ l.length ≤ 50000 ∧ wordB l = true ∧ ∀ H', Same H H' → Q .non H'
theorem ok_check_word (T : Txt K mg) : FnOk P w K mg base CX0 2 T.f_check_word T.fd_check_word P_check_word (sp_check_word) := by
  have nd : N_check_word.Nodup := sc_check_word.nd
  refine T.F_check_word.ok sc_check_word (fun vs H Q E h => ?_) (fun cdv A outer s H vs Q E hr h => ?_)
  · obtain ⟨l, rfl, _⟩ := h
    rfl
  · obtain ⟨l, rfl, hl, hw, k⟩ := h
    refine ⟨_, (pss_one (ps_if (pt_not (pt_val (pe_call (ok_is_word T) (hr.mono (by decide)) rfl T.m_is_word T.F_is_word.kp T.b_is_word .nil pass0 (pa_cons (pv 0) pa_nil)))) pss_never pss_nil)), ?_⟩
    refine ⟨_, rfl, l, rfl, hl, fun H1 s1 => ⟨_, rfl, ?_⟩⟩
    rw [hw]
    exact iteF (k _ s1)
/-! _is_open -/
def sp__is_open : Sp := fun vs H Q _ => ∃ (l js : List Nat) (p c : Nat), vs = [.str (S l), .str (S js), .int (p : Int)] ∧ l.length ≤ 50000 ∧ l[p]? = some c ∧ Q (.bl (decide (c ∈ js))) H
theorem ok__is_open (T : Txt K mg) : FnOk P w K mg base CX0 2 T.f__is_open T.fd__is_open P__is_open (sp__is_open) := by
  have nd : N__is_open.Nodup := sc__is_open.nd
  refine T.F__is_open.ok sc__is_open (fun vs H Q E h => ?_) (fun cdv A outer s H vs Q E hr h => ?_)
  · obtain ⟨l, js, p, c, rfl, _⟩ := h
    rfl
  · obtain ⟨l, js, p, c, rfl, hl, hc, k⟩ := h
    have hp : p < l.length := (List.getElem?_eq_some_iff.mp hc).1
    refine ⟨_, (pss_one (ps_ret (pe_and (pe_call (ok_is_count T) (hr.mono (by decide)) rfl T.m_is_count T.F_is_count.kp T.b_is_count .nil pass0 (pa_cons (pv 2) pa_nil)) (pe_and (pe_cmpR op_lt (pv 2) (pe_callB call_len (by rfl) T.z_len (by decide +kernel) (pa_cons (pv 0) pa_nil)) (nomark _)) (pe_one (pe_cmpR op_in_sign (pe_item_str (pv 0) (pv 2) (fun _ _ => rfl)) (pv 1) rfl)))))), ?_⟩
    refine ⟨_, rfl, _, rfl, _, rfl, ?_⟩
    rw [decide_eq_true (by omega : (0 : Int) ≤ (p : Int))]
    refine iteT ?_
    refine ⟨_, rfl, _, rfl, _, l.length, rfl, ⟨by rw [len_S]; exact small_le (by omega), by rw [len_S]⟩, _, _, rfl, rfl, _, rfl, ?_⟩
    rw [decide_eq_true (by omega : (p : Int) < ((l.length : Nat) : Int))]
    refine iteT ?_
    exact ⟨_, rfl, _, rfl, S l, p, c, rfl, rfl, by omega, by omega, by rw [len_S]; omega, by rw [Int.toNat_natCast, at_S]; exact hc, _, rfl, c, S js, rfl, rfl, k⟩
/-! _is_open -/
def sp__is_open_any : Sp := fun vs H Q _ => ∃ (l js : List Nat) (v : V) (o : Option Int), vs = [.str (S l), .str (S js), v] ∧ l.length ≤ 50000 ∧ Item H v o ∧ Q (.bl (placeO l js o).isSome) H
theorem ok__is_open_any (T : Txt K mg) : FnOk P w K mg base CX0 2 T.f__is_open T.fd__is_open P__is_open (sp__is_open_any) := by
  have nd : N__is_open.Nodup := sc__is_open.nd
  refine T.F__is_open.ok sc__is_open (fun vs H Q E h => ?_) (fun cdv A outer s H vs Q E hr h => ?_)
  · obtain ⟨l, js, v, o, rfl, _⟩ := h
    rfl
  · obtain ⟨l, js, v, o, rfl, hl, hi, k⟩ := h
    refine ⟨_, (pss_one (ps_ret (pe_and (pe_call (ok_is_count_any T) (hr.mono (by decide)) rfl T.m_is_count T.F_is_count.kp T.b_is_count .nil pass0 (pa_cons (pv 2) pa_nil)) (pe_and (pe_cmpR op_lt (pv 2) (pe_callB call_len (by rfl) T.z_len (by decide +kernel) (pa_cons (pv 0) pa_nil)) (nomark _)) (pe_one (pe_cmpR op_in_sign (pe_item_str (pv 0) (pv 2) (fun _ _ => rfl)) (pv 1) rfl)))))), ?_⟩
    refine ⟨_, rfl, v, o, rfl, hi, _, rfl, ?_⟩
    cases hi with
    | int i =>
      refine ite2 (fun z => ?_) (fun z => ?_)
      · have hi0 : 0 ≤ i := of_decide_eq_true z
        refine ⟨_, rfl, _, rfl, _, l.length, rfl, ⟨by rw [len_S]; exact small_le (by omega), by rw [len_S]⟩, _, _, rfl, rfl, _, rfl, ?_⟩
        refine ite2 (fun y => ?_) (fun y => ?_)
        · have hlt : i.toNat < l.length := by have := of_decide_eq_true y; omega
          have hc : l[i.toNat]? = some l[i.toNat] := List.getElem?_eq_getElem hlt
          have hii : ((i.toNat : Nat) : Int) = i := by omega
          have e : (placeO l js (some i)).isSome = decide (l[i.toNat] ∈ js) := by
            show (if 0 ≤ i then (match l[i.toNat]? with | some c => if c ∈ js then some i.toNat else none | none => none) else none).isSome = _
            rw [if_pos hi0, hc]
            by_cases hm : l[i.toNat] ∈ js <;> simp [hm]
          rw [e] at k
          exact ⟨_, rfl, _, rfl, S l, i, l[i.toNat], rfl, rfl, by omega, by omega, by rw [len_S]; omega, by rw [at_S]; exact hc, _, rfl, l[i.toNat], S js, rfl, rfl, k⟩
        · have hge : l.length ≤ i.toNat := by
            have : ¬ i < ((l.length : Nat) : Int) := fun q => y (decide_eq_true q)
            omega
          have e : (placeO l js (some i)).isSome = false := by
            show (if 0 ≤ i then (match l[i.toNat]? with | some c => if c ∈ js then some i.toNat else none | none => none) else none).isSome = _
            rw [if_pos hi0, List.getElem?_eq_none hge]
            rfl
          rw [e] at k
          exact k
      · have hi0 : ¬ 0 ≤ i := fun q => z (decide_eq_true q)
        have e : (placeO l js (some i)).isSome = false := by
          show (if 0 ≤ i then (match l[i.toNat]? with | some c => if c ∈ js then some i.toNat else none | none => none) else none).isSome = _
          rw [if_neg hi0]
          rfl
        rw [e] at k
        exact k
    | bl b => exact iteF k
    | non => exact iteF k
    | str s => exact iteF k
    | tup ht => exact iteF k
    | lst ht => exact iteF k
/-! back_road -/
def sp_back_road : Sp := fun vs H Q _ => ∃ (n : Nat) (r : List Nat) (v : Addr), vs = [.int (n : Int), .ref v] ∧ H v = some (.lst (placesV r)) ∧ n ≤ 300 ∧ (∀ p ∈ r, p < n) ∧ r.length ≤ 50000 ∧ ∀ m H', H m = none → Same H H' → H' m = some (.lst (placesV (backL n r))) → Q (.ref m) H'
theorem ok_back_road (T : Txt K mg) : FnOk P w K mg base CX0 2 T.f_back_road T.fd_back_road P_back_road (sp_back_road) := by
  have nd : N_back_road.Nodup := sc_back_road.nd
  refine T.F_back_road.ok sc_back_road (fun vs H Q E h => ?_) (fun cdv A outer s H vs Q E hr h => ?_)
  · obtain ⟨n, r, v, rfl, _⟩ := h
    rfl
  · obtain ⟨n, r, v, rfl, hv, hn, hp, hr2, k⟩ := h
    refine ⟨_, (pss_cons (ps_if (PW.pt (pw_or (pt_not (pt_val (pe_call (ok_is_count T) (hr.mono (by decide)) rfl T.m_is_count T.F_is_count.kp T.b_is_count .nil pass0 (pa_cons (pv 0) pa_nil)))) (pw_or1 (pt_cmpR op_gt (pv 0) (pe_glob (v := .int 300) rfl T.g_LONGEST.choose_spec ⟨_, rfl⟩) (nomark _))))) pss_never pss_nil)
      (pss_cons (ps_if (PW.pt (pw_or (pt_not (pt_val (pe_callB call_isi (by rfl) T.z_isinstance (by decide +kernel) (pa_cons (pv 1) (pa_cons (pe_bltn (v := .ty "list") (by rfl) T.z_list (by decide +kernel) rfl) pa_nil))))) (pw_or1 (pt_not (pt_val (pe_callB (cr_all rfl) (by rfl) T.z_all (by decide +kernel) (pa_cons (pe_lc (own := [("place", 2)]) (hc := rfl) (hN := nd) (pi_list (pv 1)) (blkOk_by (N := N_back_road) (sc := defScope s_back_road) (by decide +kernel)) (fun _ _ _ _ _ => by exact (pg_name (i := 2) nd rfl (Or.inl rfl))) (fun _ _ _ _ _ => by exact pts_nil) (fun _ _ _ _ _ => by exact (pe_and (pe_call (ok_is_count T) (hr.mono (by decide)) rfl T.m_is_count T.F_is_count.kp T.b_is_count .nil pass0 (pa_cons (pv 2) pa_nil)) (pe_one (pe_cmpR op_lt (pv 2) (pv 0) (nomark _)))))) pa_nil))))))) pss_never pss_nil)
      (pss_one (ps_ret (pe_lc (own := [("place", 2)]) (hc := rfl) (hN := nd) (pi_reversed (by rfl) T.z_reversed (pa_cons (pv 1) pa_nil)) (blkOk_by (N := N_back_road) (sc := defScope s_back_road) (by decide +kernel)) (fun _ _ _ _ _ => by exact (pg_name (i := 2) nd rfl (Or.inl rfl))) (fun _ _ _ _ _ => by exact pts_nil) (fun _ _ _ _ _ => by exact (pe_op op_sub (pe_op op_sub (pv 0) pe_int) (pv 2)))))))), ?_⟩
    refine ⟨_, rfl, _, rfl, _, rfl, ?_⟩
    rw [decide_eq_true (by omega : (0 : Int) ≤ (n : Int))]
    refine iteF ?_
    refine ⟨_, rfl, _, _, rfl, rfl, _, rfl, ?_⟩
    rw [show decide ((n : Int) > 300) = false from decide_eq_false (by omega)]
    refine iteF ?_
    refine ⟨_, rfl, _, _, _, _, _, rfl, ClsV.ty "list", .base (.lst hv), kit_ty (by decide +kernel), true, rfl, iteF ?_⟩
    refine ⟨_, rfl, v, rfl, ⟨_, SqL.of hv⟩, fun D hD => ?_⟩
    refine lc_it walk_list (fun i H' => Same H H' ∧ H' D = some (.lst ((List.replicate i true).map V.bl))) ⟨Same.upd hD, by rw [upd_same]; rfl⟩ (fun i H' _ ⟨s, _⟩ => SqL.of (s _ _ hv)) ?_ ?_
    · rintro i x H1 H2 hi ⟨s1, d1⟩ ⟨rfl, hx⟩
      obtain ⟨p, hq, rfl⟩ := place_of hx
      have hpn := hp p (List.mem_of_getElem? hq)
      have hil : i < r.length := (List.getElem?_eq_some_iff.mp hq).1
      refine ⟨rfl, _, rfl, _, rfl, _, rfl, ?_⟩
      rw [decide_eq_true (by omega : (0 : Int) ≤ (p : Int))]
      refine iteT ?_
      refine ⟨_, rfl, _, rfl, _, _, rfl, rfl, ?_⟩
      refine ⟨_, d1, ?_, fun b o e => ?_, ?_⟩
      · rw [List.length_map, List.length_replicate]; exact small_line (by omega)
      · rw [upd_ne (ne_of_none e hD)]; exact s1 b o e
      · rw [upd_same, List.replicate_succ']; simp [hpn]
    rintro H1 ⟨s1, d1⟩
    refine ⟨D, _, rfl, SqL.of d1, true, ?_, iteF ?_⟩
    · have e : ∀ m, (List.replicate m true).all id = true := fun m => List.all_eq_true.mpr fun x hx => (List.mem_replicate.mp hx).2
      rw [e]
    refine ⟨_, rfl, v, _, rfl, SqL.of (s1 _ _ hv), fun D2 hD2 => ?_⟩
    refine lc_it walk_rev (fun i H' => Same H1 H' ∧ H' D2 = some (.lst (placesV ((backL n r).take i)))) ⟨Same.upd hD2, upd_same⟩ (fun i H' _ ⟨s, _⟩ => SqL.of (s _ _ (s1 _ _ hv))) ?_ ?_
    · rintro i x H2 H3 hi ⟨s2, d2⟩ ⟨rfl, hx⟩
      rw [List.length_map] at hi
      obtain ⟨p, hq, rfl⟩ := place_of hx
      rw [List.length_map] at hq
      have hpn := hp p (List.mem_of_getElem? hq)
      have hb : (backL n r)[i]? = some (n - 1 - p) := by
        unfold backL
        rw [List.getElem?_map, List.getElem?_reverse (by omega), hq]
        rfl
      refine ⟨rfl, _, rfl, _, _, rfl, rfl, _, rfl, _, _, rfl, rfl, ?_⟩
      refine ⟨_, d2, ?_, fun b o e => ?_, ?_⟩
      · rw [List.length_map, List.length_take]; exact small_line (by omega)
      · rw [upd_ne (ne_of_none e hD2)]; exact s2 b o e
      · rw [upd_same, take_snoc hb]
        have e : ((n : Int) - 1 - (p : Int)) = ((n - 1 - p : Nat) : Int) := by omega
        simp [placesV, e]
    rintro H2 ⟨s2, d2⟩
    rw [List.length_map, show (backL n r).take r.length = backL n r from List.take_of_length_le (by unfold backL; simp)] at d2
    exact k D2 H2 (s1.free hD2) (s1.trans s2) d2
/-! _law_random -/
def sp__law_random : Sp := fun vs H Q _ => ∃ (g : Addr) (n : Int) (b : Nat), vs = [.ref g, .int n] ∧ GenAt H g b ∧ b ≤ 900000000 ∧ 0 < n ∧ n.natAbs < 2 ^ 120 ∧ ∀ (r : Int) H', 0 ≤ r → r < n → But g H H' → GenAt H' g (b + 10) → Q (.int r) H'
theorem ok__law_random (T : Txt K mg) : FnOk P w K mg base CX0 2 T.f__law_random T.fd__law_random P__law_random (sp__law_random) := by
  have nd : N__law_random.Nodup := sc__law_random.nd
  refine T.F__law_random.ok sc__law_random (fun vs H Q E h => ?_) (fun cdv A outer s H vs Q E hr h => ?_)
  · obtain ⟨a, n, b, rfl, _⟩ := h
    rfl
  · obtain ⟨g, n, b, rfl, ⟨x, y, z, h0, hx, hy, hz⟩, hb, hn0, hn1, k⟩ := h
    refine ⟨_, (pss_cons (ps_if (pt_cmpR op_gt (pe_ix ix_list (pv 0) pe_int (fun _ _ => rfl)) pe_int (nomark _)) (pss_cons (ps_set (i := 2) nd rfl (Or.inl rfl) (pe_op op_mod (pe_callTy call_int1 (by rfl) T.z_int (by decide +kernel) (pa_cons (pe_ix ix_list (pv 0) pe_int (fun _ _ => rfl)) pa_nil)) (pv 1)))
      (pss_cons (ps_asg (pe_op op_fdivW (pe_ix ix_list (pv 0) pe_int (fun _ _ => rfl)) (pv 1)) (pg_sub (pv 0) pe_int set_list))
      (pss_one (ps_ret (pv 2))))) pss_nil)
      (pss_cons (ps_set (i := 2) nd rfl (Or.inl rfl) pe_int)
      (pss_cons (ps_for PassesOwn.never rfl (pi_range1 rfl T.z_range (pa_cons (pe_op op_add pe_int (pe_op op_fdivW (pe_bits (pv 1)) pe_int)) pa_nil)) (pg_name (i := 3) nd rfl (Or.inl rfl))
      (pss_cons (ps_asg (pe_op op_add (pe_ix ix_list (pv 0) pe_int (fun _ _ => rfl)) pe_int) (pg_sub (pv 0) pe_int set_list))
      (pss_one (ps_set (i := 2) nd rfl (Or.inl rfl) (pe_op op_add (pe_op op_mul (pv 2) pe_int) (pe_call (ok__law_hash T) (hr.mono (by decide)) rfl T.m__law_hash T.F__law_hash.kp T.b__law_hash .nil pass0 (pa_cons (pe_ix ix_list (pv 0) pe_int (fun _ _ => rfl)) (pa_cons (pe_ix ix_list (pv 0) pe_int (fun _ _ => rfl)) pa_nil))))))))
      (pss_one (ps_ret (pe_op op_mod (pe_callTy call_int1 (by rfl) T.z_int (by decide +kernel) (pa_cons (pv 2) pa_nil)) (pv 1))))))), ?_⟩
    have rd : ∀ {H' : Hp} {x y z : Int}, H' g = some (.lst [.int x, .int y, .int z]) → SqL K H' g [.int x, .int y, .int z] := fun q => SqL.of q
    refine ⟨_, rfl, g, _, _, V.int x, rfl, rfl, rd h0, rfl, _, _, rfl, rfl, _, rfl, ?_⟩
    refine ite2 (fun q => ?_) (fun q => ?_)
    · refine ⟨_, rfl, g, _, _, V.int x, rfl, rfl, rd h0, rfl, .inl ⟨_, rfl, _, rfl, _, _, rfl, rfl, hn0, ?_⟩⟩
      refine ⟨_, rfl, g, _, _, V.int x, rfl, rfl, rd h0, rfl, _, rfl, _, _, rfl, rfl, wide_div hn0 hn1 (by decide) (by decide), ?_⟩
      refine ⟨_, rfl, g, _, _, 0, rfl, rfl, h0, rfl, _, rfl, ?_⟩
      refine k _ _ (Int.emod_nonneg _ (by omega)) (Int.emod_lt_of_pos _ hn0) But.upd ⟨x / n, y, z, upd_same, ⟨Int.ediv_nonneg hx.1 (by omega), ?_⟩, hy, hz.1, by omega⟩
      exact wide_le (Int.ediv_nonneg hx.1 (by omega)) (Int.ediv_le_self _ hx.1) hx.2
    · have hbits : Builtin.Int.intBits n ≤ 121 := by
        have := PySem.Flt.log2_lt_of (by decide) hn1
        unfold Builtin.Int.intBits
        split <;> omega
      refine ⟨_, rfl, _, rfl, _, _, rfl, rfl, wide_div (b := 5) (by decide) (by decide) (by decide) (by decide), _, _, rfl, rfl, ?_⟩
      refine ⟨_, rfl, by omega, by omega, ?_⟩
      refine for_range (lo := 0) (n := ((1 : Int) + ((Builtin.Int.intBits n : Nat) : Int) / 30).toNat) (fun i σ H' => ∃ (d w : Int) (v : Option V), σ = [some (.ref g), some (.int n), some (.int d), v] ∧ But g H H' ∧ H' g = some (.lst [.int x, .int y, .int w]) ∧ 0 ≤ w ∧ w ≤ z + i) ⟨0, z, none, rfl, But.refl _ _, h0, hz.1, by omega⟩ ?_ ?_
      · rintro i σ H1 hi ⟨d, w, v, rfl, b1, g1, w0, w1⟩
        refine ⟨_, rfl, g, _, _, V.int w, rfl, rfl, rd g1, rfl, _, _, rfl, rfl, ?_⟩
        refine ⟨_, rfl, g, _, _, 2, rfl, rfl, g1, rfl, ?_⟩
        have g2 : upd H1 g (.lst [.int x, .int y, .int (w + 1)]) g = some (.lst [.int x, .int y, .int (w + 1)]) := upd_same
        refine ⟨_, rfl, _, _, rfl, rfl, .inr ⟨by decide, by decide⟩, _, rfl, g, _, _, V.int y, rfl, rfl, rd g2, rfl, _, rfl, g, _, _, V.int (w + 1), rfl, rfl, rd g2, rfl, y, w + 1, rfl, hy, ⟨by omega, by omega⟩, fun r r0 r1 => ?_⟩
        refine ⟨_, _, rfl, rfl, ?_⟩
        exact ⟨_, w + 1, _, rfl, b1.trans But.upd, g2, by omega, by omega⟩
      · rintro σ H1 ⟨d, w, v, rfl, b1, g1, w0, w1⟩
        refine ⟨_, rfl, .inl ⟨_, rfl, _, rfl, _, _, rfl, rfl, hn0, ?_⟩⟩
        exact k _ _ (Int.emod_nonneg _ (by omega)) (Int.emod_lt_of_pos _ hn0) b1 ⟨x, y, w, g1, hx, hy, w0, by omega⟩
/-! _law_generator -/
def sp__law_generator (K : PySem.W.Frag) : Sp := fun vs H Q _ => ∃ (a : Addr) (ns : List Int) (j : Nat), vs = [.ref a, .int (j : Int)] ∧ SqL K H a (ns.map V.int) ∧ j ≤ 1000 ∧ ∀ (g : Addr) H', H g = none → Same H H' → GenAt H' g (1000 * j) → Q (.ref g) H'
theorem ok__law_generator (T : Txt K mg) : FnOk P w K mg base CX0 2 T.f__law_generator T.fd__law_generator P__law_generator (sp__law_generator K) := by
  have nd : N__law_generator.Nodup := sc__law_generator.nd
  refine T.F__law_generator.ok sc__law_generator (fun vs H Q E h => ?_) (fun cdv A outer s H vs Q E hr h => ?_)
  · obtain ⟨a, ns, j, rfl, _⟩ := h
    rfl
  · obtain ⟨a, ns, j, rfl, hS, hj, k⟩ := h
    refine ⟨_, (pss_cons (ps_set (i := 2) nd rfl (Or.inl rfl) (pe_call (ok__law_cell T) (hr.mono (by decide)) rfl T.m__law_cell T.F__law_cell.kp T.b__law_cell .nil pass0 (pa_cons (pv 0) (pa_cons (pv 1) pa_nil))))
      (pss_one (ps_ret (pe_lst (pa_cons (pe_op op_mod (pe_callTy call_int1 (by rfl) T.z_int (by decide +kernel) (pa_cons (pe_callB (call_max2 rfl) (by rfl) T.z_max (by decide +kernel) (pa_cons (pe_op op_sub (pv 2) (pe_op op_powW pe_int pe_int)) (pa_cons pe_int pa_nil))) pa_nil)) (pe_op op_powW (pe_op op_powW pe_int pe_int) pe_int)) (pa_cons (pe_op op_mod (pe_callTy call_int1 (by rfl) T.z_int (by decide +kernel) (pa_cons (pv 2) pa_nil)) pe_int) (pa_cons (pe_op op_mul pe_int (pv 1)) pa_nil))))))), ?_⟩
    refine ⟨_, rfl, _, rfl, a, ns, j, rfl, hS, fun r H1 s1 => ?_⟩
    refine ⟨_, rfl, _, _, rfl, rfl, ⟨by decide, by decide +kernel⟩, _, _, rfl, rfl, _, _, rfl, .inl ⟨_, rfl, ?_⟩⟩
    refine ⟨_, _, rfl, rfl, ⟨by decide, by decide +kernel⟩, _, _, rfl, rfl, ⟨by decide, by decide +kernel⟩, _, _, rfl, rfl, (by show (0 : Int) < (10 ^ (60 : Int).toNat) ^ (10 : Int).toNat; decide +kernel), ?_⟩
    refine ⟨_, rfl, .inl ⟨_, rfl, _, _, rfl, rfl, (by show (0 : Int) < 2147483647; decide), _, rfl, _, _, rfl, rfl, .inl ⟨by decide, by decide⟩, (by show 3 ≤ sizeLine; decide), fun p hp => ?_⟩⟩
    refine k p _ (s1.free hp) (s1.trans (Same.upd hp)) ⟨_, _, _, upd_same, seed_ok _, ⟨Int.emod_nonneg _ (by decide), Int.emod_lt_of_pos _ (by decide)⟩, by omega, by omega⟩
/-! _law_passed -/
def sp__law_passed : Sp := fun vs H Q _ => ∃ (l js : List Nat) (v : Addr) (xs : List V) (os : List (Option Int)), vs = [.str (S l), .str (S js), .ref v] ∧ H v = some (.lst xs) ∧ Items H xs os ∧ l.length ≤ 50000 ∧ os.length ≤ 50000 ∧ (walkO js l os = false → ∀ H', Same H H' → Q .non H') ∧ (walkO js l os = true → ∀ m H', H m = none → Same H H' → (∀ r : List Nat, os = r.map (fun p : Nat => some (p : Int)) → H' m = some (.lst (wordsV (pass l r)))) → Q (.ref m) H')
theorem ok__law_passed (T : Txt K mg) : FnOk P w K mg base CX0 2 T.f__law_passed T.fd__law_passed P__law_passed (sp__law_passed) := by
  have nd : N__law_passed.Nodup := sc__law_passed.nd
  refine T.F__law_passed.ok sc__law_passed (fun vs H Q E h => ?_) (fun cdv A outer s H vs Q E hr h => ?_)
  · obtain ⟨l, js, v, xs, os, rfl, _⟩ := h
    rfl
  · obtain ⟨l, js, v, xs, os, rfl, ht, hx, hl, hos, kN, kY⟩ := h
    refine ⟨_, (pss_cons (ps_set (i := 3) nd rfl (Or.inl rfl) (pe_lst (pa_cons (pv 0) pa_nil)))
      (pss_cons (ps_for PassesOwn.never rfl (pi_list (pv 2)) (pg_name (i := 4) nd rfl (Or.inl rfl))
      (pss_cons (ps_set (i := 5) nd rfl (Or.inl rfl) (pe_ix ix_list (pv 3) (pe_op op_sub (pe_callB call_len_seq (by rfl) T.z_len (by decide +kernel) (pa_cons (pv 3) pa_nil)) pe_int) (fun _ _ => rfl)))
      (pss_cons (ps_if (PW.pt (pw_or (pt_not (pt_val (pe_callB call_isi (by rfl) T.z_isinstance (by decide +kernel) (pa_cons (pv 4) (pa_cons (pe_bltn (v := .ty "int") (by rfl) T.z_int (by decide +kernel) rfl) pa_nil))))) (pw_or1 (pt_val (pe_callB call_isi (by rfl) T.z_isinstance (by decide +kernel) (pa_cons (pv 4) (pa_cons (pe_bltn (v := .ty "bool") (by rfl) T.z_bool (by decide +kernel) rfl) pa_nil))))))) (pss_one (ps_ret pe_non)) pss_nil)
      (pss_cons (ps_if (PW.pt (pw_or (pt_not (pt_chain op_le op_lt pe_int (pv 4) (pe_callB call_len (by rfl) T.z_len (by decide +kernel) (pa_cons (pv 5) pa_nil)))) (pw_or1 (pt_cmpR op_notIn_sign (pe_item_str (pv 5) (pv 4) (fun _ _ => rfl)) (pv 1) rfl)))) (pss_one (ps_ret pe_non)) pss_nil)
      (pss_one (ps_expr (pe_bm PySem.F.plainAttrs_list PySem.F.slot_list_append PySem.F.type_list_append mt_append (pv 3) (pa_cons (pe_call (ok__law_swapped T) (hr.mono (by decide)) rfl T.m__law_swapped T.F__law_swapped.kp T.b__law_swapped .nil pass0 (pa_cons (pv 5) (pa_cons (pv 4) pa_nil))) pa_nil))))))))
      (pss_one (ps_ret (pv 3))))), ?_⟩
    refine ⟨_, rfl, (by show 1 ≤ sizeLine; decide), fun m hm => ?_⟩
    refine ⟨_, rfl, v, rfl, ⟨_, SqL.of (Same.upd hm _ _ ht)⟩, for_list (K := K) (a := v) (xs := xs) (fun i σ H' => ∃ (pv tv : Option V) (ys : List V) (cur : List Nat), σ = [some (.str (S l)), some (.str (S js)), some (.ref v), some (.ref m), pv, tv] ∧ Same H H' ∧ H' m = some (.lst (ys ++ [V.str (S cur)])) ∧ ys.length = i ∧ cur.length = l.length ∧ walkO js l os = walkO js cur (os.drop i) ∧ ∀ r : List Nat, os = r.map (fun p : Nat => some (p : Int)) → cur = ends l (r.take i) ∧ ys ++ [V.str (S cur)] = wordsV (pass l (r.take i))) ⟨none, none, [], l, rfl, Same.upd hm, upd_same, rfl, rfl, rfl, fun r _ => ⟨rfl, rfl⟩⟩ (fun i σ H' _ ⟨_, _, _, _, _, s, _⟩ => SqL.of (s _ _ ht)) ?_ ?_⟩
    · rintro i y σ H1 hi ⟨pv, tv, ys, cur, rfl, s1, d1, hyl, hcl, hw, hr'⟩
      obtain ⟨o, ho, hit⟩ := hx.2 i y hi
      have hil : i < os.length := (List.getElem?_eq_some_iff.mp ho).1
      have hat : atI (ys ++ [V.str (S cur)]) ((((ys ++ [V.str (S cur)]).length : Nat) : Int) - 1) = some (V.str (S cur)) := atI_len
      refine ⟨_, rfl, _, rfl, m, _, rfl, .inl (SqL.of d1), _, _, rfl, rfl, m, _, _, _, rfl, rfl, SqL.of d1, hat, ?_⟩
      have nos : ∀ x : Unit, o = none → walkO js l os = false := fun _ e => by
        rw [hw]
        exact walkO_stop ho (by rw [e]; rfl)
      cases hit with
      | int i0 =>
        refine ⟨_, rfl, _, _, _, _, _, rfl, ClsV.ty "int", .base (.int _), kit_ty (by decide +kernel), true, rfl, iteF ?_⟩
        refine ⟨_, rfl, _, _, _, _, _, rfl, ClsV.ty "bool", .base (.int _), kit_ty (by decide +kernel), false, rfl, iteF ?_⟩
        refine ⟨_, rfl, _, _, rfl, rfl, _, rfl, ?_⟩
        refine ite2 (fun z => ?_) (fun z => ?_)
        · obtain ⟨p, rfl⟩ := Int.eq_ofNat_of_zero_le (of_decide_eq_true z)
          refine ⟨_, rfl, _, cur.length, rfl, ⟨by rw [len_S]; exact small_le (by omega), by rw [len_S]⟩, _, _, rfl, rfl, _, rfl, ?_⟩
          by_cases y : p < cur.length
          · have hc : cur[p]? = some cur[p] := List.getElem?_eq_getElem y
            rw [decide_eq_true (by omega : (p : Int) < ((cur.length : Nat) : Int))]
            refine iteF ?_
            refine ⟨_, rfl, _, rfl, S cur, p, cur[p], rfl, rfl, by omega, by omega, by rw [len_S]; omega, by rw [Int.toNat_natCast, at_S]; exact hc, _, rfl, cur[p], S js, rfl, rfl, _, rfl, ?_⟩
            by_cases hm2 : cur[p] ∈ js
            · rw [walkO_step ho (placeO_yes hc hm2)] at hw
              rw [show decide (cur[p] ∈ (S js).cps.toList) = true from decide_eq_true hm2]
              refine iteF ?_
              refine ⟨_, rfl, .inl ⟨rfl, _, SqL.of d1⟩, _, rfl, _, rfl, cur, p, rfl, by rw [hcl]; exact hl, y, m, _, _, rfl, rfl, d1, ?_, ?_⟩
              · rw [List.length_append, hyl]; exact small_line (by simp; omega)
              refine ⟨_, _, ys ++ [V.str (S cur)], swapL cur p, rfl, fun b o e => ?_, upd_same, ?_, ?_, hw, fun r e => ?_⟩
              · rw [upd_ne (ne_of_none e hm)]; exact s1 b o e
              · rw [List.length_append, hyl]; rfl
              · rw [swapL_len y, hcl]
              · obtain ⟨e1, e2⟩ := hr' r e
                have hp : r[i]? = some p := by
                  rw [e, List.getElem?_map] at ho
                  cases er : r[i]? with
                  | none => rw [er] at ho; cases ho
                  | some q =>
                    rw [er] at ho
                    have z1 : some (q : Int) = some (p : Int) := Option.some.inj ho
                    have z2 := Option.some.inj z1
                    rw [show q = p by omega]
                rw [ends_take hp, ← e1]
                refine ⟨rfl, ?_⟩
                rw [pass_take hp, ends_take hp, ← e1, e2]
                simp [wordsV]
            · rw [show decide (cur[p] ∈ (S js).cps.toList) = false from decide_eq_false hm2]
              refine iteT (kN ?_ _ s1)
              rw [hw]
              exact walkO_stop ho (placeO_not hc hm2)
          · rw [decide_eq_false (by omega : ¬ (p : Int) < ((cur.length : Nat) : Int))]
            refine iteT (iteT (kN ?_ _ s1))
            rw [hw]
            exact walkO_stop ho (placeO_far (by omega))
        · refine ⟨_, rfl, iteT (iteT (kN ?_ _ s1))⟩
          rw [hw]
          exact walkO_stop ho (placeO_neg fun q => z (decide_eq_true q))
      | bl b =>
        refine ⟨_, rfl, _, _, _, _, _, rfl, ClsV.ty "int", .base (.bl _), kit_ty (by decide +kernel), true, rfl, iteF ?_⟩
        exact ⟨_, rfl, _, _, _, _, _, rfl, ClsV.ty "bool", .base (.bl _), kit_ty (by decide +kernel), true, rfl, iteT (kN (nos () rfl) _ s1)⟩
      | non => exact ⟨_, rfl, _, _, _, _, _, rfl, ClsV.ty "int", .base .non, kit_ty (by decide +kernel), false, rfl, iteT (iteT (kN (nos () rfl) _ s1))⟩
      | str x => exact ⟨_, rfl, _, _, _, _, _, rfl, ClsV.ty "int", .base (.str _), kit_ty (by decide +kernel), false, rfl, iteT (iteT (kN (nos () rfl) _ s1))⟩
      | tup ht => exact ⟨_, rfl, _, _, _, _, _, rfl, ClsV.ty "int", .base (.tup (s1 _ _ ht)), kit_ty (by decide +kernel), false, rfl, iteT (iteT (kN (nos () rfl) _ s1))⟩
      | lst ht => exact ⟨_, rfl, _, _, _, _, _, rfl, ClsV.ty "int", .base (.lst (s1 _ _ ht)), kit_ty (by decide +kernel), false, rfl, iteT (iteT (kN (nos () rfl) _ s1))⟩
    rintro σ H1 ⟨pv, tv, ys, cur, rfl, s1, d1, hyl, hcl, hw, hr'⟩
    rw [hx.1, walkO_end] at hw
    refine ⟨_, rfl, kY hw m H1 hm s1 fun r e => ?_⟩
    have hlen : xs.length = r.length := by rw [hx.1, e, List.length_map]
    obtain ⟨_, e2⟩ := hr' r e
    rw [hlen, List.take_length] at e2
    rw [d1, e2]
/-! check_joints -/
def sp_check_joints : Sp := fun vs H Q _ => ∃ l : List Nat, vs = [.str (S l)] ∧ l.length ≤ 50000 ∧ jointsB l = true ∧ ∀ H', Same H H' → Q .non H'
theorem ok_check_joints (T : Txt K mg) : FnOk P w K mg base CX0 3 T.f_check_joints T.fd_check_joints P_check_joints (sp_check_joints) := by
  have nd : N_check_joints.Nodup := sc_check_joints.nd
  refine T.F_check_joints.ok sc_check_joints (fun vs H Q E h => ?_) (fun cdv A outer s H vs Q E hr h => ?_)
  · obtain ⟨l, rfl, _⟩ := h
    rfl
  · obtain ⟨l, rfl, hl, hw, k⟩ := h
    refine ⟨_, (pss_one (ps_if (pt_not (pt_val (pe_call (ok_is_joints T) (hr.mono (by decide)) rfl T.m_is_joints T.F_is_joints.kp T.b_is_joints .nil pass0 (pa_cons (pv 0) pa_nil)))) pss_never pss_nil)), ?_⟩
    refine ⟨_, rfl, l, rfl, hl, fun H1 s1 => ⟨_, rfl, ?_⟩⟩
    rw [hw]
    exact iteF (k _ s1)
/-! _walked -/
def sp__walked : Sp := fun vs H Q _ => ∃ (l js r : List Nat) (v : Addr), vs = [.str (S l), .str (S js), .ref v] ∧ H v = some (.lst (placesV r)) ∧ l.length ≤ 50000 ∧ r.length ≤ 50000 ∧ IsRoad js l r ∧ ∀ m H', H m = none → Same H H' → H' m = some (.lst (wordsV (pass l r))) → Q (.ref m) H'
theorem ok__walked (T : Txt K mg) : FnOk P w K mg base CX0 3 T.f__walked T.fd__walked P__walked (sp__walked) := by
  have nd : N__walked.Nodup := sc__walked.nd
  refine T.F__walked.ok sc__walked (fun vs H Q E h => ?_) (fun cdv A outer s H vs Q E hr h => ?_)
  · obtain ⟨l, js, r, v, rfl, _⟩ := h
    rfl
  · obtain ⟨l, js, r, v, rfl, hv, hl, hr2, ok, k⟩ := h
    refine ⟨_, (pss_cons (ps_if (pt_not (pt_val (pe_callB call_isi (by rfl) T.z_isinstance (by decide +kernel) (pa_cons (pv 2) (pa_cons (pe_bltn (v := .ty "list") (by rfl) T.z_list (by decide +kernel) rfl) pa_nil))))) (pss_one (ps_ret pe_non)) pss_nil)
      (pss_cons (ps_set (i := 3) nd rfl (Or.inl rfl) (pe_lst (pa_cons (pv 0) pa_nil)))
      (pss_cons (ps_for PassesOwn.never rfl (pi_list (pv 2)) (pg_name (i := 4) nd rfl (Or.inl rfl))
      (pss_cons (ps_if (pt_not (pt_val (pe_call (ok__is_open T) (hr.mono (by decide)) rfl T.m__is_open T.F__is_open.kp T.b__is_open .nil pass0 (pa_cons (pe_ix ix_list (pv 3) (pe_un un_neg pe_int) (fun _ _ => rfl)) (pa_cons (pv 1) (pa_cons (pv 4) pa_nil)))))) (pss_one (ps_ret pe_non)) pss_nil)
      (pss_one (ps_expr (pe_bm PySem.F.plainAttrs_list PySem.F.slot_list_append PySem.F.type_list_append mt_append (pv 3) (pa_cons (pe_call (ok_sides_changed T) (hr.mono (by decide)) rfl T.m_sides_changed T.F_sides_changed.kp T.b_sides_changed .nil pass0 (pa_cons (pe_ix ix_list (pv 3) (pe_un un_neg pe_int) (fun _ _ => rfl)) (pa_cons (pv 4) pa_nil))) pa_nil))))))
      (pss_one (ps_ret (pv 3)))))), ?_⟩
    refine ⟨_, rfl, _, _, _, _, _, rfl, ClsV.ty "list", .base (.lst hv), kit_ty (by decide +kernel), true, rfl, iteF ?_⟩
    refine ⟨_, rfl, (by show 1 ≤ sizeLine; decide), fun m hm => ?_⟩
    refine ⟨_, rfl, v, rfl, ⟨_, SqL.of (Same.upd hm _ _ hv)⟩, for_list (K := K) (a := v) (xs := placesV r) (fun i σ H' => ∃ pv : Option V, σ = [some (.str (S l)), some (.str (S js)), some (.ref v), some (.ref m), pv] ∧ Same H H' ∧ H' m = some (.lst (wordsV (pass l (r.take i))))) ⟨none, rfl, Same.upd hm, upd_same⟩ (fun i σ H' _ ⟨_, _, s, _⟩ => SqL.of (s _ _ hv)) ?_ ?_⟩
    · rintro i y σ H1 hi ⟨pv, rfl, s1, d1⟩
      obtain ⟨p, hp, rfl⟩ := place_of hi
      obtain ⟨c, hc, hcj⟩ := road_at ok hp
      have hil : i < r.length := (List.getElem?_eq_some_iff.mp hp).1
      have hel := ends_len (road_lt (road_take (i := i) ok))
      have hlast : atI (wordsV (pass l (r.take i))) (-1) = some (V.str (S (ends l (r.take i)))) := last_word rfl
      refine ⟨_, rfl, _, rfl, m, _, _, _, rfl, rfl, SqL.of d1, hlast, _, rfl, _, rfl, ends l (r.take i), js, p, c, rfl, by rw [hel]; exact hl, hc, _, rfl, ?_⟩
      rw [decide_eq_true hcj]
      refine iteF ?_
      refine ⟨_, rfl, .inl ⟨rfl, _, SqL.of d1⟩, _, rfl, _, rfl, m, _, _, _, rfl, rfl, SqL.of d1, hlast, _, rfl, ends l (r.take i), p, rfl, by rw [hel]; exact hl, (List.getElem?_eq_some_iff.mp hc).1, m, _, _, rfl, rfl, d1, ?_, ?_⟩
      · rw [List.length_map, pass_len, List.length_take]; exact small_line (by omega)
      refine ⟨_, rfl, fun b o e => ?_, ?_⟩
      · rw [upd_ne (ne_of_none e hm)]; exact s1 b o e
      · rw [upd_same, pass_take hp, ends_take hp]; simp [wordsV]
    rintro σ H1 ⟨pv, rfl, s1, d1⟩
    rw [List.length_map, List.take_length] at d1
    exact ⟨_, rfl, k m H1 hm s1 d1⟩
/-! _walked -/
def sp__walked_any : Sp := fun vs H Q _ => ∃ (l js : List Nat) (v : V) (o : Option (List (Option Int))), vs = [.str (S l), .str (S js), v] ∧ Val H v o ∧ l.length ≤ 50000 ∧ (∀ os, o = some os → os.length ≤ 50000) ∧ (roadB js l o = false → ∀ H', Same H H' → Q .non H') ∧ (roadB js l o = true → ∀ m H', H m = none → Same H H' → Q (.ref m) H')
theorem ok__walked_any (T : Txt K mg) : FnOk P w K mg base CX0 3 T.f__walked T.fd__walked P__walked (sp__walked_any) := by
  have nd : N__walked.Nodup := sc__walked.nd
  refine T.F__walked.ok sc__walked (fun vs H Q E h => ?_) (fun cdv A outer s H vs Q E hr h => ?_)
  · obtain ⟨l, js, v, o, rfl, _⟩ := h
    rfl
  · obtain ⟨l, js, v, o, rfl, hv, hl, hol, kN, kY⟩ := h
    refine ⟨_, (pss_cons (ps_if (pt_not (pt_val (pe_callB call_isi (by rfl) T.z_isinstance (by decide +kernel) (pa_cons (pv 2) (pa_cons (pe_bltn (v := .ty "list") (by rfl) T.z_list (by decide +kernel) rfl) pa_nil))))) (pss_one (ps_ret pe_non)) pss_nil)
      (pss_cons (ps_set (i := 3) nd rfl (Or.inl rfl) (pe_lst (pa_cons (pv 0) pa_nil)))
      (pss_cons (ps_for PassesOwn.never rfl (pi_list (pv 2)) (pg_name (i := 4) nd rfl (Or.inl rfl))
      (pss_cons (ps_if (pt_not (pt_val (pe_call (ok__is_open_any T) (hr.mono (by decide)) rfl T.m__is_open T.F__is_open.kp T.b__is_open .nil pass0 (pa_cons (pe_ix ix_list (pv 3) (pe_un un_neg pe_int) (fun _ _ => rfl)) (pa_cons (pv 1) (pa_cons (pv 4) pa_nil)))))) (pss_one (ps_ret pe_non)) pss_nil)
      (pss_one (ps_expr (pe_bm PySem.F.plainAttrs_list PySem.F.slot_list_append PySem.F.type_list_append mt_append (pv 3) (pa_cons (pe_call (ok_sides_changed T) (hr.mono (by decide)) rfl T.m_sides_changed T.F_sides_changed.kp T.b_sides_changed .nil pass0 (pa_cons (pe_ix ix_list (pv 3) (pe_un un_neg pe_int) (fun _ _ => rfl)) (pa_cons (pv 4) pa_nil))) pa_nil))))))
      (pss_one (ps_ret (pv 3)))))), ?_⟩
    cases hv with
    | tup ht => exact ⟨_, rfl, _, _, _, _, _, rfl, ClsV.ty "list", .base (.tup ht), kit_ty (by decide +kernel), false, rfl, iteT (kN rfl _ fun _ _ e => e)⟩
    | dic ht => exact ⟨_, rfl, _, _, _, _, _, rfl, ClsV.ty "list", .base (.dK ht), kit_ty (by decide +kernel), false, rfl, iteT (kN rfl _ fun _ _ e => e)⟩
    | int i => exact ⟨_, rfl, _, _, _, _, _, rfl, ClsV.ty "list", .base (.int _), kit_ty (by decide +kernel), false, rfl, iteT (kN rfl _ fun _ _ e => e)⟩
    | bl b => exact ⟨_, rfl, _, _, _, _, _, rfl, ClsV.ty "list", .base (.bl _), kit_ty (by decide +kernel), false, rfl, iteT (kN rfl _ fun _ _ e => e)⟩
    | non => exact ⟨_, rfl, _, _, _, _, _, rfl, ClsV.ty "list", .base .non, kit_ty (by decide +kernel), false, rfl, iteT (kN rfl _ fun _ _ e => e)⟩
    | str s => exact ⟨_, rfl, _, _, _, _, _, rfl, ClsV.ty "list", .base (.str _), kit_ty (by decide +kernel), false, rfl, iteT (kN rfl _ fun _ _ e => e)⟩
    | @lst v xs os ht hx =>
      have hos := hol os rfl
      refine ⟨_, rfl, _, _, _, _, _, rfl, ClsV.ty "list", .base (.lst ht), kit_ty (by decide +kernel), true, rfl, iteF ?_⟩
      refine ⟨_, rfl, (by show 1 ≤ sizeLine; decide), fun m hm => ?_⟩
      refine ⟨_, rfl, v, rfl, ⟨_, SqL.of (Same.upd hm _ _ ht)⟩, for_list (K := K) (a := v) (xs := xs) (fun i σ H' => ∃ (pv : Option V) (ys : List V) (cur : List Nat), σ = [some (.str (S l)), some (.str (S js)), some (.ref v), some (.ref m), pv] ∧ Same H H' ∧ H' m = some (.lst (ys ++ [V.str (S cur)])) ∧ ys.length = i ∧ cur.length = l.length ∧ walkO js l os = walkO js cur (os.drop i)) ⟨none, [], l, rfl, Same.upd hm, upd_same, rfl, rfl, rfl⟩ (fun i σ H' _ ⟨_, _, _, _, s, _⟩ => SqL.of (s _ _ ht)) ?_ ?_⟩
      · rintro i y σ H1 hi ⟨pv, ys, cur, rfl, s1, d1, hyl, hcl, hw⟩
        obtain ⟨o, ho, hit⟩ := hx.2 i y hi
        have hil : i < os.length := (List.getElem?_eq_some_iff.mp ho).1
        refine ⟨_, rfl, _, rfl, m, _, _, _, rfl, rfl, SqL.of d1, atI_snoc, _, rfl, _, rfl, cur, js, y, o, rfl, by rw [hcl]; exact hl, hit.same s1, _, rfl, ?_⟩
        cases hp : placeO cur js o with
        | none =>
          rw [walkO_stop ho hp] at hw
          exact iteT (kN hw _ s1)
        | some p =>
          obtain ⟨c, rfl, hc, hcj⟩ := placeO_lt hp
          cases hit
          rw [walkO_step ho hp] at hw
          have hpl : p < cur.length := (List.getElem?_eq_some_iff.mp hc).1
          refine iteF ?_
          refine ⟨_, rfl, .inl ⟨rfl, _, SqL.of d1⟩, _, rfl, _, rfl, m, _, _, _, rfl, rfl, SqL.of d1, atI_snoc, _, rfl, cur, p, rfl, by rw [hcl]; exact hl, hpl, m, _, _, rfl, rfl, d1, ?_, ?_⟩
          · rw [List.length_append, hyl]; exact small_line (by simp; omega)
          refine ⟨_, ys ++ [V.str (S cur)], swapL cur p, rfl, fun b o e => ?_, upd_same, ?_, ?_, hw⟩
          · rw [upd_ne (ne_of_none e hm)]; exact s1 b o e
          · rw [List.length_append, hyl]; rfl
          · rw [swapL_len hpl, hcl]
      rintro σ H1 ⟨pv, ys, cur, rfl, s1, d1, hyl, hcl, hw⟩
      rw [hx.1, walkO_end] at hw
      exact ⟨_, rfl, kY hw m H1 hm s1⟩
/-! _law_word -/
def sp__law_word : Sp := fun vs H Q _ => ∃ (g : Addr) (l : List Nat) (n b : Nat), vs = [.ref g, .str (S l), .int (n : Int)] ∧ GenAt H g b ∧ b + 10 * n ≤ 900000000 ∧ 0 < l.length ∧ l.length ≤ 50000 ∧ n ≤ 50000 ∧ ∀ (ws : List Nat) H', ws.length = n → (∀ c ∈ ws, c ∈ l) → But g H H' → GenAt H' g (b + 10 * n) → Q (.str (S ws)) H'
theorem ok__law_word (T : Txt K mg) : FnOk P w K mg base CX0 3 T.f__law_word T.fd__law_word P__law_word (sp__law_word) := by
  have nd : N__law_word.Nodup := sc__law_word.nd
  refine T.F__law_word.ok sc__law_word (fun vs H Q E h => ?_) (fun cdv A outer s H vs Q E hr h => ?_)
  · obtain ⟨g, l, n, b, rfl, _⟩ := h
    rfl
  · obtain ⟨g, l, n, b, rfl, G, hb, hl0, hl, hn, k⟩ := h
    refine ⟨_, (pss_one (ps_ret (pe_join pe_str (pe_lc (own := [("_law_turn", 3)]) (hc := rfl) (hN := nd) (pi_range1 rfl T.z_range (pa_cons (pv 2) pa_nil)) (blkOk_by (N := N__law_word) (sc := defScope s__law_word) (by decide +kernel)) (fun _ _ _ _ _ => by exact (pg_name (i := 3) nd rfl (Or.inl rfl))) (fun _ _ _ _ _ => by exact pts_nil) (fun _ _ _ _ _ => by exact (pe_item_str (pv 1) (pe_call (ok__law_random T) (hr.mono (by decide)) rfl T.m__law_random T.F__law_random.kp T.b__law_random .nil pass0 (pa_cons (pv 0) (pa_cons (pe_callB (call_lenK K) (by rfl) T.z_len (by decide +kernel) (pa_cons (pv 1) pa_nil)) pa_nil))) (fun _ _ => rfl))))))), ?_⟩
    refine ⟨⟨_, rfl⟩, _, rfl, _, rfl, by omega, by omega, fun D hD => ?_⟩
    rw [Int.toNat_natCast]
    refine lc_it walk_range (fun i H' => ∃ ws : List Nat, ws.length = i ∧ (∀ c ∈ ws, c ∈ l) ∧ But g H H' ∧ GenAt H' g (b + 10 * i) ∧ H' D = some (.lst ((ws.map fun c => S [c]).map V.str)))
      ⟨[], rfl, fun c h => (nomatch h), But.same (Same.upd hD), G.new hD, upd_same⟩ (fun _ _ _ _ => trivial) ?_ ?_
    · rintro i x H1 H2 hi ⟨ws, hlen, hm, b1, G1, d1⟩ ⟨rfl, rfl⟩
      have nD : D ≠ g := G.ne hD
      refine ⟨rfl, _, rfl, _, rfl, _, rfl, _, l.length, rfl, ⟨by rw [len_S]; exact small_le (by omega), by rw [len_S]⟩, ?_⟩
      refine ⟨g, _, b + 10 * i, rfl, G1, by omega, by omega, Nat.lt_of_le_of_lt (by omega : (l.length : Int).natAbs ≤ 50000) (by decide), fun r H3 r0 r1 b3 G3 => ?_⟩
      have hr : r.toNat < l.length := by omega
      refine ⟨S l, r, l[r.toNat], rfl, rfl, r0, by omega, by rw [len_S]; omega, by rw [at_S]; exact List.getElem?_eq_getElem hr, ?_⟩
      refine ⟨_, b3 _ _ nD d1, ?_, ws ++ [l[r.toNat]], by simp [hlen], ?_, ?_, ?_, ?_⟩
      · rw [List.length_map, List.length_map, hlen]; exact small_line (by omega)
      · intro c hc
        rcases List.mem_append.mp hc with hc | hc
        · exact hm c hc
        · rw [List.mem_singleton.mp hc]; exact List.getElem_mem hr
      · exact fun c o ne e => by rw [upd_ne (ne_of_none e hD)]; exact (b1.trans b3) c o ne e
      · obtain ⟨x, y, z, g0, hx⟩ := G3
        exact ⟨x, y, z, by rw [upd_ne nD.symm]; exact g0, hx.1, hx.2.1, by omega, by omega⟩
      · rw [upd_same]; simp
    · rintro H1 ⟨ws, hlen, hm, b1, G1, d1⟩
      refine ⟨_, D, ws.map fun c => S [c], rfl, rfl, .inl (SqL.of d1), ?_, ?_⟩
      · exact join_bound (by omega)
      · rw [join_signs]
        exact k ws H1 hlen hm b1 G1
/-! _law_letters -/
def sp__law_letters : Sp := fun vs H Q _ => ∃ (g : Addr) (a m b : Nat), vs = [.ref g, .int (a : Int), .int (m : Int)] ∧ GenAt H g b ∧ b ≤ 800000000 ∧ a ≤ m ∧ m ≤ 8 ∧ ∀ (l : List Nat) H', a ≤ l.length → l.length ≤ m → l.Pairwise (· < ·) → (∀ c ∈ l, 97 ≤ c ∧ c ≤ 122) → But g H H' → GenAt H' g (b + 100) → Q (.str (S l)) H'
theorem ok__law_letters (T : Txt K mg) : FnOk P w K mg base CX0 3 T.f__law_letters T.fd__law_letters P__law_letters (sp__law_letters) := by
  have nd : N__law_letters.Nodup := sc__law_letters.nd
  refine T.F__law_letters.ok sc__law_letters (fun vs H Q E h => ?_) (fun cdv A outer s H vs Q E hr h => ?_)
  · obtain ⟨g, a, m, b, rfl, _⟩ := h
    rfl
  · obtain ⟨g, a, m, b, rfl, G, hb, ham, hm, k⟩ := h
    refine ⟨_, (pss_cons (ps_par3 (i := 3) (j := 4) (l := 5) rfl nd rfl rfl rfl (by decide) (by decide) (by decide) rfl rfl rfl (pa_cons (pe_op op_add (pv 1) (pe_call (ok__law_random T) (hr.mono (by decide)) rfl T.m__law_random T.F__law_random.kp T.b__law_random .nil pass0 (pa_cons (pv 0) (pa_cons (pe_op op_add (pe_op op_sub (pv 2) (pv 1)) pe_int) pa_nil)))) (pa_cons pe_str (pa_cons (pe_op op_sub pe_int pe_int) pa_nil))) (by rfl))
      (pss_cons (ps_for PassesOwn.never rfl (pi_range1 rfl T.z_range (pa_cons (pv 3) pa_nil)) (pg_name (i := 6) nd rfl (Or.inl rfl))
      (pss_cons (ps_set (i := 5) nd rfl (Or.inl rfl) (pe_op op_add (pe_op op_add (pv 5) pe_int) (pe_call (ok__law_random T) (hr.mono (by decide)) rfl T.m__law_random T.F__law_random.kp T.b__law_random .nil pass0 (pa_cons (pv 0) (pa_cons pe_int pa_nil)))))
      (pss_one (ps_set (i := 4) nd rfl (Or.inl rfl) (pe_op op_add_str (pv 4) (pe_item_str pe_str (pv 5) (fun _ _ => rfl)))))))
      (pss_one (ps_ret (pv 4))))), ?_⟩
    refine ⟨_, rfl, _, rfl, _, rfl, _, rfl, _, _, rfl, rfl, _, _, rfl, rfl, g, _, b, rfl, G, by omega, by omega, Nat.lt_of_le_of_lt (by omega : ((m : Int) - (a : Int) + 1).natAbs ≤ 9) (by decide), fun r H1 r0 r1 b1 G1 => ?_⟩
    refine ⟨_, _, rfl, rfl, _, _, rfl, rfl, _, _, _, rfl, ?_⟩
    refine ⟨_, rfl, _, rfl, by omega, by omega, ?_⟩
    refine for_range (lo := 0) (n := ((a : Int) + r).toNat) (fun i σ H' => ∃ (l : List Nat) (st : Int) (v : Option V), σ = [some (.ref g), some (.int (a : Int)), some (.int (m : Int)), some (.int ((a : Int) + r)), some (.str (S l)), some (.int st), v] ∧ l.length = i ∧ -1 ≤ st ∧ st ≤ 3 * (i : Int) - 1 ∧ l.Pairwise (· < ·) ∧ (∀ c ∈ l, 97 ≤ c ∧ (c : Int) ≤ 97 + st) ∧ But g H H' ∧ GenAt H' g (b + 10 + 10 * i))
      ⟨[], -1, none, rfl, rfl, by omega, by omega, List.Pairwise.nil, fun c h => (nomatch h), b1, G1⟩ ?_ ?_
    · rintro i σ H2 hi ⟨l, st, v, rfl, hl, s0, s1, hp, hc, b2, G2⟩
      refine ⟨_, rfl, _, _, rfl, rfl, _, rfl, g, 3, b + 10 + 10 * i, rfl, G2, by omega, by decide, by decide, fun q H3 q0 q1 b3 G3 => ?_⟩
      refine ⟨_, _, rfl, rfl, ?_⟩
      have hx : (st + 1 + q).toNat < 26 := by omega
      refine ⟨_, rfl, _, rfl, _, _, 97 + (st + 1 + q).toNat, rfl, rfl, by omega, by omega, by rw [alpha_len]; omega, alpha_at _ hx, ?_⟩
      refine ⟨_, S [97 + (st + 1 + q).toNat], rfl, rfl, ?_, ?_⟩
      · rw [len_S, len_S]; exact small_le (by simp; omega)
      rw [SX.S_cat]
      refine ⟨l ++ [97 + (st + 1 + q).toNat], st + 1 + q, _, rfl, by simp [hl], by omega, by omega, ?_, ?_, b2.trans b3, G3.mono (by omega)⟩
      · refine List.pairwise_append.mpr ⟨hp, List.pairwise_singleton _ _, fun c h d h' => ?_⟩
        rw [List.mem_singleton.mp h']
        have := (hc c h).2
        omega
      · intro c h
        rcases List.mem_append.mp h with h | h
        · have := hc c h
          omega
        · rw [List.mem_singleton.mp h]
          omega
    · rintro σ H2 ⟨l, st, v, rfl, hl, s0, s1, hp, hc, b2, G2⟩
      exact ⟨_, rfl, k l H2 (by omega) (by omega) hp (fun c h => ⟨(hc c h).1, by have := (hc c h).2; omega⟩) b2 (G2.mono (by omega))⟩
/-! _law_joints -/
def sp__law_joints : Sp := fun vs H Q _ => ∃ (g : Addr) (l : List Nat) (b : Nat), vs = [.ref g, .str (S l)] ∧ GenAt H g b ∧ b + 10 * l.length ≤ 900000000 ∧ l.length ≤ 50000 ∧ ∀ (js : List Nat) H', js.Sublist l → But g H H' → GenAt H' g (b + 10 * l.length) → Q (.str (S js)) H'
theorem ok__law_joints (T : Txt K mg) : FnOk P w K mg base CX0 3 T.f__law_joints T.fd__law_joints P__law_joints (sp__law_joints) := by
  have nd : N__law_joints.Nodup := sc__law_joints.nd
  refine T.F__law_joints.ok sc__law_joints (fun vs H Q E h => ?_) (fun cdv A outer s H vs Q E hr h => ?_)
  · obtain ⟨g, l, b, rfl, _⟩ := h
    rfl
  · obtain ⟨g, l, b, rfl, G, hb, hl, k⟩ := h
    refine ⟨_, (pss_one (ps_ret (pe_join pe_str (pe_lc (own := [("_law_letter", 2)]) (hc := rfl) (hN := nd) (pi_str (pv 1)) (blkOk_by (N := N__law_joints) (sc := defScope s__law_joints) (by decide +kernel)) (fun _ _ _ _ _ => by exact (pg_name (i := 2) nd rfl (Or.inl rfl))) (fun _ _ _ _ _ => by exact (pts_one (pt_cmpR op_eq (pe_call (ok__law_random T) (hr.mono (by decide)) rfl T.m__law_random T.F__law_random.kp T.b__law_random .nil pass0 (pa_cons (pv 0) (pa_cons pe_int pa_nil))) pe_int (nomark _)))) (fun _ _ _ _ _ => by exact (pv 2)))))), ?_⟩
    refine ⟨⟨_, rfl⟩, _, rfl, _, rfl, fun D hD => ?_⟩
    refine lc_it walk_str (fun i H' => ∃ js : List Nat, js.Sublist (l.take i) ∧ But g H H' ∧ GenAt H' g (b + 10 * i) ∧ H' D = some (.lst ((js.map fun c => S [c]).map V.str)))
      ⟨[], List.nil_sublist _, But.same (Same.upd hD), G.new hD, upd_same⟩ (fun _ _ _ _ => trivial) ?_ ?_
    · rintro i x H1 H2 hi ⟨js, hs, b1, G1, d1⟩ ⟨rfl, c, hc, rfl⟩
      rw [at_S] at hc
      rw [size_S] at hi
      have nD : D ≠ g := G.ne hD
      refine ⟨rfl, _, rfl, g, _, b + 10 * i, rfl, G1, by omega, by decide, by decide, fun r H3 r0 r1 b3 G3 => ?_⟩
      have hs2 : (l.take i ++ [c]) = l.take (i + 1) := (take_snoc hc).symm
      refine ⟨rfl, _, rfl, ite2 (fun q => ?_) (fun q => ?_)⟩
      · refine ⟨_, rfl, _, b3 _ _ nD d1, ?_, js ++ [c], ?_, ?_, ?_, ?_⟩
        · have := hs.length_le
          rw [List.length_take] at this
          rw [List.length_map, List.length_map]; exact small_line (by omega)
        · rw [← hs2]; exact hs.append (List.Sublist.refl _)
        · exact fun c o ne e => by rw [upd_ne (ne_of_none e hD)]; exact (b1.trans b3) c o ne e
        · obtain ⟨x, y, z, g0, hx⟩ := G3
          exact ⟨x, y, z, by rw [upd_ne nD.symm]; exact g0, hx.1, hx.2.1, by omega, by omega⟩
        · rw [upd_same]; simp
      · exact ⟨js, by rw [← hs2]; exact hs.trans (List.sublist_append_left _ _), b1.trans b3, G3.mono (by omega), b3 _ _ nD d1⟩
    · rintro H1 ⟨js, hs, b1, G1, d1⟩
      rw [size_S, List.take_length] at hs
      rw [size_S] at G1
      refine ⟨_, D, js.map fun c => S [c], rfl, rfl, .inl (SqL.of d1), ?_, ?_⟩
      · have := hs.length_le
        exact join_bound (by omega)
      · rw [join_signs]
        exact k js H1 hs b1 G1
/-! _law_road -/
def sp__law_road : Sp := fun vs H Q _ => ∃ (g : Addr) (l js : List Nat) (n b : Nat), vs = [.ref g, .str (S l), .str (S js), .int (n : Int)] ∧ GenAt H g b ∧ b + 10 * n ≤ 900000000 ∧ l.length ≤ 50000 ∧ n ≤ 50000 ∧ ∀ (r : List Nat) (v : Addr) H', IsRoad js l r → r.length ≤ n → H v = none → But g H H' → GenAt H' g (b + 10 * n) → H' v = some (.lst (placesV r)) → Q (.ref v) H'
theorem ok__law_road (T : Txt K mg) : FnOk P w K mg base CX0 3 T.f__law_road T.fd__law_road P__law_road (sp__law_road) := by
  have nd : N__law_road.Nodup := sc__law_road.nd
  refine T.F__law_road.ok sc__law_road (fun vs H Q E h => ?_) (fun cdv A outer s H vs Q E hr h => ?_)
  · obtain ⟨g, l, js, n, b, rfl, _⟩ := h
    rfl
  · obtain ⟨g, l, js, n, b, rfl, G, hb, hl, hn, k⟩ := h
    refine ⟨_, (pss_cons (ps_asg (pe_tup (pa_cons (pe_lst pa_nil) (pa_cons (pv 1) pa_nil))) (pg_tup (n := 2) rfl (pgs_cons (by exact (pg_name (i := 4) nd rfl (Or.inl rfl))) (pgs_cons (by exact (pg_name (i := 5) nd rfl (Or.inr rfl))) pgs_nil))))
      (pss_cons (ps_for PassesOwn.never rfl (pi_range1 rfl T.z_range (pa_cons (pv 3) pa_nil)) (pg_name (i := 6) nd rfl (Or.inl rfl))
      (pss_cons (ps_setLc (i := 7) (own := [("_law_place", 8)]) rfl nd rfl rfl (sw_true rfl rfl rfl (by decide +kernel)) (pi_range1 rfl T.z_range (pa_cons (pe_callB call_len (by rfl) T.z_len (by decide +kernel) (pa_cons (pv 5) pa_nil)) pa_nil)) (blkOk_by (N := N__law_road) (sc := defScope s__law_road) (by decide +kernel)) (fun _ _ _ _ _ => by exact (pg_name (i := 8) nd rfl (Or.inl rfl))) (fun _ _ _ _ _ => by exact (pts_one (pt_cmpR op_in_sign (pe_item_str (pv 5) (pv 8) (fun _ _ => rfl)) (pv 2) rfl))) (fun _ _ _ _ _ => by exact (pv 8)))
      (pss_one (ps_if (pt_cmpR (op_neD hr.units) (pv 7) (pe_lst pa_nil) (nomark _)) (pss_cons (ps_expr (pe_bm PySem.F.plainAttrs_list PySem.F.slot_list_append PySem.F.type_list_append mt_append (pv 4) (pa_cons (pe_ix ix_list (pv 7) (pe_call (ok__law_random T) (hr.mono (by decide)) rfl T.m__law_random T.F__law_random.kp T.b__law_random .nil pass0 (pa_cons (pv 0) (pa_cons (pe_callB call_len_seq (by rfl) T.z_len (by decide +kernel) (pa_cons (pv 7) pa_nil)) pa_nil))) (fun _ _ => rfl)) pa_nil)))
      (pss_one (ps_set (i := 5) nd rfl (Or.inr rfl) (pe_call (ok__law_swapped T) (hr.mono (by decide)) rfl T.m__law_swapped T.F__law_swapped.kp T.b__law_swapped .nil pass0 (pa_cons (pv 5) (pa_cons (pe_ix ix_list (pv 4) (pe_op op_sub (pe_callB call_len_seq (by rfl) T.z_len (by decide +kernel) (pa_cons (pv 4) pa_nil)) pe_int) (fun _ _ => rfl)) pa_nil)))))) pss_nil))))
      (pss_one (ps_ret (pv 4))))), ?_⟩
    refine ⟨(by show 0 ≤ sizeLine; decide), fun v hv => ⟨_, rfl, (by show 2 ≤ sizeLine; decide), fun t ht => ?_⟩⟩
    have nvt : v ≠ t := ne_of_none upd_same ht
    have nvg : v ≠ g := G.ne hv
    have s1 := (Same.upd (o := HO.lst []) hv).trans (Same.upd (o := HO.tup [V.ref v, V.str (S l)]) ht)
    refine ⟨t, _, rfl, SqT.of upd_same, rfl, _, _, rfl, _, _, rfl, rfl, ?_⟩
    have d1 : (upd (upd H v (.lst [])) t (.tup [V.ref v, V.str (S l)])) v = some (.lst (placesV [])) := by rw [upd_ne nvt]; exact upd_same
    generalize upd (upd H v (.lst [])) t (.tup [V.ref v, V.str (S l)]) = H1 at s1 d1
    refine ⟨_, rfl, _, rfl, by omega, by omega, ?_⟩
    rw [Int.toNat_natCast]
    refine for_range (lo := 0) (n := n) (fun i σ H' => ∃ (r : List Nat) (w1 w2 w3 : Option V), σ = [some (.ref g), some (.str (S l)), some (.str (S js)), some (.int (n : Nat)), some (.ref v), some (.str (S (ends l r))), w1, w2, w3] ∧ IsRoad js l r ∧ r.length ≤ i ∧ But g H H' ∧ GenAt H' g (b + 10 * i) ∧ H' v = some (.lst (placesV r))) ⟨[], none, none, none, rfl, trivial, Nat.le_refl _, But.same s1, G.same s1, d1⟩ ?_ ?_
    · rintro i σ H2 hi ⟨r, w1, w2, w3, rfl, rd, hrl, b2, G2, d2⟩
      have hel : (ends l r).length = l.length := ends_len (road_lt rd)
      refine ⟨_, rfl, _, l.length, rfl, ⟨by rw [len_S, hel]; exact small_le (by omega), by rw [len_S, hel]⟩, _, rfl, by omega, by omega, fun D hD => ?_⟩
      rw [Int.toNat_natCast]
      refine lc_it walk_range (fun i H' => Same H2 H' ∧ H' D = some (.lst (placesV (openL ((ends l r).take i) js)))) ⟨Same.upd hD, upd_same⟩ (fun _ _ _ _ => trivial) ?_ ?_
      · rintro i2 x H8 H9 hi2 ⟨s8, d8⟩ ⟨rfl, rfl⟩
        have hi' : i2 < (ends l r).length := by omega
        have hci : (ends l r)[i2]? = some (ends l r)[i2] := List.getElem?_eq_getElem hi'
        have ee := openL_snoc js hci
        have hol := openL_len ((ends l r).take i2) js
        refine ⟨rfl, _, rfl, _, rfl, S (ends l r), _, (ends l r)[i2], rfl, rfl, by omega, by omega, by rw [len_S]; omega, by rw [at_S, show ((0 : Int) + (i2 : Nat)).toNat = i2 by omega]; exact hci, ?_⟩
        refine ⟨_, rfl, _, S js, rfl, rfl, _, rfl, ite2 (fun z => ?_) (fun z => ?_)⟩
        · rw [if_pos (of_decide_eq_true z)] at ee
          refine ⟨_, rfl, _, d8, ?_, fun b o e => ?_, ?_⟩
          · rw [List.length_map]; rw [List.length_take] at hol; exact small_line (by omega)
          · rw [upd_ne (ne_of_none e hD)]; exact s8 b o e
          · rw [upd_same, ee]; simp [placesV]
        · rw [if_neg (fun q => z (decide_eq_true q))] at ee
          exact ⟨s8, by rw [d8, ee]; simp [placesV]⟩
      rintro H3 ⟨s3, d3⟩
      rw [← hel, List.take_length] at d3
      have hol := openL_len (ends l r) js
      refine ⟨_, rfl, (by show 0 ≤ sizeLine; decide), fun p hp => ?_⟩
      have s4 : Same H2 (upd H3 p (.lst [])) := s3.trans (Same.upd hp)
      have d4 := Same.upd (o := HO.lst []) hp _ _ d3
      have hpe : (upd H3 p (.lst [])) p = some (.lst []) := upd_same
      generalize upd H3 p (.lst []) = H4 at s4 d4 hpe
      refine places_ne_nil (SqL.of d4) (SqL.of hpe) ⟨_, rfl, ite2 (fun z => ?_) (fun z => ?_)⟩
      · have hpos : 0 < (openL (ends l r) js).length := by
          cases e : openL (ends l r) js with
          | nil => rw [e] at z; cases z
          | cons _ _ => simp
        have G4 := G2.same s4
        have nDg : D ≠ g := G2.ne hD
        refine ⟨_, rfl, .inl ⟨rfl, _, SqL.of (s4 _ _ d2)⟩, _, rfl, _, rfl, _, rfl, D, _, rfl, .inl (SqL.of d4), ?_⟩
        refine ⟨g, _, b + 10 * i, rfl, G4, by omega, by rw [List.length_map]; omega, Nat.lt_of_le_of_lt (by rw [List.length_map]; omega : (((placesV (openL (ends l r) js)).length : Nat) : Int).natAbs ≤ 50000) (by decide), fun q H5 q0 q1 b5 G5 => ?_⟩
        rw [List.length_map] at q1
        have hq : q.toNat < (openL (ends l r) js).length := by omega
        generalize hp0 : (openL (ends l r) js)[q.toNat] = p0
        have hm0 : p0 ∈ openL (ends l r) js := by rw [← hp0]; exact List.getElem_mem hq
        obtain ⟨c, hc, hcj⟩ := mem_openL hm0
        have hpl : p0 < (ends l r).length := (List.getElem?_eq_some_iff.mp hc).1
        refine ⟨D, _, _, V.int (p0 : Nat), rfl, rfl, SqL.of (b5 _ _ nDg d4), at_of (j := q.toNat) (by omega) (by rw [List.getElem?_map, List.getElem?_eq_getElem hq, hp0]; rfl), ?_⟩
        have d5 := b5 _ _ nvg (s4 _ _ d2)
        refine ⟨v, _, _, rfl, rfl, d5, by rw [List.length_map]; exact small_line (by omega), ?_⟩
        have d6 : (upd H5 v (.lst (placesV r ++ [V.int (p0 : Nat)]))) v = some (.lst (placesV (r ++ [p0]))) := by rw [upd_same]; simp [placesV]
        have G6 : GenAt (upd H5 v (.lst (placesV r ++ [V.int (p0 : Nat)]))) g (b + 10 * (i + 1)) := by
          obtain ⟨x, y, z, g0, hx⟩ := G5
          exact ⟨x, y, z, by rw [upd_ne nvg.symm]; exact g0, hx.1, hx.2.1, by omega, by omega⟩
        have b6 : But g H (upd H5 v (.lst (placesV r ++ [V.int (p0 : Nat)]))) := fun a o ne e => by
          rw [upd_ne (ne_of_none e hv)]
          exact (b2.trans ((But.same s4).trans b5)) a o ne e
        generalize upd H5 v (.lst (placesV r ++ [V.int (p0 : Nat)])) = H6 at d6 G6 b6
        refine ⟨_, rfl, _, rfl, _, rfl, v, _, rfl, .inl (SqL.of d6), _, _, rfl, rfl, v, _, _, V.int (p0 : Nat), rfl, rfl, SqL.of d6, at_of (j := r.length) (by rw [List.length_map, List.length_append]; simp) (by simp [placesV]), ?_⟩
        refine ⟨ends l r, p0, rfl, by rw [hel]; exact hl, hpl, ?_⟩
        rw [← ends_snoc]
        exact ⟨r ++ [p0], _, _, _, rfl, road_append.mpr ⟨rd, ⟨c, hc, hcj⟩, trivial⟩, by simp; omega, b6, G6, d6⟩
      · exact ⟨r, _, _, _, rfl, rd, by omega, b2.trans (But.same s4), (G2.same s4).mono (by omega), s4 _ _ d2⟩
    rintro σ H2 ⟨r, w1, w2, w3, rfl, rd, hrl, b2, G2, d2⟩
    exact ⟨_, rfl, k r v H2 rd hrl hv b2 G2 d2⟩
/-! _law_bent -/
def sp__law_bent (K : PySem.W.Frag) : Sp := fun vs H Q _ => ∃ (g v : Addr) (r : List Nat) (n b : Nat), vs = [.ref g, .ref v, .int (n : Int)] ∧ GenAt H g b ∧ b ≤ 800000000 ∧ H v = some (.lst (placesV r)) ∧ v ≠ g ∧ r.length ≤ 60 ∧ n ≤ 300 ∧ (∀ p ∈ r, p < n) ∧ ∀ (m : Addr) (us : List V) H', H m = none → But g H H' → GenAt H' g (b + 20) → H' m = some (.lst us) → us.length ≤ 100 → (∀ u ∈ us, Fine K H' u) → Q (.ref m) H'
theorem ok__law_bent (T : Txt K mg) : FnOk P w K mg base CX0 3 T.f__law_bent T.fd__law_bent P__law_bent (sp__law_bent K) := by
  have nd : N__law_bent.Nodup := sc__law_bent.nd
  refine T.F__law_bent.ok sc__law_bent (fun vs H Q E h => ?_) (fun cdv A outer s H vs Q E hr h => ?_)
  · obtain ⟨g, v, r, n, b, rfl, _⟩ := h
    rfl
  · obtain ⟨g, v, r, n, b, rfl, G, hb, hv, hvg, hrl, hn, hr2, k⟩ := h
    refine ⟨_, (pss_cons (ps_set (i := 3) nd rfl (Or.inr rfl) (pe_call (ok__law_random T) (hr.mono (by decide)) rfl T.m__law_random T.F__law_random.kp T.b__law_random .nil pass0 (pa_cons (pv 0) (pa_cons (pe_op op_add (pe_callB call_len_seq (by rfl) T.z_len (by decide +kernel) (pa_cons (pv 1) pa_nil)) pe_int) pa_nil))))
      (pss_cons (ps_set (i := 4) nd rfl (Or.inl rfl) (pe_lst (pa_cons (pe_op op_sub pe_int pe_int) (pa_cons (pv 2) (pa_cons pe_bl (pa_cons pe_non (pa_cons pe_str (pa_cons (pe_tup (pa_cons pe_int pa_nil)) (pa_cons (pe_lst (pa_cons pe_int pa_nil)) (pa_cons (pe_call (ok__law_random T) (hr.mono (by decide)) rfl T.m__law_random T.F__law_random.kp T.b__law_random .nil pass0 (pa_cons (pv 0) (pa_cons (pe_op op_add (pv 2) pe_int) pa_nil))) pa_nil))))))))))
      (pss_cons (ps_set (i := 5) nd rfl (Or.inl rfl) (pe_op op_cat (pe_lc (own := [("_law_item", 6)]) (hc := rfl) (hN := nd) (pi_list (pv 4)) (blkOk_by (N := N__law_bent) (sc := defScope s__law_bent) (by decide +kernel)) (fun _ _ _ _ _ => by exact (pg_name (i := 6) nd rfl (Or.inl rfl))) (fun _ _ _ _ _ => by exact pts_nil) (fun _ _ _ _ _ => by exact (pe_op op_cat (pe_op op_cat (pe_slice (sl_listK K) (pv 1) po_none (po_some (pv 3))) (pe_lst (pa_cons (pv 6) pa_nil))) (pe_slice (sl_listK K) (pv 1) (po_some (pv 3)) po_none)))) (pe_lst (pa_cons (pe_lc (own := [("_law_place", 7)]) (hc := rfl) (hN := nd) (pi_list (pv 1)) (blkOk_by (N := N__law_bent) (sc := defScope s__law_bent) (by decide +kernel)) (fun _ _ _ _ _ => by exact (pg_name (i := 7) nd rfl (Or.inl rfl))) (fun _ _ _ _ _ => by exact pts_nil) (fun _ _ _ _ _ => by exact (pe_op op_sub (pe_op op_sub (pv 2) pe_int) (pv 7)))) pa_nil))))
      (pss_one (ps_ret (pe_op op_cat (pv 5) (pe_lst (pa_cons (pe_callTy call_tuple_of (by rfl) T.z_tuple (by decide +kernel) (pa_cons (pv 1) pa_nil)) (pa_cons (pe_revS (pv 1) (pe_op op_sub pe_int pe_int)) (pa_cons (pe_slice sl_list (pv 1) po_none (po_some (pv 3))) (pa_cons (pe_op op_cat (pv 1) (pv 1)) (pa_cons (pe_lst (pa_cons (pv 1) pa_nil)) (pa_cons pe_non (pa_cons pe_int (pa_cons pe_str (pa_cons pe_dnewK pa_nil)))))))))))))))), ?_⟩
    refine ⟨_, rfl, _, rfl, v, _, rfl, .inl (SqL.of hv), _, _, rfl, rfl, g, _, b, rfl, G, by omega, by omega, ?_, fun at0 H1 ha0 ha1 b1 G1 => ?_⟩
    · rw [List.length_map]; exact Nat.lt_of_le_of_lt (show ((r.length : Int) + 1).natAbs ≤ 61 by omega) (by decide)
    rw [List.length_map] at ha1
    obtain ⟨q, rfl⟩ := Int.eq_ofNat_of_zero_le ha0
    have hq : q ≤ r.length := by omega
    have hv1 := b1 _ _ hvg hv
    refine ⟨_, _, rfl, rfl, _, rfl, (by show 1 ≤ sizeLine; decide), fun t ht => ⟨(by show 1 ≤ sizeLine; decide), fun u hu => ⟨_, rfl, _, rfl, _, _, rfl, rfl, g, _, b + 10, rfl, (G1.new ht).new hu, by omega, by omega, ?_, fun x H2 hx0 hx1 b2 G2 => ?_⟩⟩⟩
    · exact Nat.lt_of_le_of_lt (show ((n : Int) + 1).natAbs ≤ 301 by omega) (by decide)
    have htg : t ≠ g := G1.ne ht
    have hug : u ≠ g := (G1.new ht).ne hu
    have htu : t ≠ u := ne_of_none upd_same hu
    have ht2 : H2 t = some (.tup [.int 0]) := b2 _ _ htg (by rw [upd_ne htu]; exact upd_same)
    have hu2 : H2 u = some (.lst [.int 0]) := b2 _ _ hug upd_same
    have hv2 : H2 v = some (.lst (placesV r)) := b2 _ _ hvg (Same.upd hu _ _ (Same.upd ht _ _ hv1))
    have B2 : But g H H2 := (b1.trans ((But.same (Same.upd ht)).trans (But.same (Same.upd hu)))).trans b2
    refine ⟨(by show 8 ≤ sizeLine; decide), fun o ho => ?_⟩
    have hall : ∀ y ∈ [V.int (0 - 1), V.int (n : Nat), V.bl true, V.non, V.str (Str.ofString "0"), V.ref t, V.ref u, V.int x], OneIt K H2 y := by
      intro y hy
      simp only [List.mem_cons, List.not_mem_nil, or_false] at hy
      rcases hy with rfl | rfl | rfl | rfl | rfl | rfl | rfl | rfl
      · exact .int (by decide)
      · exact .int (by omega)
      · exact .bl _
      · exact .non
      · exact .zero
      · exact .tup ht2
      · exact .lst hu2
      · exact .int (by omega)
    have h8 : [V.int (0 - 1), V.int (n : Nat), V.bl true, V.non, V.str (Str.ofString "0"), V.ref t, V.ref u, V.int x].length = 8 := rfl
    have s3 : Same H2 (upd H2 o (.lst [V.int (0 - 1), V.int (n : Nat), V.bl true, V.non, V.str (Str.ofString "0"), V.ref t, V.ref u, V.int x])) := Same.upd ho
    have ho3 : (upd H2 o (.lst [V.int (0 - 1), V.int (n : Nat), V.bl true, V.non, V.str (Str.ofString "0"), V.ref t, V.ref u, V.int x])) o = some (.lst [V.int (0 - 1), V.int (n : Nat), V.bl true, V.non, V.str (Str.ofString "0"), V.ref t, V.ref u, V.int x]) := upd_same
    refine ⟨_, rfl, o, rfl, ⟨_, SqL.of upd_same⟩, fun D hD => ?_⟩
    have hD' : (upd H2 o (.lst [V.int (0 - 1), V.int (n : Nat), V.bl true, V.non, V.str (Str.ofString "0"), V.ref t, V.ref u, V.int x])) D = none := hD
    generalize [V.int (0 - 1), V.int (n : Nat), V.bl true, V.non, V.str (Str.ofString "0"), V.ref t, V.ref u, V.int x] = odds at hall h8 s3 ho3 hD' ⊢
    generalize upd H2 o (.lst odds) = H3 at s3 ho3 hD' ⊢
    have hv3 : H3 v = some (.lst (placesV r)) := s3 _ _ hv2
    refine lc_it walk_list (fun i H' => Same H3 H' ∧ ∃ us : List V, H' D = some (.lst us) ∧ us.length = i ∧ ∀ w ∈ us, ∃ (a : Addr) (xs : List V) (os : List (Option Int)), w = .ref a ∧ a ≠ D ∧ H' a = some (.lst xs) ∧ Its K H3 xs os ∧ xs.length ≤ 100) ⟨Same.upd hD', [], upd_same, rfl, fun _ h => by cases h⟩ (fun i H' _ ⟨s, _⟩ => SqL.of (s _ _ ho3)) ?_ ?_
    · rintro i y H5 H6 hi ⟨s5, us, d5, hus, hrow⟩ ⟨rfl, hy⟩
      have hit := hall y (List.mem_of_getElem? hy)
      obtain ⟨oi, hits⟩ := hit.its
      have hqi : (placesV r).length = r.length := by rw [List.length_map]
      have c1 : cutV (placesV r) none (some (q : Int)) = placesV (r.take q) := by rw [cutV_toN (by omega)]; simp [placesV]
      have c2 : cutV (placesV r) (some (q : Int)) none = placesV (r.drop q) := by rw [cutV_from (by omega)]; simp [placesV]
      refine ⟨rfl, ?_⟩
      refine ⟨_, rfl, _, rfl, _, rfl, v, _, rfl, SqL.of (s5 _ _ hv3), fun p1 n1 => ?_⟩
      rw [c1]
      have hiL : i < odds.length := (List.getElem?_eq_some_iff.mp hy).1
      have e1 := Same.upd (o := HO.lst (placesV (r.take q))) n1
      refine ⟨_, rfl, (by show 1 ≤ sizeLine; decide), fun p2 n2 => ?_⟩
      have e2 := e1.trans (Same.upd (o := HO.lst [y]) n2)
      refine ⟨p1, p2, _, _, rfl, rfl, Same.upd n2 _ _ upd_same, upd_same, ?_, fun p3 n3 => ?_⟩
      · rw [List.length_map, List.length_take]; exact small_le (by simp; omega)
      have e3 := e2.trans (Same.upd (o := HO.lst (placesV (r.take q) ++ [y])) n3)
      refine ⟨_, rfl, _, rfl, _, rfl, v, _, rfl, SqL.of (e3 _ _ (s5 _ _ hv3)), fun p4 n4 => ?_⟩
      rw [c2]
      have e4 := e3.trans (Same.upd (o := HO.lst (placesV (r.drop q))) n4)
      refine ⟨p3, p4, _, _, rfl, rfl, Same.upd n4 _ _ upd_same, upd_same, ?_, fun p5 n5 => ?_⟩
      · rw [List.length_append, List.length_map, List.length_map, List.length_take, List.length_drop]; exact small_le (by simp; omega)
      have e5 := e4.trans (Same.upd (o := HO.lst (placesV (r.take q) ++ [y] ++ placesV (r.drop q))) n5)
      refine ⟨us, e5 _ _ d5, small_line (by omega), fun b o e => ?_, us ++ [.ref p5], upd_same, by simp [hus], fun w hw => ?_⟩
      · rw [upd_ne (ne_of_none e hD')]; exact e5 _ _ (s5 b o e)
      · rcases List.mem_append.mp hw with hw | hw
        · obtain ⟨a, xs, os, rfl, na, ha, hI, hl⟩ := hrow w hw
          exact ⟨a, xs, os, rfl, na, by rw [upd_ne na]; exact e5 _ _ ha, hI, hl⟩
        · rw [List.mem_singleton.mp hw]
          have n5D : D ≠ p5 := ne_of_none (e4 _ _ d5) n5
          refine ⟨p5, _, _, rfl, n5D.symm, by rw [upd_ne n5D.symm]; exact upd_same, ((Its.places fun z hz => ?_).append (hits.same s3)).append (Its.places fun z hz => ?_), ?_⟩
          · have := hr2 z (List.mem_of_mem_take hz); omega
          · have := hr2 z (List.mem_of_mem_drop hz); omega
          · rw [List.length_append, List.length_append, List.length_map, List.length_map, List.length_take, List.length_drop]; simp; omega
    rintro H4 ⟨s4, us, d4, hus, hrow⟩
    have hv4 := s4 _ _ hv3
    refine ⟨_, rfl, v, rfl, ⟨_, SqL.of hv4⟩, fun D2 hD2 => ?_⟩
    refine lc_it walk_list (fun i H' => Same H4 H' ∧ H' D2 = some (.lst (((r.take i).map fun p : Nat => ((n : Int) - 1 - (p : Int))).map V.int))) ⟨Same.upd hD2, by rw [upd_same]; rfl⟩ (fun i H' _ ⟨s, _⟩ => SqL.of (s _ _ hv4)) ?_ ?_
    · rintro i y H5 H6 hi ⟨s5, d5⟩ ⟨rfl, hy⟩
      obtain ⟨p, hp, rfl⟩ := place_of hy
      refine ⟨rfl, _, rfl, _, _, rfl, rfl, _, rfl, _, _, rfl, rfl, ?_⟩
      refine ⟨_, d5, ?_, fun b o e => ?_, ?_⟩
      · rw [List.length_map, List.length_map, List.length_take]; exact small_line (by omega)
      · rw [upd_ne (ne_of_none e hD2)]; exact s5 b o e
      · rw [upd_same, take_snoc hp]; simp
    rintro H5 ⟨s5, d5⟩
    rw [List.length_map, List.take_length] at d5
    refine ⟨(by show 1 ≤ sizeLine; decide), fun E hE => ?_⟩
    have s6 := s5.trans (Same.upd (o := HO.lst [V.ref D2]) hE)
    have d6 := Same.upd (o := HO.lst [V.ref D2]) hE _ _ d5
    refine ⟨D, E, _, _, rfl, rfl, s6 _ _ d4, upd_same, ?_, fun F hF => ?_⟩
    · rw [hus, h8]; exact small_le (by simp)
    have s7 : Same H4 (upd (upd H5 E (.lst [V.ref D2])) F (.lst (us ++ [V.ref D2]))) := s6.trans (Same.upd hF)
    have d7 : (upd (upd H5 E (.lst [V.ref D2])) F (.lst (us ++ [V.ref D2]))) D2 = some _ := Same.upd hF _ _ d6
    have f7 : (upd (upd H5 E (.lst [V.ref D2])) F (.lst (us ++ [V.ref D2]))) F = some (.lst (us ++ [V.ref D2])) := upd_same
    generalize upd (upd H5 E (.lst [V.ref D2])) F (.lst (us ++ [V.ref D2])) = H7 at s7 d7 f7 ⊢
    have hv7 := s7 _ _ hv4
    have hqi : (placesV r).length = r.length := by rw [List.length_map]
    have c1 : cutV (placesV r) none (some (q : Int)) = placesV (r.take q) := by rw [cutV_toN (by omega)]; simp [placesV]
    refine ⟨_, rfl, _, rfl, v, _, rfl, .inl ⟨SqL.of hv7, fun p1 n1 => ?_⟩⟩
    have t1 := Same.upd (o := HO.tup (placesV r)) n1
    refine ⟨_, rfl, v, _, rfl, _, _, rfl, rfl, _, rfl, rfl, SqL.of (t1 _ _ hv7), fun p2 n2 => ?_⟩
    have w2 := Same.upd (o := HO.lst (placesV r).reverse) n2
    have t2 := t1.trans w2
    refine ⟨_, rfl, _, rfl, _, rfl, v, _, rfl, SqL.of (t2 _ _ hv7), fun p3 n3 => ?_⟩
    rw [c1]
    have w3 := Same.upd (o := HO.lst (placesV (r.take q))) n3
    have t3 := t2.trans w3
    refine ⟨_, rfl, _, rfl, v, v, _, _, rfl, rfl, t3 _ _ hv7, t3 _ _ hv7, ?_, fun p4 n4 => ?_⟩
    · rw [hqi]; exact small_le (by omega)
    have w4 := Same.upd (o := HO.lst (placesV r ++ placesV r)) n4
    have t4 := t3.trans w4
    refine ⟨_, rfl, (by show 1 ≤ sizeLine; decide), fun p5 n5 => fun p6 n6 => ⟨(by show 9 ≤ sizeLine; decide), fun L hL => ?_⟩⟩
    have w5 := Same.upd (o := HO.lst [V.ref v]) n5
    have w6 := Same.upd (o := HO.dK []) n6
    have w7 := Same.upd (o := HO.lst [V.ref p1, V.ref p2, V.ref p3, V.ref p4, V.ref p5, V.non, V.int 7, V.str (Str.ofString ""), V.ref p6]) hL
    have t7 := t4.trans (w5.trans (w6.trans w7))
    refine ⟨F, L, _, _, rfl, rfl, t7 _ _ f7, upd_same, ?_, fun m hm => ?_⟩
    · rw [List.length_append, hus, h8]; exact small_le (by simp)
    have w8 := Same.upd (o := HO.lst (us ++ [V.ref D2] ++ [V.ref p1, V.ref p2, V.ref p3, V.ref p4, V.ref p5, V.non, V.int 7, V.str (Str.ofString ""), V.ref p6])) hm
    have x1 := w2.trans (w3.trans (w4.trans (w5.trans (w6.trans (w7.trans w8)))))
    have x2 := w3.trans (w4.trans (w5.trans (w6.trans (w7.trans w8))))
    have x3 := w4.trans (w5.trans (w6.trans (w7.trans w8)))
    have x4 := w5.trans (w6.trans (w7.trans w8))
    have x5 := w6.trans (w7.trans w8)
    have x6 := w7.trans w8
    have x7 := t7.trans w8
    have sA := s3.trans (s4.trans (s7.trans x7))
    have sB := s3.trans (s4.trans (s7.trans t7))
    have bs : ∀ p ∈ r, p ≤ 99999 := fun p hp => by have := hr2 p hp; omega
    refine k m _ _ ((B2.trans (But.same sB)).free (G2.same sB) hm) (B2.trans (But.same sA)) ((G2.same sA).mono (by omega)) upd_same ?_ ?_
    · rw [List.length_append, List.length_append, hus, h8]; simp
    intro w hw
    rcases List.mem_append.mp hw with hw | hw
    · rcases List.mem_append.mp hw with hw | hw
      · obtain ⟨a, xs, os, rfl, na, ha, hI, hl⟩ := hrow w hw
        exact Fine.lst (hI.same (s4.trans (s7.trans x7))) (by omega) (x7 _ _ (s7 _ _ ha))
      · rw [List.mem_singleton.mp hw]
        refine Fine.lst (Its.ints fun z hz => ?_) ?_ (x7 _ _ d7)
        · obtain ⟨p, hp, rfl⟩ := List.mem_map.mp hz
          have := hr2 p hp
          omega
        · rw [List.length_map, List.length_map]; omega
    · simp only [List.mem_cons, List.not_mem_nil, or_false] at hw
      rcases hw with rfl | rfl | rfl | rfl | rfl | rfl | rfl | rfl | rfl
      · exact Fine.tup (Its.places bs) (by rw [List.length_map]; omega) (x1 _ _ upd_same)
      · refine Fine.lst (xs := placesV r.reverse) (Its.places fun p hp => bs p (List.mem_reverse.mp hp)) (by rw [List.length_map, List.length_reverse]; omega) ?_
        rw [show placesV r.reverse = (placesV r).reverse by simp [placesV]]
        exact x2 _ _ upd_same
      · exact Fine.lst (Its.places fun p hp => bs p (List.mem_of_mem_take hp)) (by rw [List.length_map, List.length_take]; omega) (x3 _ _ upd_same)
      · exact Fine.lst ((Its.places bs).append (Its.places bs)) (by rw [List.length_append, List.length_map]; omega) (x4 _ _ upd_same)
      · exact Fine.lst (Its.nest (x7 _ _ hv7) (by omega) bs) (by show 1 ≤ 500; decide) (x5 _ _ upd_same)
      · exact Fine.non
      · exact Fine.int (by decide)
      · exact Fine.str (by decide +kernel)
      · exact Fine.dic (x6 _ _ upd_same)
/-! is_road -/
def sp_is_road : Sp := fun vs H Q _ => ∃ (l js : List Nat) (v : V) (o : Option (List (Option Int))), vs = [.str (S l), .str (S js), v] ∧ Val H v o ∧ l.length ≤ 50000 ∧ wordB l = true ∧ js.length ≤ 50000 ∧ jointsB js = true ∧ (∀ os, o = some os → os.length ≤ 50000) ∧ ∀ H', Same H H' → Q (.bl (roadB js l o)) H'
theorem ok_is_road (T : Txt K mg) : FnOk P w K mg base CX0 4 T.f_is_road T.fd_is_road P_is_road (sp_is_road) := by
  have nd : N_is_road.Nodup := sc_is_road.nd
  refine T.F_is_road.ok sc_is_road (fun vs H Q E h => ?_) (fun cdv A outer s H vs Q E hr h => ?_)
  · obtain ⟨l, js, v, o, rfl, _⟩ := h
    rfl
  · obtain ⟨l, js, v, o, rfl, hv, hl, hw, hjl, hj, hol, k⟩ := h
    refine ⟨_, (pss_cons (ps_expr (pe_call (ok_check_word T) (hr.mono (by decide)) rfl T.m_check_word T.F_check_word.kp T.b_check_word .nil pass0 (pa_cons (pv 0) pa_nil)))
      (pss_cons (ps_expr (pe_call (ok_check_joints T) (hr.mono (by decide)) rfl T.m_check_joints T.F_check_joints.kp T.b_check_joints .nil pass0 (pa_cons (pv 1) pa_nil)))
      (pss_one (ps_ret (pe_cmpR op_notN (pe_call (ok__walked_any T) (hr.mono (by decide)) rfl T.m__walked T.F__walked.kp T.b__walked .nil pass0 (pa_cons (pv 0) (pa_cons (pv 1) (pa_cons (pv 2) pa_nil)))) pe_non (nomark _)))))), ?_⟩
    refine ⟨_, rfl, l, rfl, hl, hw, fun H1 s1 => ⟨_, rfl, js, rfl, hjl, hj, fun H2 s2 => ?_⟩⟩
    have s12 := s1.trans s2
    refine ⟨_, rfl, _, rfl, _, rfl, l, js, v, o, rfl, hv.same s12, hl, hol, fun z H3 s3 => ?_, fun z m H3 hm s3 => ?_⟩
    · have q := k _ (s12.trans s3)
      rw [z] at q
      exact ⟨rfl, q⟩
    · have q := k _ (s12.trans s3)
      rw [z] at q
      exact ⟨rfl, q⟩
/-! passed -/
def sp_passed : Sp := fun vs H Q _ => ∃ (l js r : List Nat) (v : Addr), vs = [.str (S l), .str (S js), .ref v] ∧ H v = some (.lst (placesV r)) ∧ l.length ≤ 50000 ∧ wordB l = true ∧ js.length ≤ 50000 ∧ jointsB js = true ∧ r.length ≤ 50000 ∧ IsRoad js l r ∧ ∀ m H', H m = none → Same H H' → H' m = some (.lst (wordsV (pass l r))) → Q (.ref m) H'
theorem ok_passed (T : Txt K mg) : FnOk P w K mg base CX0 4 T.f_passed T.fd_passed P_passed (sp_passed) := by
  have nd : N_passed.Nodup := sc_passed.nd
  refine T.F_passed.ok sc_passed (fun vs H Q E h => ?_) (fun cdv A outer s H vs Q E hr h => ?_)
  · obtain ⟨l, js, r, v, rfl, _⟩ := h
    rfl
  · obtain ⟨l, js, r, v, rfl, hv, hl, hw, hjl, hj, hr2, ok, k⟩ := h
    refine ⟨_, (pss_cons (ps_expr (pe_call (ok_check_word T) (hr.mono (by decide)) rfl T.m_check_word T.F_check_word.kp T.b_check_word .nil pass0 (pa_cons (pv 0) pa_nil)))
      (pss_cons (ps_expr (pe_call (ok_check_joints T) (hr.mono (by decide)) rfl T.m_check_joints T.F_check_joints.kp T.b_check_joints .nil pass0 (pa_cons (pv 1) pa_nil)))
      (pss_cons (ps_set (i := 3) nd rfl (Or.inl rfl) (pe_call (ok__walked T) (hr.mono (by decide)) rfl T.m__walked T.F__walked.kp T.b__walked .nil pass0 (pa_cons (pv 0) (pa_cons (pv 1) (pa_cons (pv 2) pa_nil)))))
      (pss_cons (ps_if (pt_cmpR op_isN (pv 3) pe_non (nomark _)) pss_never pss_nil)
      (pss_one (ps_ret (pv 3))))))), ?_⟩
    refine ⟨_, rfl, l, rfl, hl, hw, fun H1 s1 => ⟨_, rfl, js, rfl, hjl, hj, fun H2 s2 => ?_⟩⟩
    have s12 := s1.trans s2
    refine ⟨_, rfl, _, rfl, _, rfl, l, js, r, v, rfl, s12 _ _ hv, hl, hr2, ok, fun m H3 hm s3 d3 => ?_⟩
    refine ⟨_, rfl, rfl, _, rfl, iteF ?_⟩
    exact ⟨_, rfl, k m H3 (s12.free hm) (s12.trans s3) d3⟩
/-! done -/
def sp_done : Sp := fun vs H Q _ => ∃ (l js r : List Nat) (v : Addr), vs = [.str (S l), .str (S js), .ref v] ∧ H v = some (.lst (placesV r)) ∧ l.length ≤ 50000 ∧ wordB l = true ∧ js.length ≤ 50000 ∧ jointsB js = true ∧ r.length ≤ 50000 ∧ IsRoad js l r ∧ ∀ H', Same H H' → Q (.str (S (ends l r))) H'
theorem ok_done (T : Txt K mg) : FnOk P w K mg base CX0 5 T.f_done T.fd_done P_done (sp_done) := by
  have nd : N_done.Nodup := sc_done.nd
  refine T.F_done.ok sc_done (fun vs H Q E h => ?_) (fun cdv A outer s H vs Q E hr h => ?_)
  · obtain ⟨l, js, r, v, rfl, _⟩ := h
    rfl
  · obtain ⟨l, js, r, v, rfl, hv, hl, hw, hjl, hj, hr2, ok, k⟩ := h
    refine ⟨_, (pss_one (ps_ret (pe_ix ix_list (pe_call (ok_passed T) (hr.mono (by decide)) rfl T.m_passed T.F_passed.kp T.b_passed .nil pass0 (pa_cons (pv 0) (pa_cons (pv 1) (pa_cons (pv 2) pa_nil)))) (pe_un un_neg pe_int) (fun _ _ => rfl)))), ?_⟩
    refine ⟨_, rfl, _, rfl, _, rfl, l, js, r, v, rfl, hv, hl, hw, hjl, hj, hr2, ok, fun m H1 hm s1 d1 => ?_⟩
    exact ⟨_, rfl, m, _, _, _, rfl, rfl, SqL.of d1, last_word rfl, k _ s1⟩
/-! _law_right -/
def sp__law_right (K : PySem.W.Frag) : Sp := fun vs H Q _ => ∃ (g : Addr) (b : Nat), vs = [.ref g] ∧ GenAt H g b ∧ b ≤ 100000 ∧ ∀ H', But g H H' → Q (.bl true) H'
theorem ok__law_right (T : Txt K mg) : FnC P w K mg base CX0 6 T.f__law_right T.fd__law_right P__law_right (sp__law_right K) := by
  have nd : N__law_right.Nodup := sc__law_right.nd
  refine okC T.F__law_right sc__law_right (fun vs H Q E h => ?_) (fun cdv A outer s H vs Q E hr hc h => ?_)
  · obtain ⟨g, b, rfl, _⟩ := h
    rfl
  · obtain ⟨g, b, rfl, G, hb, k⟩ := h
    refine ⟨_, (pss_cons (ps_set (i := 1) nd rfl (Or.inl rfl) (pe_call (ok__law_letters T) (hr.mono (by decide)) rfl T.m__law_letters T.F__law_letters.kp T.b__law_letters .nil pass0 (pa_cons (pv 0) (pa_cons pe_int (pa_cons pe_int pa_nil)))))
      (pss_cons (ps_set (i := 2) nd rfl (Or.inl rfl) (pe_call (ok__law_joints T) (hr.mono (by decide)) rfl T.m__law_joints T.F__law_joints.kp T.b__law_joints .nil pass0 (pa_cons (pv 0) (pa_cons (pv 1) pa_nil))))
      (pss_cons (ps_set (i := 3) nd rfl (Or.inr rfl) (pe_ix ix_list (pe_lst (pa_cons (pe_call (ok__law_random T) (hr.mono (by decide)) rfl T.m__law_random T.F__law_random.kp T.b__law_random .nil pass0 (pa_cons (pv 0) (pa_cons pe_int pa_nil))) (pa_cons (pe_call (ok__law_random T) (hr.mono (by decide)) rfl T.m__law_random T.F__law_random.kp T.b__law_random .nil pass0 (pa_cons (pv 0) (pa_cons pe_int pa_nil))) pa_nil))) (pe_call (ok__law_random T) (hr.mono (by decide)) rfl T.m__law_random T.F__law_random.kp T.b__law_random .nil pass0 (pa_cons (pv 0) (pa_cons pe_int pa_nil))) (fun _ _ => rfl)))
      (pss_cons (ps_set (i := 4) nd rfl (Or.inl rfl) (pe_call (ok__law_word T) (hr.mono (by decide)) rfl T.m__law_word T.F__law_word.kp T.b__law_word .nil pass0 (pa_cons (pv 0) (pa_cons (pv 1) (pa_cons (pv 3) pa_nil)))))
      (pss_cons (ps_set (i := 5) nd rfl (Or.inl rfl) (pe_call (ok__law_road T) (hr.mono (by decide)) rfl T.m__law_road T.F__law_road.kp T.b__law_road .nil pass0 (pa_cons (pv 0) (pa_cons (pv 4) (pa_cons (pv 2) (pa_cons (pe_ix ix_list (pe_lst (pa_cons (pe_call (ok__law_random T) (hr.mono (by decide)) rfl T.m__law_random T.F__law_random.kp T.b__law_random .nil pass0 (pa_cons (pv 0) (pa_cons pe_int pa_nil))) (pa_cons pe_int pa_nil))) (pe_call (ok__law_random T) (hr.mono (by decide)) rfl T.m__law_random T.F__law_random.kp T.b__law_random .nil pass0 (pa_cons (pv 0) (pa_cons pe_int pa_nil))) (fun _ _ => rfl)) pa_nil))))))
      (pss_cons (ps_par (i := 6) (j := 7) rfl nd rfl rfl (by decide) rfl rfl (pa_cons (pe_callTy call_list_of (by rfl) T.z_list (by decide +kernel) (pa_cons (pv 5) pa_nil)) (pa_cons (pe_call (ok__law_passed T) (hr.mono (by decide)) rfl T.m__law_passed T.F__law_passed.kp T.b__law_passed .nil pass0 (pa_cons (pv 4) (pa_cons (pv 2) (pa_cons (pv 5) pa_nil)))) pa_nil)) (by rfl))
      (pss_cons (ps_par (i := 8) (j := 9) rfl nd rfl rfl (by decide) rfl rfl (pa_cons (pe_call (ok_passed T) (hr.mono (by decide)) rfl T.m_passed T.F_passed.kp T.b_passed .nil pass0 (pa_cons (pv 4) (pa_cons (pv 2) (pa_cons (pv 5) pa_nil)))) (pa_cons (pe_ix ix_list (pv 7) (pe_op op_sub (pe_callB call_len_seq (by rfl) T.z_len (by decide +kernel) (pa_cons (pv 7) pa_nil)) pe_int) (fun _ _ => rfl)) pa_nil)) (by rfl))
      (pss_cons (ps_if (PW.pt (pw_or (pt_cmpR (op_neD hr.units) (pv 8) (pv 7) (nomark _)) (pw_or (pt_cmpR (op_neD hr.units) (pe_callN0 (ok_passed T) (hr.mono (by decide)) rfl T.m_passed T.F_passed.kp (kb_passed__0_road_joints_word T) pass0 (pk_cons (pv 5) (pk_cons (pv 2) (pk_cons (pv 4) pk_nil)))) (pv 7) (nomark _)) (pw_or1 (pt_cmpR op_ne (pe_call (ok_done T) (hr.mono (by decide)) rfl T.m_done T.F_done.kp T.b_done .nil pass0 (pa_cons (pv 4) (pa_cons (pv 2) (pa_cons (pv 5) pa_nil)))) (pv 9) (nomark _)))))) (pss_one (ps_ret pe_bl)) pss_nil)
      (pss_cons (ps_expr (pe_bm PySem.F.plainAttrs_list PySem.F.slot_list_append PySem.F.type_list_append mt_append (pv 8) (pa_cons pe_non pa_nil)))
      (pss_cons (ps_if (PW.pt (pw_or (pt_cmpR op_ne (pe_callN0 (ok_done T) (hr.mono (by decide)) rfl T.m_done T.F_done.kp (kb_done__0_road_word_joints T) pass0 (pk_cons (pv 5) (pk_cons (pv 4) (pk_cons (pv 2) pk_nil)))) (pv 9) (nomark _)) (pw_or (pt_cmpR (op_neD hr.units) (pe_call (ok_passed T) (hr.mono (by decide)) rfl T.m_passed T.F_passed.kp T.b_passed .nil pass0 (pa_cons (pv 4) (pa_cons (pv 2) (pa_cons (pv 5) pa_nil)))) (pv 7) (nomark _)) (pw_or1 (pt_cmpR (op_neD hr.units) (pv 5) (pv 6) (nomark _)))))) (pss_one (ps_ret pe_bl)) pss_nil)
      (pss_cons (ps_set (i := 10) nd rfl (Or.inl rfl) (pe_call (ok_back_road T) (hr.mono (by decide)) rfl T.m_back_road T.F_back_road.kp T.b_back_road .nil pass0 (pa_cons (pv 3) (pa_cons (pv 5) pa_nil))))
      (pss_cons (ps_if (PW.pt (pw_or (pt_cmpR (op_neD hr.units) (pv 10) (pe_lc (own := [("_law_place", 14)]) (hc := rfl) (hN := nd) (pi_list (pe_revS (pv 5) (pe_op op_sub pe_int pe_int))) (blkOk_by (N := N__law_right) (sc := defScope s__law_right) (by decide +kernel)) (fun _ _ _ _ _ => by exact (pg_name (i := 14) nd rfl (Or.inl rfl))) (fun _ _ _ _ _ => by exact pts_nil) (fun _ _ _ _ _ => by exact (pe_op op_sub (pe_op op_sub (pv 3) pe_int) (pv 14)))) (nomark _)) (pw_or1 (pt_cmpR (op_neD hr.units) (pe_callN0 (ok_back_road T) (hr.mono (by decide)) rfl T.m_back_road T.F_back_road.kp (kb_back_road__0_road_size T) pass0 (pk_cons (pv 5) (pk_cons (pv 3) pk_nil))) (pv 10) (nomark _))))) (pss_one (ps_ret pe_bl)) pss_nil)
      (pss_cons (ps_if (PW.pt (pw_or (pt_cmpR op_ne (pe_call (ok_done T) (hr.mono (by decide)) rfl T.m_done T.F_done.kp T.b_done .nil pass0 (pa_cons (pv 9) (pa_cons (pv 2) (pa_cons (pv 10) pa_nil)))) (pv 4) (nomark _)) (pw_or (pt_cmpR (op_neD hr.units) (pe_call (ok_back_road T) (hr.mono (by decide)) rfl T.m_back_road T.F_back_road.kp T.b_back_road .nil pass0 (pa_cons (pv 3) (pa_cons (pv 10) pa_nil))) (pv 5) (nomark _)) (pw_or1 (pt_cmpR (op_neD hr.units) (pv 5) (pv 6) (nomark _)))))) (pss_one (ps_ret pe_bl)) pss_nil)
      (pss_cons (ps_if (pt_cmpR (op_neD hr.units) (pe_call (ok_passed T) (hr.mono (by decide)) rfl T.m_passed T.F_passed.kp T.b_passed .nil pass0 (pa_cons (pv 9) (pa_cons (pv 2) (pa_cons (pv 10) pa_nil)))) (pe_revS (pv 7) (pe_op op_sub pe_int pe_int)) (nomark _)) (pss_one (ps_ret pe_bl)) pss_nil)
      (pss_cons (ps_set (i := 11) nd rfl (Or.inl rfl) (pe_call (ok__law_road T) (hr.mono (by decide)) rfl T.m__law_road T.F__law_road.kp T.b__law_road .nil pass0 (pa_cons (pv 0) (pa_cons (pv 9) (pa_cons (pv 2) (pa_cons pe_int pa_nil))))))
      (pss_cons (ps_if (pt_cmpR op_ne (pe_call (ok_done T) (hr.mono (by decide)) rfl T.m_done T.F_done.kp T.b_done .nil pass0 (pa_cons (pv 4) (pa_cons (pv 2) (pa_cons (pe_op op_cat (pv 5) (pv 11)) pa_nil)))) (pe_call (ok_done T) (hr.mono (by decide)) rfl T.m_done T.F_done.kp T.b_done .nil pass0 (pa_cons (pe_call (ok_done T) (hr.mono (by decide)) rfl T.m_done T.F_done.kp T.b_done .nil pass0 (pa_cons (pv 4) (pa_cons (pv 2) (pa_cons (pv 5) pa_nil)))) (pa_cons (pv 2) (pa_cons (pv 11) pa_nil)))) (nomark _)) (pss_one (ps_ret pe_bl)) pss_nil)
      (pss_cons (ps_for PassesOwn.never rfl (pi_list (pe_op op_cat (pe_lst (pa_cons (pv 5) (pa_cons (pe_lst pa_nil) pa_nil))) (pe_call (ok__law_bent T) (hr.mono (by decide)) rfl T.m__law_bent T.F__law_bent.kp T.b__law_bent .nil pass0 (pa_cons (pv 0) (pa_cons (pv 5) (pa_cons (pe_callB call_len (by rfl) T.z_len (by decide +kernel) (pa_cons (pv 4) pa_nil)) pa_nil)))))) (pg_name (i := 12) nd rfl (Or.inl rfl))
      (pss_cons (ps_par (i := 13) (j := 6) rfl nd rfl rfl (by decide) rfl rfl (pa_cons (pe_and (pe_callB call_isi (by rfl) T.z_isinstance (by decide +kernel) (pa_cons (pv 12) (pa_cons (pe_bltn (v := .ty "list") (by rfl) T.z_list (by decide +kernel) rfl) pa_nil))) (pe_one (pe_cmpR op_notN (pe_call (ok__law_passed T) (hr.mono (by decide)) rfl T.m__law_passed T.F__law_passed.kp T.b__law_passed .nil pass0 (pa_cons (pv 4) (pa_cons (pv 2) (pa_cons (pv 12) pa_nil)))) pe_non (nomark _)))) (pa_cons (pe_callB (call_reprV hc hr.units) (by rfl) T.z_repr (by decide +kernel) (pa_cons (pv 12) pa_nil)) pa_nil)) (by rfl))
      (pss_cons (ps_if (pt_not (pt_val (pe_call (ok__law_yes T) (hr.mono (by decide)) rfl T.m__law_yes T.F__law_yes.kp T.b__law_yes .nil pass0 (pa_cons (pe_call (ok_is_road T) (hr.mono (by decide)) rfl T.m_is_road T.F_is_road.kp T.b_is_road .nil pass0 (pa_cons (pv 4) (pa_cons (pv 2) (pa_cons (pv 12) pa_nil)))) (pa_cons (pv 13) pa_nil))))) (pss_one (ps_ret pe_bl)) pss_nil)
      (pss_one (ps_if (PW.pt (pw_or (pt_not (pt_val (pe_call (ok__law_yes T) (hr.mono (by decide)) rfl T.m__law_yes T.F__law_yes.kp T.b__law_yes .nil pass0 (pa_cons (pe_callN0 (ok_is_road T) (hr.mono (by decide)) rfl T.m_is_road T.F_is_road.kp (kb_is_road__0_value_word_joints T) pass0 (pk_cons (pv 12) (pk_cons (pv 4) (pk_cons (pv 2) pk_nil)))) (pa_cons (pv 13) pa_nil))))) (pw_or1 (pt_cmpR op_ne (pe_callB (call_reprV hc hr.units) (by rfl) T.z_repr (by decide +kernel) (pa_cons (pv 12) pa_nil)) (pv 6) (nomark _))))) (pss_one (ps_ret pe_bl)) pss_nil)))))
      (pss_one (ps_ret pe_bl))))))))))))))))))), ?_⟩
    refine ⟨_, rfl, g, 1, 5, b, rfl, G, by omega, by omega, by omega, fun l H1 l1 l2 hp hcc b1 G1 => ?_⟩
    refine ⟨_, rfl, _, rfl, g, l, b + 100, rfl, G1, by omega, by omega, fun js H2 hs b2 G2 => ?_⟩
    have hb2 : b + 100 + 10 * l.length ≤ 101000 := by omega
    generalize b + 100 + 10 * l.length = c3 at G2 hb2
    have hjp : js.Pairwise (· < ·) := hp.sublist hs
    have hjm : ∀ c ∈ js, 97 ≤ c ∧ c ≤ 122 := fun c h => hcc c (hs.subset h)
    have hj : jointsB js = true := jointsB_of hjp hjm
    have hjl : js.length ≤ 5 := by have := hs.length_le; omega
    -- size
    refine ⟨_, rfl, g, 7, c3, rfl, G2, by omega, by decide, by decide, fun ra H5 ra0 ra1 b5 G5 => ?_⟩
    refine ⟨_, rfl, g, 41, c3 + 10, rfl, G5, by omega, by decide, by decide, fun rb H6 rb0 rb1 b6 G6 => ?_⟩
    refine ⟨(by show 2 ≤ sizeLine; decide), fun p6 hp6 => ?_⟩
    have np6 : p6 ≠ g := G6.ne hp6
    refine ⟨_, rfl, g, 2, c3 + 10 + 10, rfl, G6.new hp6, by omega, by decide, by decide, fun rc H7 rc0 rc1 b7 G7 => ?_⟩
    obtain ⟨n', hn', hn2, _⟩ := pick2 (a := ra) (b := rb) rc0 rc1
    obtain ⟨n, rfl⟩ : ∃ n : Nat, n' = (n : Int) := ⟨n'.toNat, by omega⟩
    refine ⟨p6, _, _, _, rfl, rfl, SqL.of (b7 _ _ np6 upd_same), hn', ?_⟩
    have B7 : But g H H7 := b1.trans (b2.trans (b5.trans (b6.trans ((But.same (Same.upd hp6)).trans b7))))
    have hn300 : n ≤ 40 := by omega
    -- word
    refine ⟨_, rfl, _, rfl, _, rfl, g, l, n, c3 + 10 + 10 + 10, rfl, G7, by omega, by omega, by omega, by omega, fun ws H8 hlen hm b8 G8 => ?_⟩
    have hw : wordB ws = true := wordB_of fun c h => hcc c (hm c h)
    have hc4 : c3 + 10 + 10 + 10 + 10 * n ≤ 103000 := by omega
    generalize c3 + 10 + 10 + 10 + 10 * n = c4 at G8 hc4
    -- road
    show tSeq _ _ _ [some (V.ref g), some (V.str (S l)), some (V.str (S js)), some (V.int (n : Nat)), some (V.str (S ws)), none, none, none, none, none, none, none, none, none, none] _
    refine ⟨_, rfl, _, rfl, _, rfl, _, rfl, g, 6, c4, rfl, G8, by omega, by decide, by decide, fun rr H9 rr0 rr1 b9 G9 => ?_⟩
    refine ⟨(by show 2 ≤ sizeLine; decide), fun p9 hp9 => ?_⟩
    have np9 : p9 ≠ g := G9.ne hp9
    refine ⟨_, rfl, g, 2, c4 + 10, rfl, G9.new hp9, by omega, by decide, by decide, fun rs H10 rs0 rs1 b10 G10 => ?_⟩
    obtain ⟨n2', hn2', hn22, _⟩ := pick2 (a := rr) (b := 60) rs0 rs1
    obtain ⟨n2, rfl⟩ : ∃ n2 : Nat, n2' = (n2 : Int) := ⟨n2'.toNat, by omega⟩
    refine ⟨p9, _, _, _, rfl, rfl, SqL.of (b10 _ _ np9 upd_same), hn2', ?_⟩
    have hn60 : n2 ≤ 60 := by omega
    refine ⟨g, ws, js, n2, c4 + 10 + 10, rfl, G10, by omega, by omega, by omega, fun r v H11 rd hrl hv b11 G11 dv => ?_⟩
    have nvg : v ≠ g := G10.ne hv
    have B11 : But g H H11 := B7.trans (b8.trans (b9.trans ((But.same (Same.upd hp9)).trans (b10.trans b11))))
    have hc5 : c4 + 10 + 10 + 10 * n2 ≤ 104000 := by omega
    generalize c4 + 10 + 10 + 10 * n2 = c5 at G11 hc5
    have hrn : ∀ p ∈ r, p < n := fun p hp => by rw [← hlen]; exact road_lt rd p hp
    have hbs : ∀ p ∈ r, p ≤ 99999 := fun p hp => by have := hrn p hp; omega
    have hwl : ws.length ≤ 50000 := by omega
    have hpw : ∀ w ∈ pass ws r, wordB w = true := pass_words hw r
    -- kept, due
    show tSeq _ _ _ [some (V.ref g), some (V.str (S l)), some (V.str (S js)), some (V.int (n : Nat)), some (V.str (S ws)), some (V.ref v), none, none, none, none, none, none, none, none, none] _
    refine ⟨_, rfl, v, _, rfl, .inl (SqL.of dv), fun ke hke => ?_⟩
    have nkg : ke ≠ g := G11.ne hke
    have s12 := Same.upd (o := HO.lst (placesV r)) hke
    refine ⟨_, rfl, _, rfl, _, rfl, ws, js, v, placesV r, r.map (fun p : Nat => some (p : Int)), rfl, s12 _ _ dv, (Its.places (K := K) hbs).1, by omega, by rw [List.length_map]; omega, fun z => (by rw [walk_road rd] at z; cases z), fun _ m H13 hm13 s13 dm' => ?_⟩
    have dm : H13 m = some (.lst (wordsV (pass ws r))) := dm' r rfl
    have nmg : m ≠ g := (G11.same s12).ne hm13
    have F13 : FW H g v ke m r ws c5 H13 := ⟨s13 _ _ (s12 _ _ dv), s13 _ _ upd_same, dm, (G11.same s12).same s13, B11.trans ((But.same s12).trans (But.same s13))⟩
    -- told, last
    refine ⟨_, _, rfl, ?_⟩
    show tSeq _ _ _ [some (V.ref g), some (V.str (S l)), some (V.str (S js)), some (V.int (n : Nat)), some (V.str (S ws)), some (V.ref v), some (V.ref ke), some (V.ref m), none, none, none, none, none, none, none] _
    refine ⟨_, rfl, _, rfl, _, rfl, ws, js, r, v, rfl, F13.ro, hwl, hw, by omega, hj, by omega, rd, fun tl H14 htl s14 d14 => ?_⟩
    have F14 := F13.same s14
    refine ⟨_, rfl, _, rfl, m, _, rfl, .inl (SqL.of F14.du), _, _, rfl, rfl, m, _, _, _, rfl, rfl, SqL.of F14.du, last_len, _, _, rfl, ?_⟩
    show tSeq _ _ _ [some (V.ref g), some (V.str (S l)), some (V.str (S js)), some (V.int (n : Nat)), some (V.str (S ws)), some (V.ref v), some (V.ref ke), some (V.ref m), some (V.ref tl), some (V.str (S (ends ws r))), none, none, none, none, none] _
    refine ⟨_, rfl, _, rfl, ne_words hpw (SqL.of d14) (SqL.of F14.du) ⟨_, rfl, iteF ?_⟩⟩
    refine ⟨_, rfl, _, rfl, _, rfl, rfl, rfl, ws, js, r, v, rfl, F14.ro, hwl, hw, by omega, hj, by omega, rd, fun tl2 H15 htl2 s15 d15 => ?_⟩
    have F15 := F14.same s15
    refine ⟨_, rfl, ne_words hpw (SqL.of d15) (SqL.of F15.du) ⟨_, rfl, iteF ?_⟩⟩
    refine ⟨_, rfl, _, rfl, _, rfl, ws, js, r, v, rfl, F15.ro, hwl, hw, by omega, hj, by omega, rd, fun H16 s16 => ?_⟩
    refine ⟨_, rfl, rfl, _, rfl, iteNS rfl ?_⟩
    -- told.append(None)
    refine ⟨_, rfl, .inl ⟨rfl, _, SqL.of (s16 _ _ (s15 _ _ d14))⟩, tl, _, _, rfl, rfl, s16 _ _ (s15 _ _ d14), (by rw [List.length_map, pass_len]; exact small_line (by omega)), ?_⟩
    have F17 : FW H g v ke m r ws c5 (upd H16 tl (.lst (wordsV (pass ws r) ++ [V.non]))) := F13.same (Same.updF ((s14.trans s15).trans s16) htl)
    generalize upd H16 tl (.lst (wordsV (pass ws r) ++ [V.non])) = H17 at F17
    show tSeq _ _ _ [some (V.ref g), some (V.str (S l)), some (V.str (S js)), some (V.int (n : Nat)), some (V.str (S ws)), some (V.ref v), some (V.ref ke), some (V.ref m), some (V.ref tl), some (V.str (S (ends ws r))), none, none, none, none, none] _
    refine ⟨_, rfl, _, rfl, _, rfl, rfl, rfl, ws, js, r, v, rfl, F17.ro, hwl, hw, by omega, hj, by omega, rd, fun H18 s18 => ?_⟩
    refine ⟨_, rfl, rfl, _, rfl, iteNS rfl ?_⟩
    have F18 := F17.same s18
    refine ⟨_, rfl, _, rfl, _, rfl, ws, js, r, v, rfl, F18.ro, hwl, hw, by omega, hj, by omega, rd, fun tl3 H19 htl3 s19 d19 => ?_⟩
    have F19 := F18.same s19
    refine ⟨_, rfl, ne_words hpw (SqL.of d19) (SqL.of F19.du) ⟨_, rfl, iteF ?_⟩⟩
    refine ⟨_, rfl, _, rfl, ne_places (SqL.of F19.ro) (SqL.of F19.ke) ⟨_, rfl, iteF ?_⟩⟩
    -- back
    show tSeq _ _ _ [some (V.ref g), some (V.str (S l)), some (V.str (S js)), some (V.int (n : Nat)), some (V.str (S ws)), some (V.ref v), some (V.ref ke), some (V.ref m), some (V.ref tl), some (V.str (S (ends ws r))), none, none, none, none, none] _
    refine ⟨_, rfl, _, rfl, n, r, v, rfl, F19.ro, by omega, hrn, by omega, fun bk H20 hbk s20 d20 => ?_⟩
    have F20 := F19.same s20
    have hbr : IsRoad js (ends ws r) (backL n r) := by have := back_road rd; rw [hlen] at this; exact this
    have hel2 : (ends ws r).length = n := by rw [ends_len (road_lt rd), hlen]
    have hbrn : ∀ p ∈ backL n r, p < n := fun p hp => by rw [← hel2]; exact road_lt hbr p hp
    have hbl : (backL n r).length = r.length := by unfold backL; rw [List.length_map, List.length_reverse]
    have hwe : wordB (ends ws r) = true := wordB_of fun c h => wordB_mem hw (ends_mem h)
    have hbe : ends (ends ws r) (backL n r) = ws := by have := back_ends (road_lt rd); rw [hlen] at this; exact this
    show tSeq _ _ _ [some (V.ref g), some (V.str (S l)), some (V.str (S js)), some (V.int (n : Nat)), some (V.str (S ws)), some (V.ref v), some (V.ref ke), some (V.ref m), some (V.ref tl), some (V.str (S (ends ws r))), some (V.ref bk), none, none, none, none] _
    refine ⟨_, rfl, _, rfl, v, _, rfl, _, _, rfl, rfl, _, rfl, rfl, SqL.of F20.ro, fun p1 n1 => ?_⟩
    have hrev : (placesV r).reverse = placesV r.reverse := by simp [placesV]
    rw [hrev]
    refine ⟨p1, rfl, ⟨_, SqL.of upd_same⟩, fun D hD => ?_⟩
    have s21 := Same.upd (o := HO.lst (placesV r.reverse)) n1
    refine lc_it walk_list (fun i H' => Same (upd H20 p1 (.lst (placesV r.reverse))) H' ∧ H' D = some (.lst (placesV ((backL n r).take i)))) ⟨Same.upd hD, upd_same⟩ (fun i H' _ ⟨s, _⟩ => SqL.of (s _ _ upd_same)) ?_ ?_
    · rintro i x H21 H22 hi ⟨s22, d22⟩ ⟨rfl, hx⟩
      obtain ⟨p, hq, rfl⟩ := place_of hx
      have hpn := hrn p (List.mem_reverse.mp (List.mem_of_getElem? hq))
      have hb : (backL n r)[i]? = some (n - 1 - p) := by
        unfold backL
        rw [List.getElem?_map, hq]
        rfl
      have hil : i < (backL n r).length := (List.getElem?_eq_some_iff.mp hb).1
      refine ⟨rfl, _, rfl, _, _, rfl, rfl, _, rfl, _, _, rfl, rfl, ?_⟩
      refine ⟨_, d22, ?_, fun b o e => ?_, ?_⟩
      · rw [List.length_map, List.length_take]; exact small_line (by omega)
      · rw [upd_ne (ne_of_none e hD)]; exact s22 b o e
      · rw [upd_same, take_snoc hb]
        have e : ((n : Int) - 1 - (p : Int)) = ((n - 1 - p : Nat) : Int) := by omega
        simp [placesV, e]
    rintro H22 ⟨s22, d22⟩
    rw [List.length_map, List.length_reverse, show (backL n r).take r.length = backL n r from List.take_of_length_le (by omega)] at d22
    have S22 := s21.trans s22
    have F22 := F20.same S22
    refine ne_places (SqL.of (S22 _ _ d20)) (SqL.of d22) ⟨_, rfl, iteF ?_⟩
    refine ⟨_, rfl, _, rfl, rfl, rfl, n, r, v, rfl, F22.ro, by omega, hrn, by omega, fun bk2 H23 hbk2 s23 d23 => ?_⟩
    have F23 := F22.same s23
    have b23 := s23 _ _ (S22 _ _ d20)
    refine ⟨_, rfl, ne_places (SqL.of d23) (SqL.of b23) ⟨_, rfl, iteF ?_⟩⟩
    -- done of the road back
    refine ⟨_, rfl, _, rfl, _, rfl, ends ws r, js, backL n r, bk, rfl, b23, by omega, hwe, by omega, hj, by omega, hbr, fun H24 s24 => ?_⟩
    rw [hbe]
    refine ⟨_, rfl, rfl, _, rfl, iteNS rfl ?_⟩
    have F24 := F23.same s24
    have b24 := s24 _ _ b23
    refine ⟨_, rfl, _, rfl, n, backL n r, bk, rfl, b24, by omega, hbrn, by omega, fun bk3 H25 hbk3 s25 d25 => ?_⟩
    have F25 := F24.same s25
    have b25 := s25 _ _ b24
    rw [back_back hrn] at d25
    refine ⟨_, rfl, ne_places (SqL.of d25) (SqL.of F25.ro) ⟨_, rfl, iteF ?_⟩⟩
    refine ⟨_, rfl, _, rfl, ne_places (SqL.of F25.ro) (SqL.of F25.ke) ⟨_, rfl, iteF ?_⟩⟩
    -- passed of the road back
    refine ⟨_, rfl, _, rfl, _, rfl, ends ws r, js, backL n r, bk, rfl, b25, by omega, hwe, by omega, hj, by omega, hbr, fun tb H26 htb s26 d26 => ?_⟩
    rw [pass_back hlen hrn] at d26
    have F26 := F25.same s26
    have b26 := s26 _ _ b25
    refine ⟨_, rfl, m, _, rfl, _, _, rfl, rfl, _, rfl, rfl, SqL.of F26.du, fun p2 n2 => ?_⟩
    have hrev2 : (wordsV (pass ws r)).reverse = wordsV (pass ws r).reverse := by simp [wordsV]
    rw [hrev2]
    refine ne_words (ws := (pass ws r).reverse) (fun w hw => hpw w (List.mem_reverse.mp hw)) (SqL.of (Same.upd n2 _ _ d26)) (SqL.of upd_same) ⟨_, rfl, iteF ?_⟩
    have F27 := F26.same (Same.upd (o := HO.lst (wordsV (pass ws r).reverse)) n2)
    generalize upd H26 p2 (.lst (wordsV (pass ws r).reverse)) = H27 at F27
    -- more
    show tSeq _ _ _ [some (V.ref g), some (V.str (S l)), some (V.str (S js)), some (V.int (n : Nat)), some (V.str (S ws)), some (V.ref v), some (V.ref ke), some (V.ref m), some (V.ref tl), some (V.str (S (ends ws r))), some (V.ref bk), none, none, none, none] _
    refine ⟨_, rfl, _, rfl, _, rfl, g, ends ws r, js, 4, c5, rfl, F27.G, by omega, by omega, by omega, fun r2 v2 H28 rd2 hr2l hv2 b28 G28 dv2 => ?_⟩
    have F28 := F27.but nvg nkg nmg b28 G28
    show tSeq _ _ _ [some (V.ref g), some (V.str (S l)), some (V.str (S js)), some (V.int (n : Nat)), some (V.str (S ws)), some (V.ref v), some (V.ref ke), some (V.ref m), some (V.ref tl), some (V.str (S (ends ws r))), some (V.ref bk), some (V.ref v2), none, none, none] _
    refine ⟨_, rfl, _, rfl, _, rfl, _, rfl, v, v2, _, _, rfl, rfl, F28.ro, dv2, ?_, fun c hcn => ?_⟩
    · rw [List.length_map, List.length_map]; exact small_le (by omega)
    have F29 := F28.same (Same.upd (o := HO.lst (placesV r ++ placesV r2)) hcn)
    have dv29 := Same.upd (o := HO.lst (placesV r ++ placesV r2)) hcn _ _ dv2
    refine ⟨ws, js, r ++ r2, c, rfl, upd_same.trans (by simp [placesV]), hwl, hw, by omega, hj, by rw [List.length_append]; omega, road_append.mpr ⟨rd, rd2⟩, fun H30 s30 => ?_⟩
    have F30 := F29.same s30
    have dv30 := s30 _ _ dv29
    refine ⟨_, rfl, _, rfl, _, rfl, ws, js, r, v, rfl, F30.ro, hwl, hw, by omega, hj, by omega, rd, fun H31 s31 => ?_⟩
    have F31 := F30.same s31
    have dv31 := s31 _ _ dv30
    refine ⟨_, rfl, _, rfl, ends ws r, js, r2, v2, rfl, dv31, by omega, hwe, by omega, hj, by omega, rd2, fun H32 s32 => ?_⟩
    refine ⟨rfl, _, rfl, iteNS (by rw [ends_append]) ?_⟩
    have F32 := F31.same s32
    -- values of all kinds
    show tSeq _ _ _ [some (V.ref g), some (V.str (S l)), some (V.str (S js)), some (V.int (n : Nat)), some (V.str (S ws)), some (V.ref v), some (V.ref ke), some (V.ref m), some (V.ref tl), some (V.str (S (ends ws r))), some (V.ref bk), some (V.ref v2), none, none, none] _
    refine ⟨_, rfl, (by show 0 ≤ sizeLine; decide), fun e1 he1 => ⟨(by show 2 ≤ sizeLine; decide), fun L hL => ?_⟩⟩
    have F33 := F32.same ((Same.upd (o := HO.lst []) he1).trans (Same.upd (o := HO.lst [V.ref v, V.ref e1]) hL))
    have nLg : L ≠ g := (F32.G.same (Same.upd (o := HO.lst []) he1)).ne hL
    have neg1 : e1 ≠ g := F32.G.ne he1
    have dL : (upd (upd H32 e1 (.lst [])) L (.lst [V.ref v, V.ref e1])) L = some (.lst [V.ref v, V.ref e1]) := upd_same
    have de : (upd (upd H32 e1 (.lst [])) L (.lst [V.ref v, V.ref e1])) e1 = some (.lst []) := Same.upd hL _ _ upd_same
    generalize upd (upd H32 e1 (.lst [])) L (.lst [V.ref v, V.ref e1]) = H33 at F33 dL de
    refine ⟨_, rfl, _, rfl, _, rfl, _, n, rfl, ⟨by rw [len_S]; exact small_le (by omega), by rw [len_S, hlen]⟩, g, v, r, n, _, rfl, F33.G, by omega, F33.ro, nvg, by omega, by omega, hrn, fun mb us H34 hmb b34 G34 d34 hul hus => ?_⟩
    have F34 := F33.but nvg nkg nmg b34 G34
    have dL34 := b34 _ _ nLg dL
    have de34 := b34 _ _ neg1 de
    refine ⟨L, mb, _, _, rfl, rfl, dL34, d34, ?_, fun pl hpl => ?_⟩
    · exact small_le (by simp; omega)
    have s35 := Same.upd (o := HO.lst ([V.ref v, V.ref e1] ++ us)) hpl
    have F35 := F34.same s35
    have dp : (upd H34 pl (.lst ([V.ref v, V.ref e1] ++ us))) pl = some (.lst ([V.ref v, V.ref e1] ++ us)) := upd_same
    have fine : ∀ u ∈ [V.ref v, V.ref e1] ++ us, Fine K (upd H34 pl (.lst ([V.ref v, V.ref e1] ++ us))) u := by
      intro u hu
      rcases List.mem_append.mp hu with hu | hu
      · simp only [List.mem_cons, List.not_mem_nil, or_false] at hu
        rcases hu with rfl | rfl
        · exact Fine.lst (Its.places hbs) (by rw [List.length_map]; omega) F35.ro
        · exact Fine.lst Its.nil (by simp) (s35 _ _ de34)
      · exact (hus u hu).same s35
    generalize upd H34 pl (.lst ([V.ref v, V.ref e1] ++ us)) = H35 at F35 dp fine
    refine ⟨pl, rfl, ⟨_, SqL.of dp⟩, for_list (K := K) (a := pl) (xs := [V.ref v, V.ref e1] ++ us) (fun i σ H' => ∃ (k1 k2 k3 : Option V), σ = [some (V.ref g), some (V.str (S l)), some (V.str (S js)), some (V.int (n : Nat)), some (V.str (S ws)), some (V.ref v), k1, some (V.ref m), some (V.ref tl), some (V.str (S (ends ws r))), some (V.ref bk), some (V.ref v2), k2, k3, none] ∧ Same H35 H') ⟨_, _, _, rfl, fun _ _ e => e⟩ (fun i σ H' _ ⟨_, _, _, _, s⟩ => SqL.of (s _ _ dp)) ?_ ?_⟩
    · rintro i y σ H36 hi ⟨k1, k2, k3, rfl, s36⟩
      obtain ⟨o, t, hv, hrp, hol⟩ := (fine y (List.mem_of_getElem? hi)).same s36
      refine and_then (b := o.isSome) (c := roadB js ws o) (fun Q' q' => ?_) (fun hb q' => ?_) (fun hb => ?_) (fun H37 s37 => ?_)
      · exact ⟨_, rfl, isi_list hv q'⟩
      · cases hv with
        | lst ht hx =>
          refine ⟨_, rfl, _, rfl, _, rfl, ws, js, _, _, _, rfl, ht, hx, hwl, hol _ rfl, fun z H' s => ⟨rfl, ?_⟩, fun z m' H' hm' s _ => ⟨rfl, ?_⟩⟩
          · have := q' H' s
            rw [show roadB js ws (some _) = false from z] at this
            exact this
          · have := q' H' s
            rw [show roadB js ws (some _) = true from z] at this
            exact this
        | tup _ => cases hb
        | dic _ => cases hb
        | int _ => cases hb
        | bl _ => cases hb
        | non => cases hb
        | str _ => cases hb
      · cases o with
        | none => rfl
        | some _ => cases hb
      have hv37 := hv.same s37
      have hrp37 := hrp.same s37
      refine ⟨_, rfl, y, t, rfl, hrp37, _, _, rfl, ?_⟩
      refine ⟨_, rfl, _, rfl, _, rfl, ws, js, y, o, rfl, hv37, hwl, hw, by omega, hj, hol, fun H38 s38 => ?_⟩
      refine ⟨_, rfl, roadB js ws o, rfl, _, rfl, iteF ?_⟩
      refine ⟨_, rfl, _, rfl, _, rfl, rfl, rfl, ws, js, y, o, rfl, hv37.same s38, hwl, hw, by omega, hj, hol, fun H39 s39 => ?_⟩
      refine ⟨_, rfl, roadB js ws o, rfl, _, rfl, iteF ?_⟩
      refine ⟨_, rfl, y, t, rfl, (hrp37.same s38).same s39, _, rfl, rfl, _, rfl, iteNS rfl ?_⟩
      exact ⟨_, _, _, rfl, s36.trans (s37.trans (s38.trans s39))⟩
    rintro σ H36 ⟨k1, k2, k3, rfl, s36⟩
    exact k _ (F35.B.trans (But.same s36))
/-! law -/
def sp_law (K : PySem.W.Frag) : Sp := fun vs H Q _ => ∃ (a : Addr) (ns : List Int), vs = [.ref a] ∧ SqL K H a (ns.map V.int) ∧ ns.length ≤ 63 ∧ ∀ H', Q (.bl true) H'
theorem ok_law (T : Txt K mg) : FnC P w K mg base CX0 8 T.f_law T.fd_law P_law (sp_law K) := by
  have nd : N_law.Nodup := sc_law.nd
  refine okC T.F_law sc_law (fun vs H Q E h => ?_) (fun cdv A outer s H vs Q E hr hc h => ?_)
  · obtain ⟨a, ns, rfl, _⟩ := h
    rfl
  · obtain ⟨a, ns, rfl, hS, hlen, k⟩ := h
    refine ⟨_, (pss_cons (ps_for PassesOwn.never rfl (pi_range1 rfl T.z_range (pa_cons pe_int pa_nil)) (pg_name (i := 1) nd rfl (Or.inl rfl))
      (pss_one (ps_if (pt_not (pt_val (pe_callC (ok__law_right T) (hr.mono (by decide)) hc rfl T.m__law_right T.F__law_right.kp T.b__law_right .nil pass0 (pa_cons (pe_call (ok__law_generator T) (hr.mono (by decide)) rfl T.m__law_generator T.F__law_generator.kp T.b__law_generator .nil pass0 (pa_cons (pv 0) (pa_cons (pv 1) pa_nil))) pa_nil)))) (pss_one (ps_ret pe_bl)) pss_nil)))
      (pss_cons (ps_if (PW.pt (pw_or (pt_cmpR (op_neD hr.units) (pe_call (ok_passed T) (hr.mono (by decide)) rfl T.m_passed T.F_passed.kp T.b_passed .nil pass0 (pa_cons pe_str (pa_cons pe_str (pa_cons (pe_lst pa_nil) pa_nil)))) (pe_lst (pa_cons pe_str pa_nil)) (nomark _)) (pw_or (pt_cmpR (op_neD hr.units) (pe_call (ok_back_road T) (hr.mono (by decide)) rfl T.m_back_road T.F_back_road.kp T.b_back_road .nil pass0 (pa_cons pe_int (pa_cons (pe_lst pa_nil) pa_nil))) (pe_lst pa_nil) (nomark _)) (pw_or1 (pt_cmpR (op_neD hr.units) (pe_call (ok_back_road T) (hr.mono (by decide)) rfl T.m_back_road T.F_back_road.kp T.b_back_road .nil pass0 (pa_cons pe_int (pa_cons (pe_lst (pa_cons pe_int (pa_cons pe_int pa_nil))) pa_nil))) (pe_lst (pa_cons pe_int (pa_cons pe_int pa_nil))) (nomark _)))))) (pss_one (ps_ret pe_bl)) pss_nil)
      (pss_one (ps_ret (pe_cmpR op_eq (pe_call (ok_done T) (hr.mono (by decide)) rfl T.m_done T.F_done.kp T.b_done .nil pass0 (pa_cons pe_str (pa_cons pe_str (pa_cons (pe_op op_rep (pe_lst (pa_cons pe_int pa_nil)) pe_int) pa_nil)))) pe_str (nomark _)))))), ?_⟩
    refine ⟨3, rfl, by decide, by decide, ?_⟩
    refine for_range (lo := 0) (n := 3) (fun i σ H' => ∃ v : Option V, σ = [some (.ref a), v] ∧ SqL K H' a (ns.map V.int)) ⟨none, rfl, hS⟩ ?_ ?_
    · rintro i σ H1 hi ⟨v, rfl, hS1⟩
      refine ⟨_, rfl, _, rfl, a, ns, i, (by rw [Int.zero_add]; rfl), hS1, by omega, fun g H2 hg s2 G => ?_⟩
      refine ⟨g, 1000 * i, rfl, G, by omega, fun H3 b3 => ⟨_, rfl, iteF ?_⟩⟩
      exact ⟨_, rfl, (b3.after s2 hg).seq hS1⟩
    rintro σ H1 ⟨v, rfl, hS1⟩
    refine ⟨(by show 0 ≤ sizeLine; decide), fun p hp => ?_⟩
    refine ⟨[], [120], [], p, rfl, upd_same, by decide, by decide, by decide, by decide, by decide, trivial, fun m H2 hm s2 d2 => ?_⟩
    refine ⟨(by show 1 ≤ sizeLine; decide), fun q hq => ?_⟩
    refine ne_words (ws := [[]]) (fun w hw => by rw [List.mem_singleton.mp hw]; rfl) (SqL.of (Same.upd hq _ _ d2)) (SqL.of upd_same) ⟨_, rfl, iteF ?_⟩
    refine ⟨(by show 0 ≤ sizeLine; decide), fun p2 hp2 => ?_⟩
    refine ⟨0, [], p2, rfl, upd_same, by decide, (fun p h => nomatch h), by decide, fun m2 H3 hm2 s3 d3 => ?_⟩
    refine ⟨(by show 0 ≤ sizeLine; decide), fun q2 hq2 => ?_⟩
    refine ne_places (ns := []) (SqL.of (Same.upd hq2 _ _ d3)) (SqL.of upd_same) ⟨_, rfl, iteF ?_⟩
    refine ⟨(by show 2 ≤ sizeLine; decide), fun p4 hp4 => ?_⟩
    refine ⟨300, [0, 299], p4, rfl, upd_same, by decide, by decide, by decide, fun m4 H5 hm4 s5 d5 => ?_⟩
    refine ⟨(by show 2 ≤ sizeLine; decide), fun q5 hq5 => ?_⟩
    refine ne_places (ns := [0, 299]) (SqL.of (Same.upd hq5 _ _ d5)) (SqL.of upd_same) ⟨_, rfl, iteF ?_⟩
    refine ⟨(by show 1 ≤ sizeLine; decide), fun p6 hp6 => ?_⟩
    refine ⟨p6, _, _, rfl, rfl, upd_same, by decide, by decide, (by show 1 * 1000 ≤ sizeLine; decide), fun p7 hp7 => ?_⟩
    refine ⟨[120], [120], List.replicate 1000 0, p7, rfl, upd_same.trans (congrArg (fun x => some (HO.lst x)) (by decide +kernel : (List.replicate (1000 : Int).toNat [V.int 0]).flatten = placesV (List.replicate 1000 0))), by decide, by decide, by decide, by decide, by rw [List.length_replicate]; decide, walk_zeros 1000, fun H8 s8 => ?_⟩
    rw [ends_zeros]
    exact ⟨rfl, k _⟩
end
theorem all_mk {l : PySem.W.OpenLaw} {w : World} {K : PySem.W.Frag} {h : Heap} {mg : Str → Option Value} {fa : Addr} (X : K.In h) (G : h.Ns mainGlobals mg) (hfa : mg "law" = some (.ref fa))
    {f_is_word : Addr} {od_is_word an_is_word : Option Addr} {sl_is_word : Array (Option Value)} {oc_is_word kV_is_word dc_is_word pm_is_word cd_is_word ct_is_word : Value}
    {f_is_count : Addr} {od_is_count an_is_count : Option Addr} {sl_is_count : Array (Option Value)} {oc_is_count kV_is_count dc_is_count pm_is_count cd_is_count ct_is_count : Value}
    {f__ascends : Addr} {od__ascends an__ascends : Option Addr} {sl__ascends : Array (Option Value)} {oc__ascends kV__ascends dc__ascends pm__ascends cd__ascends ct__ascends : Value}
    {f_sides_changed : Addr} {od_sides_changed an_sides_changed : Option Addr} {sl_sides_changed : Array (Option Value)} {oc_sides_changed kV_sides_changed dc_sides_changed pm_sides_changed cd_sides_changed ct_sides_changed : Value}
    {f__law_hash : Addr} {od__law_hash an__law_hash : Option Addr} {sl__law_hash : Array (Option Value)} {oc__law_hash kV__law_hash dc__law_hash pm__law_hash cd__law_hash ct__law_hash : Value}
    {f__law_cell : Addr} {od__law_cell an__law_cell : Option Addr} {sl__law_cell : Array (Option Value)} {oc__law_cell kV__law_cell dc__law_cell pm__law_cell cd__law_cell ct__law_cell : Value}
    {f__law_yes : Addr} {od__law_yes an__law_yes : Option Addr} {sl__law_yes : Array (Option Value)} {oc__law_yes kV__law_yes dc__law_yes pm__law_yes cd__law_yes ct__law_yes : Value}
    {f__law_swapped : Addr} {od__law_swapped an__law_swapped : Option Addr} {sl__law_swapped : Array (Option Value)} {oc__law_swapped kV__law_swapped dc__law_swapped pm__law_swapped cd__law_swapped ct__law_swapped : Value}
    {f_is_joints : Addr} {od_is_joints an_is_joints : Option Addr} {sl_is_joints : Array (Option Value)} {oc_is_joints kV_is_joints dc_is_joints pm_is_joints cd_is_joints ct_is_joints : Value}
    {f_check_word : Addr} {od_check_word an_check_word : Option Addr} {sl_check_word : Array (Option Value)} {oc_check_word kV_check_word dc_check_word pm_check_word cd_check_word ct_check_word : Value}
    {f__is_open : Addr} {od__is_open an__is_open : Option Addr} {sl__is_open : Array (Option Value)} {oc__is_open kV__is_open dc__is_open pm__is_open cd__is_open ct__is_open : Value}
    {f_back_road : Addr} {od_back_road an_back_road : Option Addr} {sl_back_road : Array (Option Value)} {oc_back_road kV_back_road dc_back_road pm_back_road cd_back_road ct_back_road : Value}
    {f__law_random : Addr} {od__law_random an__law_random : Option Addr} {sl__law_random : Array (Option Value)} {oc__law_random kV__law_random dc__law_random pm__law_random cd__law_random ct__law_random : Value}
    {f__law_generator : Addr} {od__law_generator an__law_generator : Option Addr} {sl__law_generator : Array (Option Value)} {oc__law_generator kV__law_generator dc__law_generator pm__law_generator cd__law_generator ct__law_generator : Value}
    {f__law_passed : Addr} {od__law_passed an__law_passed : Option Addr} {sl__law_passed : Array (Option Value)} {oc__law_passed kV__law_passed dc__law_passed pm__law_passed cd__law_passed ct__law_passed : Value}
    {f_check_joints : Addr} {od_check_joints an_check_joints : Option Addr} {sl_check_joints : Array (Option Value)} {oc_check_joints kV_check_joints dc_check_joints pm_check_joints cd_check_joints ct_check_joints : Value}
    {f__walked : Addr} {od__walked an__walked : Option Addr} {sl__walked : Array (Option Value)} {oc__walked kV__walked dc__walked pm__walked cd__walked ct__walked : Value}
    {f__law_word : Addr} {od__law_word an__law_word : Option Addr} {sl__law_word : Array (Option Value)} {oc__law_word kV__law_word dc__law_word pm__law_word cd__law_word ct__law_word : Value}
    {f__law_letters : Addr} {od__law_letters an__law_letters : Option Addr} {sl__law_letters : Array (Option Value)} {oc__law_letters kV__law_letters dc__law_letters pm__law_letters cd__law_letters ct__law_letters : Value}
    {f__law_joints : Addr} {od__law_joints an__law_joints : Option Addr} {sl__law_joints : Array (Option Value)} {oc__law_joints kV__law_joints dc__law_joints pm__law_joints cd__law_joints ct__law_joints : Value}
    {f__law_road : Addr} {od__law_road an__law_road : Option Addr} {sl__law_road : Array (Option Value)} {oc__law_road kV__law_road dc__law_road pm__law_road cd__law_road ct__law_road : Value}
    {f__law_bent : Addr} {od__law_bent an__law_bent : Option Addr} {sl__law_bent : Array (Option Value)} {oc__law_bent kV__law_bent dc__law_bent pm__law_bent cd__law_bent ct__law_bent : Value}
    {f_is_road : Addr} {od_is_road an_is_road : Option Addr} {sl_is_road : Array (Option Value)} {oc_is_road kV_is_road dc_is_road pm_is_road cd_is_road ct_is_road : Value}
    {f_passed : Addr} {od_passed an_passed : Option Addr} {sl_passed : Array (Option Value)} {oc_passed kV_passed dc_passed pm_passed cd_passed ct_passed : Value}
    {f_done : Addr} {od_done an_done : Option Addr} {sl_done : Array (Option Value)} {oc_done kV_done dc_done pm_done cd_done ct_done : Value}
    {f__law_right : Addr} {od__law_right an__law_right : Option Addr} {sl__law_right : Array (Option Value)} {oc__law_right kV__law_right dc__law_right pm__law_right cd__law_right ct__law_right : Value}
    {f_law : Addr} {od_law an_law : Option Addr} {sl_law : Array (Option Value)} {oc_law kV_law dc_law pm_law cd_law ct_law : Value}
    (a_is_word : PySem.W.nsIn K mainGlobals "is_word" = some (some (.ref f_is_word))) (l_is_word : K.lookup f_is_word = some ⟨oc_is_word, od_is_word, .func (PySem.W.fnOf "is_word" "is_word" (defArgs s_is_word) (defBody s_is_word) (defScope s_is_word) .none kV_is_word dc_is_word pm_is_word an_is_word cd_is_word ct_is_word), sl_is_word⟩) (c_is_word : PySem.W.codeIn K cd_is_word "is_word" = true) (k_is_word : PySem.W.keepIn K (.ref f_is_word) = true)
    (a_is_count : PySem.W.nsIn K mainGlobals "is_count" = some (some (.ref f_is_count))) (l_is_count : K.lookup f_is_count = some ⟨oc_is_count, od_is_count, .func (PySem.W.fnOf "is_count" "is_count" (defArgs s_is_count) (defBody s_is_count) (defScope s_is_count) .none kV_is_count dc_is_count pm_is_count an_is_count cd_is_count ct_is_count), sl_is_count⟩) (c_is_count : PySem.W.codeIn K cd_is_count "is_count" = true) (k_is_count : PySem.W.keepIn K (.ref f_is_count) = true)
    (a__ascends : PySem.W.nsIn K mainGlobals "_ascends" = some (some (.ref f__ascends))) (l__ascends : K.lookup f__ascends = some ⟨oc__ascends, od__ascends, .func (PySem.W.fnOf "_ascends" "_ascends" (defArgs s__ascends) (defBody s__ascends) (defScope s__ascends) .none kV__ascends dc__ascends pm__ascends an__ascends cd__ascends ct__ascends), sl__ascends⟩) (c__ascends : PySem.W.codeIn K cd__ascends "_ascends" = true) (k__ascends : PySem.W.keepIn K (.ref f__ascends) = true)
    (a_sides_changed : PySem.W.nsIn K mainGlobals "sides_changed" = some (some (.ref f_sides_changed))) (l_sides_changed : K.lookup f_sides_changed = some ⟨oc_sides_changed, od_sides_changed, .func (PySem.W.fnOf "sides_changed" "sides_changed" (defArgs s_sides_changed) (defBody s_sides_changed) (defScope s_sides_changed) .none kV_sides_changed dc_sides_changed pm_sides_changed an_sides_changed cd_sides_changed ct_sides_changed), sl_sides_changed⟩) (c_sides_changed : PySem.W.codeIn K cd_sides_changed "sides_changed" = true) (k_sides_changed : PySem.W.keepIn K (.ref f_sides_changed) = true)
    (a__law_hash : PySem.W.nsIn K mainGlobals "_law_hash" = some (some (.ref f__law_hash))) (l__law_hash : K.lookup f__law_hash = some ⟨oc__law_hash, od__law_hash, .func (PySem.W.fnOf "_law_hash" "_law_hash" (defArgs s__law_hash) (defBody s__law_hash) (defScope s__law_hash) .none kV__law_hash dc__law_hash pm__law_hash an__law_hash cd__law_hash ct__law_hash), sl__law_hash⟩) (c__law_hash : PySem.W.codeIn K cd__law_hash "_law_hash" = true) (k__law_hash : PySem.W.keepIn K (.ref f__law_hash) = true)
    (a__law_cell : PySem.W.nsIn K mainGlobals "_law_cell" = some (some (.ref f__law_cell))) (l__law_cell : K.lookup f__law_cell = some ⟨oc__law_cell, od__law_cell, .func (PySem.W.fnOf "_law_cell" "_law_cell" (defArgs s__law_cell) (defBody s__law_cell) (defScope s__law_cell) .none kV__law_cell dc__law_cell pm__law_cell an__law_cell cd__law_cell ct__law_cell), sl__law_cell⟩) (c__law_cell : PySem.W.codeIn K cd__law_cell "_law_cell" = true) (k__law_cell : PySem.W.keepIn K (.ref f__law_cell) = true)
    (a__law_yes : PySem.W.nsIn K mainGlobals "_law_yes" = some (some (.ref f__law_yes))) (l__law_yes : K.lookup f__law_yes = some ⟨oc__law_yes, od__law_yes, .func (PySem.W.fnOf "_law_yes" "_law_yes" (defArgs s__law_yes) (defBody s__law_yes) (defScope s__law_yes) .none kV__law_yes dc__law_yes pm__law_yes an__law_yes cd__law_yes ct__law_yes), sl__law_yes⟩) (c__law_yes : PySem.W.codeIn K cd__law_yes "_law_yes" = true) (k__law_yes : PySem.W.keepIn K (.ref f__law_yes) = true)
    (a__law_swapped : PySem.W.nsIn K mainGlobals "_law_swapped" = some (some (.ref f__law_swapped))) (l__law_swapped : K.lookup f__law_swapped = some ⟨oc__law_swapped, od__law_swapped, .func (PySem.W.fnOf "_law_swapped" "_law_swapped" (defArgs s__law_swapped) (defBody s__law_swapped) (defScope s__law_swapped) .none kV__law_swapped dc__law_swapped pm__law_swapped an__law_swapped cd__law_swapped ct__law_swapped), sl__law_swapped⟩) (c__law_swapped : PySem.W.codeIn K cd__law_swapped "_law_swapped" = true) (k__law_swapped : PySem.W.keepIn K (.ref f__law_swapped) = true)
    (a_is_joints : PySem.W.nsIn K mainGlobals "is_joints" = some (some (.ref f_is_joints))) (l_is_joints : K.lookup f_is_joints = some ⟨oc_is_joints, od_is_joints, .func (PySem.W.fnOf "is_joints" "is_joints" (defArgs s_is_joints) (defBody s_is_joints) (defScope s_is_joints) .none kV_is_joints dc_is_joints pm_is_joints an_is_joints cd_is_joints ct_is_joints), sl_is_joints⟩) (c_is_joints : PySem.W.codeIn K cd_is_joints "is_joints" = true) (k_is_joints : PySem.W.keepIn K (.ref f_is_joints) = true)
    (a_check_word : PySem.W.nsIn K mainGlobals "check_word" = some (some (.ref f_check_word))) (l_check_word : K.lookup f_check_word = some ⟨oc_check_word, od_check_word, .func (PySem.W.fnOf "check_word" "check_word" (defArgs s_check_word) (defBody s_check_word) (defScope s_check_word) .none kV_check_word dc_check_word pm_check_word an_check_word cd_check_word ct_check_word), sl_check_word⟩) (c_check_word : PySem.W.codeIn K cd_check_word "check_word" = true) (k_check_word : PySem.W.keepIn K (.ref f_check_word) = true)
    (a__is_open : PySem.W.nsIn K mainGlobals "_is_open" = some (some (.ref f__is_open))) (l__is_open : K.lookup f__is_open = some ⟨oc__is_open, od__is_open, .func (PySem.W.fnOf "_is_open" "_is_open" (defArgs s__is_open) (defBody s__is_open) (defScope s__is_open) .none kV__is_open dc__is_open pm__is_open an__is_open cd__is_open ct__is_open), sl__is_open⟩) (c__is_open : PySem.W.codeIn K cd__is_open "_is_open" = true) (k__is_open : PySem.W.keepIn K (.ref f__is_open) = true)
    (a_back_road : PySem.W.nsIn K mainGlobals "back_road" = some (some (.ref f_back_road))) (l_back_road : K.lookup f_back_road = some ⟨oc_back_road, od_back_road, .func (PySem.W.fnOf "back_road" "back_road" (defArgs s_back_road) (defBody s_back_road) (defScope s_back_road) .none kV_back_road dc_back_road pm_back_road an_back_road cd_back_road ct_back_road), sl_back_road⟩) (c_back_road : PySem.W.codeIn K cd_back_road "back_road" = true) (k_back_road : PySem.W.keepIn K (.ref f_back_road) = true)
    (a__law_random : PySem.W.nsIn K mainGlobals "_law_random" = some (some (.ref f__law_random))) (l__law_random : K.lookup f__law_random = some ⟨oc__law_random, od__law_random, .func (PySem.W.fnOf "_law_random" "_law_random" (defArgs s__law_random) (defBody s__law_random) (defScope s__law_random) .none kV__law_random dc__law_random pm__law_random an__law_random cd__law_random ct__law_random), sl__law_random⟩) (c__law_random : PySem.W.codeIn K cd__law_random "_law_random" = true) (k__law_random : PySem.W.keepIn K (.ref f__law_random) = true)
    (a__law_generator : PySem.W.nsIn K mainGlobals "_law_generator" = some (some (.ref f__law_generator))) (l__law_generator : K.lookup f__law_generator = some ⟨oc__law_generator, od__law_generator, .func (PySem.W.fnOf "_law_generator" "_law_generator" (defArgs s__law_generator) (defBody s__law_generator) (defScope s__law_generator) .none kV__law_generator dc__law_generator pm__law_generator an__law_generator cd__law_generator ct__law_generator), sl__law_generator⟩) (c__law_generator : PySem.W.codeIn K cd__law_generator "_law_generator" = true) (k__law_generator : PySem.W.keepIn K (.ref f__law_generator) = true)
    (a__law_passed : PySem.W.nsIn K mainGlobals "_law_passed" = some (some (.ref f__law_passed))) (l__law_passed : K.lookup f__law_passed = some ⟨oc__law_passed, od__law_passed, .func (PySem.W.fnOf "_law_passed" "_law_passed" (defArgs s__law_passed) (defBody s__law_passed) (defScope s__law_passed) .none kV__law_passed dc__law_passed pm__law_passed an__law_passed cd__law_passed ct__law_passed), sl__law_passed⟩) (c__law_passed : PySem.W.codeIn K cd__law_passed "_law_passed" = true) (k__law_passed : PySem.W.keepIn K (.ref f__law_passed) = true)
    (a_check_joints : PySem.W.nsIn K mainGlobals "check_joints" = some (some (.ref f_check_joints))) (l_check_joints : K.lookup f_check_joints = some ⟨oc_check_joints, od_check_joints, .func (PySem.W.fnOf "check_joints" "check_joints" (defArgs s_check_joints) (defBody s_check_joints) (defScope s_check_joints) .none kV_check_joints dc_check_joints pm_check_joints an_check_joints cd_check_joints ct_check_joints), sl_check_joints⟩) (c_check_joints : PySem.W.codeIn K cd_check_joints "check_joints" = true) (k_check_joints : PySem.W.keepIn K (.ref f_check_joints) = true)
    (a__walked : PySem.W.nsIn K mainGlobals "_walked" = some (some (.ref f__walked))) (l__walked : K.lookup f__walked = some ⟨oc__walked, od__walked, .func (PySem.W.fnOf "_walked" "_walked" (defArgs s__walked) (defBody s__walked) (defScope s__walked) .none kV__walked dc__walked pm__walked an__walked cd__walked ct__walked), sl__walked⟩) (c__walked : PySem.W.codeIn K cd__walked "_walked" = true) (k__walked : PySem.W.keepIn K (.ref f__walked) = true)
    (a__law_word : PySem.W.nsIn K mainGlobals "_law_word" = some (some (.ref f__law_word))) (l__law_word : K.lookup f__law_word = some ⟨oc__law_word, od__law_word, .func (PySem.W.fnOf "_law_word" "_law_word" (defArgs s__law_word) (defBody s__law_word) (defScope s__law_word) .none kV__law_word dc__law_word pm__law_word an__law_word cd__law_word ct__law_word), sl__law_word⟩) (c__law_word : PySem.W.codeIn K cd__law_word "_law_word" = true) (k__law_word : PySem.W.keepIn K (.ref f__law_word) = true)
    (a__law_letters : PySem.W.nsIn K mainGlobals "_law_letters" = some (some (.ref f__law_letters))) (l__law_letters : K.lookup f__law_letters = some ⟨oc__law_letters, od__law_letters, .func (PySem.W.fnOf "_law_letters" "_law_letters" (defArgs s__law_letters) (defBody s__law_letters) (defScope s__law_letters) .none kV__law_letters dc__law_letters pm__law_letters an__law_letters cd__law_letters ct__law_letters), sl__law_letters⟩) (c__law_letters : PySem.W.codeIn K cd__law_letters "_law_letters" = true) (k__law_letters : PySem.W.keepIn K (.ref f__law_letters) = true)
    (a__law_joints : PySem.W.nsIn K mainGlobals "_law_joints" = some (some (.ref f__law_joints))) (l__law_joints : K.lookup f__law_joints = some ⟨oc__law_joints, od__law_joints, .func (PySem.W.fnOf "_law_joints" "_law_joints" (defArgs s__law_joints) (defBody s__law_joints) (defScope s__law_joints) .none kV__law_joints dc__law_joints pm__law_joints an__law_joints cd__law_joints ct__law_joints), sl__law_joints⟩) (c__law_joints : PySem.W.codeIn K cd__law_joints "_law_joints" = true) (k__law_joints : PySem.W.keepIn K (.ref f__law_joints) = true)
    (a__law_road : PySem.W.nsIn K mainGlobals "_law_road" = some (some (.ref f__law_road))) (l__law_road : K.lookup f__law_road = some ⟨oc__law_road, od__law_road, .func (PySem.W.fnOf "_law_road" "_law_road" (defArgs s__law_road) (defBody s__law_road) (defScope s__law_road) .none kV__law_road dc__law_road pm__law_road an__law_road cd__law_road ct__law_road), sl__law_road⟩) (c__law_road : PySem.W.codeIn K cd__law_road "_law_road" = true) (k__law_road : PySem.W.keepIn K (.ref f__law_road) = true)
    (a__law_bent : PySem.W.nsIn K mainGlobals "_law_bent" = some (some (.ref f__law_bent))) (l__law_bent : K.lookup f__law_bent = some ⟨oc__law_bent, od__law_bent, .func (PySem.W.fnOf "_law_bent" "_law_bent" (defArgs s__law_bent) (defBody s__law_bent) (defScope s__law_bent) .none kV__law_bent dc__law_bent pm__law_bent an__law_bent cd__law_bent ct__law_bent), sl__law_bent⟩) (c__law_bent : PySem.W.codeIn K cd__law_bent "_law_bent" = true) (k__law_bent : PySem.W.keepIn K (.ref f__law_bent) = true)
    (a_is_road : PySem.W.nsIn K mainGlobals "is_road" = some (some (.ref f_is_road))) (l_is_road : K.lookup f_is_road = some ⟨oc_is_road, od_is_road, .func (PySem.W.fnOf "is_road" "is_road" (defArgs s_is_road) (defBody s_is_road) (defScope s_is_road) .none kV_is_road dc_is_road pm_is_road an_is_road cd_is_road ct_is_road), sl_is_road⟩) (c_is_road : PySem.W.codeIn K cd_is_road "is_road" = true) (k_is_road : PySem.W.keepIn K (.ref f_is_road) = true)
    (a_passed : PySem.W.nsIn K mainGlobals "passed" = some (some (.ref f_passed))) (l_passed : K.lookup f_passed = some ⟨oc_passed, od_passed, .func (PySem.W.fnOf "passed" "passed" (defArgs s_passed) (defBody s_passed) (defScope s_passed) .none kV_passed dc_passed pm_passed an_passed cd_passed ct_passed), sl_passed⟩) (c_passed : PySem.W.codeIn K cd_passed "passed" = true) (k_passed : PySem.W.keepIn K (.ref f_passed) = true)
    (a_done : PySem.W.nsIn K mainGlobals "done" = some (some (.ref f_done))) (l_done : K.lookup f_done = some ⟨oc_done, od_done, .func (PySem.W.fnOf "done" "done" (defArgs s_done) (defBody s_done) (defScope s_done) .none kV_done dc_done pm_done an_done cd_done ct_done), sl_done⟩) (c_done : PySem.W.codeIn K cd_done "done" = true) (k_done : PySem.W.keepIn K (.ref f_done) = true)
    (a__law_right : PySem.W.nsIn K mainGlobals "_law_right" = some (some (.ref f__law_right))) (l__law_right : K.lookup f__law_right = some ⟨oc__law_right, od__law_right, .func (PySem.W.fnOf "_law_right" "_law_right" (defArgs s__law_right) (defBody s__law_right) (defScope s__law_right) .none kV__law_right dc__law_right pm__law_right an__law_right cd__law_right ct__law_right), sl__law_right⟩) (c__law_right : PySem.W.codeIn K cd__law_right "_law_right" = true) (k__law_right : PySem.W.keepIn K (.ref f__law_right) = true)
    (a_law : PySem.W.nsIn K mainGlobals "law" = some (some (.ref f_law))) (l_law : K.lookup f_law = some ⟨oc_law, od_law, .func (PySem.W.fnOf "law" "law" (defArgs s_law) (defBody s_law) (defScope s_law) .none kV_law dc_law pm_law an_law cd_law ct_law), sl_law⟩) (c_law : PySem.W.codeIn K cd_law "law" = true) (k_law : PySem.W.keepIn K (.ref f_law) = true)
    {t_LONGEST : Tok} (g_LONGEST : PySem.W.nsIn K mainGlobals "LONGEST" = some (some (.int 300 t_LONGEST)))
    (z_all : PySem.W.nsIn K mainGlobals "all" = some none)
    (z_bool : PySem.W.nsIn K mainGlobals "bool" = some none)
    (z_int : PySem.W.nsIn K mainGlobals "int" = some none)
    (z_isinstance : PySem.W.nsIn K mainGlobals "isinstance" = some none)
    (z_len : PySem.W.nsIn K mainGlobals "len" = some none)
    (z_list : PySem.W.nsIn K mainGlobals "list" = some none)
    (z_max : PySem.W.nsIn K mainGlobals "max" = some none)
    (z_range : PySem.W.nsIn K mainGlobals "range" = some none)
    (z_repr : PySem.W.nsIn K mainGlobals "repr" = some none)
    (z_reversed : PySem.W.nsIn K mainGlobals "reversed" = some none)
    (z_str : PySem.W.nsIn K mainGlobals "str" = some none)
    (z_sum : PySem.W.nsIn K mainGlobals "sum" = some none)
    (z_tuple : PySem.W.nsIn K mainGlobals "tuple" = some none)
    (z_zip : PySem.W.nsIn K mainGlobals "zip" = some none) :
    ∃ fd : FuncData, (∀ (s : Shared) (v : Value), BindsTo s fd ⟨[v], []⟩ [("_law_script", v)]) ∧ ∀ base : Heap, K.In base → base.Ns mainGlobals mg → FnC l.prog w K mg base CX0 8 fa fd ["_law_script"] (sp_law K) := by
  have e := hfa.symm.trans (PySem.W.mg_of X G a_law)
  cases e
  have F_is_word := fun_mk (st := s_is_word) l_is_word c_is_word k_is_word
  have b_is_word := F_is_word.binds (ps := P_is_word) fun _ _ _ _ _ _ us hl => match us, hl with | [_], _ => rfl
  have F_is_count := fun_mk (st := s_is_count) l_is_count c_is_count k_is_count
  have b_is_count := F_is_count.binds (ps := P_is_count) fun _ _ _ _ _ _ us hl => match us, hl with | [_], _ => rfl
  have F__ascends := fun_mk (st := s__ascends) l__ascends c__ascends k__ascends
  have b__ascends := F__ascends.binds (ps := P__ascends) fun _ _ _ _ _ _ us hl => match us, hl with | [_], _ => rfl
  have F_sides_changed := fun_mk (st := s_sides_changed) l_sides_changed c_sides_changed k_sides_changed
  have b_sides_changed := F_sides_changed.binds (ps := P_sides_changed) fun _ _ _ _ _ _ us hl => match us, hl with | [_, _], _ => rfl
  have F__law_hash := fun_mk (st := s__law_hash) l__law_hash c__law_hash k__law_hash
  have b__law_hash := F__law_hash.binds (ps := P__law_hash) fun _ _ _ _ _ _ us hl => match us, hl with | [_, _], _ => rfl
  have F__law_cell := fun_mk (st := s__law_cell) l__law_cell c__law_cell k__law_cell
  have b__law_cell := F__law_cell.binds (ps := P__law_cell) fun _ _ _ _ _ _ us hl => match us, hl with | [_, _], _ => rfl
  have F__law_yes := fun_mk (st := s__law_yes) l__law_yes c__law_yes k__law_yes
  have b__law_yes := F__law_yes.binds (ps := P__law_yes) fun _ _ _ _ _ _ us hl => match us, hl with | [_, _], _ => rfl
  have F__law_swapped := fun_mk (st := s__law_swapped) l__law_swapped c__law_swapped k__law_swapped
  have b__law_swapped := F__law_swapped.binds (ps := P__law_swapped) fun _ _ _ _ _ _ us hl => match us, hl with | [_, _], _ => rfl
  have F_is_joints := fun_mk (st := s_is_joints) l_is_joints c_is_joints k_is_joints
  have b_is_joints := F_is_joints.binds (ps := P_is_joints) fun _ _ _ _ _ _ us hl => match us, hl with | [_], _ => rfl
  have F_check_word := fun_mk (st := s_check_word) l_check_word c_check_word k_check_word
  have b_check_word := F_check_word.binds (ps := P_check_word) fun _ _ _ _ _ _ us hl => match us, hl with | [_], _ => rfl
  have F__is_open := fun_mk (st := s__is_open) l__is_open c__is_open k__is_open
  have b__is_open := F__is_open.binds (ps := P__is_open) fun _ _ _ _ _ _ us hl => match us, hl with | [_, _, _], _ => rfl
  have F_back_road := fun_mk (st := s_back_road) l_back_road c_back_road k_back_road
  have b_back_road := F_back_road.binds (ps := P_back_road) fun _ _ _ _ _ _ us hl => match us, hl with | [_, _], _ => rfl
  have F__law_random := fun_mk (st := s__law_random) l__law_random c__law_random k__law_random
  have b__law_random := F__law_random.binds (ps := P__law_random) fun _ _ _ _ _ _ us hl => match us, hl with | [_, _], _ => rfl
  have F__law_generator := fun_mk (st := s__law_generator) l__law_generator c__law_generator k__law_generator
  have b__law_generator := F__law_generator.binds (ps := P__law_generator) fun _ _ _ _ _ _ us hl => match us, hl with | [_, _], _ => rfl
  have F__law_passed := fun_mk (st := s__law_passed) l__law_passed c__law_passed k__law_passed
  have b__law_passed := F__law_passed.binds (ps := P__law_passed) fun _ _ _ _ _ _ us hl => match us, hl with | [_, _, _], _ => rfl
  have F_check_joints := fun_mk (st := s_check_joints) l_check_joints c_check_joints k_check_joints
  have b_check_joints := F_check_joints.binds (ps := P_check_joints) fun _ _ _ _ _ _ us hl => match us, hl with | [_], _ => rfl
  have F__walked := fun_mk (st := s__walked) l__walked c__walked k__walked
  have b__walked := F__walked.binds (ps := P__walked) fun _ _ _ _ _ _ us hl => match us, hl with | [_, _, _], _ => rfl
  have F__law_word := fun_mk (st := s__law_word) l__law_word c__law_word k__law_word
  have b__law_word := F__law_word.binds (ps := P__law_word) fun _ _ _ _ _ _ us hl => match us, hl with | [_, _, _], _ => rfl
  have F__law_letters := fun_mk (st := s__law_letters) l__law_letters c__law_letters k__law_letters
  have b__law_letters := F__law_letters.binds (ps := P__law_letters) fun _ _ _ _ _ _ us hl => match us, hl with | [_, _, _], _ => rfl
  have F__law_joints := fun_mk (st := s__law_joints) l__law_joints c__law_joints k__law_joints
  have b__law_joints := F__law_joints.binds (ps := P__law_joints) fun _ _ _ _ _ _ us hl => match us, hl with | [_, _], _ => rfl
  have F__law_road := fun_mk (st := s__law_road) l__law_road c__law_road k__law_road
  have b__law_road := F__law_road.binds (ps := P__law_road) fun _ _ _ _ _ _ us hl => match us, hl with | [_, _, _, _], _ => rfl
  have F__law_bent := fun_mk (st := s__law_bent) l__law_bent c__law_bent k__law_bent
  have b__law_bent := F__law_bent.binds (ps := P__law_bent) fun _ _ _ _ _ _ us hl => match us, hl with | [_, _, _], _ => rfl
  have F_is_road := fun_mk (st := s_is_road) l_is_road c_is_road k_is_road
  have b_is_road := F_is_road.binds (ps := P_is_road) fun _ _ _ _ _ _ us hl => match us, hl with | [_, _, _], _ => rfl
  have F_passed := fun_mk (st := s_passed) l_passed c_passed k_passed
  have b_passed := F_passed.binds (ps := P_passed) fun _ _ _ _ _ _ us hl => match us, hl with | [_, _, _], _ => rfl
  have F_done := fun_mk (st := s_done) l_done c_done k_done
  have b_done := F_done.binds (ps := P_done) fun _ _ _ _ _ _ us hl => match us, hl with | [_, _, _], _ => rfl
  have F__law_right := fun_mk (st := s__law_right) l__law_right c__law_right k__law_right
  have b__law_right := F__law_right.binds (ps := P__law_right) fun _ _ _ _ _ _ us hl => match us, hl with | [_], _ => rfl
  have F_law := fun_mk (st := s_law) l_law c_law k_law
  have b_law := F_law.binds (ps := P_law) fun _ _ _ _ _ _ us hl => match us, hl with | [_], _ => rfl
  let T : Txt K mg := { f_is_word := _, fd_is_word := _, F_is_word := F_is_word, m_is_word := PySem.W.mg_of X G a_is_word, b_is_word := b_is_word, f_is_count := _, fd_is_count := _, F_is_count := F_is_count, m_is_count := PySem.W.mg_of X G a_is_count, b_is_count := b_is_count, f__ascends := _, fd__ascends := _, F__ascends := F__ascends, m__ascends := PySem.W.mg_of X G a__ascends, b__ascends := b__ascends, f_sides_changed := _, fd_sides_changed := _, F_sides_changed := F_sides_changed, m_sides_changed := PySem.W.mg_of X G a_sides_changed, b_sides_changed := b_sides_changed, f__law_hash := _, fd__law_hash := _, F__law_hash := F__law_hash, m__law_hash := PySem.W.mg_of X G a__law_hash, b__law_hash := b__law_hash, f__law_cell := _, fd__law_cell := _, F__law_cell := F__law_cell, m__law_cell := PySem.W.mg_of X G a__law_cell, b__law_cell := b__law_cell, f__law_yes := _, fd__law_yes := _, F__law_yes := F__law_yes, m__law_yes := PySem.W.mg_of X G a__law_yes, b__law_yes := b__law_yes, f__law_swapped := _, fd__law_swapped := _, F__law_swapped := F__law_swapped, m__law_swapped := PySem.W.mg_of X G a__law_swapped, b__law_swapped := b__law_swapped, f_is_joints := _, fd_is_joints := _, F_is_joints := F_is_joints, m_is_joints := PySem.W.mg_of X G a_is_joints, b_is_joints := b_is_joints, f_check_word := _, fd_check_word := _, F_check_word := F_check_word, m_check_word := PySem.W.mg_of X G a_check_word, b_check_word := b_check_word, f__is_open := _, fd__is_open := _, F__is_open := F__is_open, m__is_open := PySem.W.mg_of X G a__is_open, b__is_open := b__is_open, f_back_road := _, fd_back_road := _, F_back_road := F_back_road, m_back_road := PySem.W.mg_of X G a_back_road, b_back_road := b_back_road, f__law_random := _, fd__law_random := _, F__law_random := F__law_random, m__law_random := PySem.W.mg_of X G a__law_random, b__law_random := b__law_random, f__law_generator := _, fd__law_generator := _, F__law_generator := F__law_generator, m__law_generator := PySem.W.mg_of X G a__law_generator, b__law_generator := b__law_generator, f__law_passed := _, fd__law_passed := _, F__law_passed := F__law_passed, m__law_passed := PySem.W.mg_of X G a__law_passed, b__law_passed := b__law_passed, f_check_joints := _, fd_check_joints := _, F_check_joints := F_check_joints, m_check_joints := PySem.W.mg_of X G a_check_joints, b_check_joints := b_check_joints, f__walked := _, fd__walked := _, F__walked := F__walked, m__walked := PySem.W.mg_of X G a__walked, b__walked := b__walked, f__law_word := _, fd__law_word := _, F__law_word := F__law_word, m__law_word := PySem.W.mg_of X G a__law_word, b__law_word := b__law_word, f__law_letters := _, fd__law_letters := _, F__law_letters := F__law_letters, m__law_letters := PySem.W.mg_of X G a__law_letters, b__law_letters := b__law_letters, f__law_joints := _, fd__law_joints := _, F__law_joints := F__law_joints, m__law_joints := PySem.W.mg_of X G a__law_joints, b__law_joints := b__law_joints, f__law_road := _, fd__law_road := _, F__law_road := F__law_road, m__law_road := PySem.W.mg_of X G a__law_road, b__law_road := b__law_road, f__law_bent := _, fd__law_bent := _, F__law_bent := F__law_bent, m__law_bent := PySem.W.mg_of X G a__law_bent, b__law_bent := b__law_bent, f_is_road := _, fd_is_road := _, F_is_road := F_is_road, m_is_road := PySem.W.mg_of X G a_is_road, b_is_road := b_is_road, f_passed := _, fd_passed := _, F_passed := F_passed, m_passed := PySem.W.mg_of X G a_passed, b_passed := b_passed, f_done := _, fd_done := _, F_done := F_done, m_done := PySem.W.mg_of X G a_done, b_done := b_done, f__law_right := _, fd__law_right := _, F__law_right := F__law_right, m__law_right := PySem.W.mg_of X G a__law_right, b__law_right := b__law_right, f_law := _, fd_law := _, F_law := F_law, m_law := PySem.W.mg_of X G a_law, b_law := b_law, g_LONGEST := ⟨_, PySem.W.mg_of X G g_LONGEST⟩, z_all := PySem.W.mg_none_of X G z_all, z_bool := PySem.W.mg_none_of X G z_bool, z_int := PySem.W.mg_none_of X G z_int, z_isinstance := PySem.W.mg_none_of X G z_isinstance, z_len := PySem.W.mg_none_of X G z_len, z_list := PySem.W.mg_none_of X G z_list, z_max := PySem.W.mg_none_of X G z_max, z_range := PySem.W.mg_none_of X G z_range, z_repr := PySem.W.mg_none_of X G z_repr, z_reversed := PySem.W.mg_none_of X G z_reversed, z_str := PySem.W.mg_none_of X G z_str, z_sum := PySem.W.mg_none_of X G z_sum, z_tuple := PySem.W.mg_none_of X G z_tuple, z_zip := PySem.W.mg_none_of X G z_zip }
  exact ⟨PySem.W.fnOf "law" "law" (defArgs s_law) (defBody s_law) (defScope s_law) .none kV_law dc_law pm_law an_law cd_law ct_law, fun s v => .of_eq rfl, fun base _ _ => ok_law T⟩
theorem walk {l : PySem.W.OpenLaw} {q : Program} {loose : List Str} {XP : (Str → Option Value) → Heap → Prop} {YP : World → Heap → Prop} {d : DefRec} {K : Params → PySem.W.Frag} (hn : l.most = some 63) (hdf : d.params.defaults = [])
    (hY : ∀ (w : World) (h : Heap), YP w h → (K w.params).In h)
    (F : ∀ (w : World) (mg : Str → Option Value) (fa : Addr) (h : Heap), (K w.params).In h → h.Ns mainGlobals mg → mg d.name = some (.ref fa) →
      ∃ fd : FuncData, (∀ (s : Shared) (u : Value), BindsTo s fd ⟨[u], []⟩ [("_law_script", u)]) ∧ ∀ base : Heap, (K w.params).In base → base.Ns mainGlobals mg → FnC l.prog w (K w.params) mg base CX0 8 fa fd ["_law_script"] (sp_law (K w.params))) :
    PySem.W.WalkO q loose XP YP l.row.toRowW d [] (fun f vs => PySem.call f vs) :=
  walkC (n := 63) (k := 8) (x := "_law_script") (sp := fun w => sp_law (K w.params)) hn (by decide) hdf ⟨rfl, by decide, by decide⟩ hY F (fun _ _ a ns hl _ hS => ⟨a, ns, rfl, hS, hl, fun _ => rfl⟩)
end K03
open PySem PySem.W PyProof.Rows
set_option maxRecDepth 100000 in
set_option maxHeartbeats 0 in
theorem PySem.Challenge.cw_sideswaps_k03_whole_roads_and_back_holds : PySem.Challenge.rw_sideswaps_k03_whole_roads_and_back.Holds := by
  w_on; o_law; k_head; (case hw => w_witness2)
  k_fill
  refine K03.walk (l := PySem.Challenge.rw_sideswaps_k03_whole_roads_and_back) rfl rfl (fun w h Y => PySem.W.kIn_of Y) ?F
  case F =>
    intro w mg fa h KX G hmg
    refine' K03.all_mk KX G hmg ?a_is_word ?l_is_word ?c_is_word ?k_is_word ?a_is_count ?l_is_count ?c_is_count ?k_is_count ?a__ascends ?l__ascends ?c__ascends ?k__ascends ?a_sides_changed ?l_sides_changed ?c_sides_changed ?k_sides_changed ?a__law_hash ?l__law_hash ?c__law_hash ?k__law_hash ?a__law_cell ?l__law_cell ?c__law_cell ?k__law_cell ?a__law_yes ?l__law_yes ?c__law_yes ?k__law_yes ?a__law_swapped ?l__law_swapped ?c__law_swapped ?k__law_swapped ?a_is_joints ?l_is_joints ?c_is_joints ?k_is_joints ?a_check_word ?l_check_word ?c_check_word ?k_check_word ?a__is_open ?l__is_open ?c__is_open ?k__is_open ?a_back_road ?l_back_road ?c_back_road ?k_back_road ?a__law_random ?l__law_random ?c__law_random ?k__law_random ?a__law_generator ?l__law_generator ?c__law_generator ?k__law_generator ?a__law_passed ?l__law_passed ?c__law_passed ?k__law_passed ?a_check_joints ?l_check_joints ?c_check_joints ?k_check_joints ?a__walked ?l__walked ?c__walked ?k__walked ?a__law_word ?l__law_word ?c__law_word ?k__law_word ?a__law_letters ?l__law_letters ?c__law_letters ?k__law_letters ?a__law_joints ?l__law_joints ?c__law_joints ?k__law_joints ?a__law_road ?l__law_road ?c__law_road ?k__law_road ?a__law_bent ?l__law_bent ?c__law_bent ?k__law_bent ?a_is_road ?l_is_road ?c_is_road ?k_is_road ?a_passed ?l_passed ?c_passed ?k_passed ?a_done ?l_done ?c_done ?k_done ?a__law_right ?l__law_right ?c__law_right ?k__law_right ?a_law ?l_law ?c_law ?k_law ?g_LONGEST ?z_all ?z_bool ?z_int ?z_isinstance ?z_len ?z_list ?z_max ?z_range ?z_repr ?z_reversed ?z_str ?z_sum ?z_tuple ?z_zip
    (case a_is_word => k_is)
    (case l_is_word => k_is)
    (case c_is_word => k_is)
    (case k_is_word => k_is)
    (case a_is_count => k_is)
    (case l_is_count => k_is)
    (case c_is_count => k_is)
    (case k_is_count => k_is)
    (case a__ascends => k_is)
    (case l__ascends => k_is)
    (case c__ascends => k_is)
    (case k__ascends => k_is)
    (case a_sides_changed => k_is)
    (case l_sides_changed => k_is)
    (case c_sides_changed => k_is)
    (case k_sides_changed => k_is)
    (case a__law_hash => k_is)
    (case l__law_hash => k_is)
    (case c__law_hash => k_is)
    (case k__law_hash => k_is)
    (case a__law_cell => k_is)
    (case l__law_cell => k_is)
    (case c__law_cell => k_is)
    (case k__law_cell => k_is)
    (case a__law_yes => k_is)
    (case l__law_yes => k_is)
    (case c__law_yes => k_is)
    (case k__law_yes => k_is)
    (case a__law_swapped => k_is)
    (case l__law_swapped => k_is)
    (case c__law_swapped => k_is)
    (case k__law_swapped => k_is)
    (case a_is_joints => k_is)
    (case l_is_joints => k_is)
    (case c_is_joints => k_is)
    (case k_is_joints => k_is)
    (case a_check_word => k_is)
    (case l_check_word => k_is)
    (case c_check_word => k_is)
    (case k_check_word => k_is)
    (case a__is_open => k_is)
    (case l__is_open => k_is)
    (case c__is_open => k_is)
    (case k__is_open => k_is)
    (case a_back_road => k_is)
    (case l_back_road => k_is)
    (case c_back_road => k_is)
    (case k_back_road => k_is)
    (case a__law_random => k_is)
    (case l__law_random => k_is)
    (case c__law_random => k_is)
    (case k__law_random => k_is)
    (case a__law_generator => k_is)
    (case l__law_generator => k_is)
    (case c__law_generator => k_is)
    (case k__law_generator => k_is)
    (case a__law_passed => k_is)
    (case l__law_passed => k_is)
    (case c__law_passed => k_is)
    (case k__law_passed => k_is)
    (case a_check_joints => k_is)
    (case l_check_joints => k_is)
    (case c_check_joints => k_is)
    (case k_check_joints => k_is)
    (case a__walked => k_is)
    (case l__walked => k_is)
    (case c__walked => k_is)
    (case k__walked => k_is)
    (case a__law_word => k_is)
    (case l__law_word => k_is)
    (case c__law_word => k_is)
    (case k__law_word => k_is)
    (case a__law_letters => k_is)
    (case l__law_letters => k_is)
    (case c__law_letters => k_is)
    (case k__law_letters => k_is)
    (case a__law_joints => k_is)
    (case l__law_joints => k_is)
    (case c__law_joints => k_is)
    (case k__law_joints => k_is)
    (case a__law_road => k_is)
    (case l__law_road => k_is)
    (case c__law_road => k_is)
    (case k__law_road => k_is)
    (case a__law_bent => k_is)
    (case l__law_bent => k_is)
    (case c__law_bent => k_is)
    (case k__law_bent => k_is)
    (case a_is_road => k_is)
    (case l_is_road => k_is)
    (case c_is_road => k_is)
    (case k_is_road => k_is)
    (case a_passed => k_is)
    (case l_passed => k_is)
    (case c_passed => k_is)
    (case k_passed => k_is)
    (case a_done => k_is)
    (case l_done => k_is)
    (case c_done => k_is)
    (case k_done => k_is)
    (case a__law_right => k_is)
    (case l__law_right => k_is)
    (case c__law_right => k_is)
    (case k__law_right => k_is)
    (case a_law => k_is)
    (case l_law => k_is)
    (case c_law => k_is)
    (case k_law => k_is)
    (case g_LONGEST => k_is)
    (case z_all => k_is)
    (case z_bool => k_is)
    (case z_int => k_is)
    (case z_isinstance => k_is)
    (case z_len => k_is)
    (case z_list => k_is)
    (case z_max => k_is)
    (case z_range => k_is)
    (case z_repr => k_is)
    (case z_reversed => k_is)
    (case z_str => k_is)
    (case z_sum => k_is)
    (case z_tuple => k_is)
    (case z_zip => k_is)

