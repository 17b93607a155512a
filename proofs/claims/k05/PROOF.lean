import PyProof.Rows.All
import Wide.All
import OpenK.AllK
import Wide.FinOn
import HandS.ForMost
import HandS.Wide
import HandS.Style
import HandS.Small
import HandS.TupAny
import HandS.IsInst
import HandS.CallLocal
import HandS.Evl
import HandS.More
import HandS.WrittenGet
import HandS.SetBool
import HandS.Strs
import HandS.Zip
import HandS.Star
import KE.GoesZip
import KE.GoesMore
import PyProof.EnumMake
import PyProof.WalksEnum
import PyProof.ReprRoads
import PyProof.ReprLen
import HandS.SetFor
import KE.DataMinMax
import PyProof.Rows.SortShellAny
import HandS.WideBits
import HandS.TupMul
import HandS.GenYield
import HandS.GenCall
import HandS.GenList
import HandS.Defaults
import KE.KxField
import HandS.FStr
import KE.KSortTupG
import HandS.Sort
import HandS.Deep
import HandS.Head0
import HandS.Head1
import HandS.Head2
import HandS.HeadHook1
import HandS.HeadHook2
import HandS.HeadHook3
import KE.KExcSuper
import HandS.ExcOwn
import HandS.WordsExc
import HandS.ForExc
import HandS.Ends
import HandS.StrMore
import KE.IntTextLaws
import PySem.Challenge.RW_restitch_k05_text_of_instructions
set_option Elab.async false
set_option linter.all false
set_option maxRecDepth 100000
set_option maxHeartbeats 4000000
namespace Co
open PySem PySem.Spec PyProof.Rows L2
def rIntQ : List V → Hp → VK → Prop := fun xs H Q => (∃ i, xs = [.int i] ∧ Q (.int i) H) ∨ ∃ k, xs = [.bl k] ∧ Q (.int (if k then 1 else 0)) H
theorem call_intQ {X : Cx} : CallR X (.type "int") rIntQ := call_int1
def rAbsQ : List V → Hp → VK → Prop := fun xs H Q => ∃ i, xs = [.int i] ∧ Q (.int (if i < 0 then -i else i)) H
theorem call_absQ {X : Cx} : CallR X (.builtin "abs") rAbsQ := call_abs
def rLenQ (K : PySem.W.Frag) : List V → Hp → VK → Prop := fun xs H Q => ∃ p ys, xs = [.ref p] ∧ (SqL K H p ys ∨ SqT K H p ys) ∧ Q (.int (ys.length : Int)) H
theorem call_lenQ {X : Cx} : CallR X (.builtin "len") (rLenQ X.K) := call_len_seq
structure Cd (P : Program) (w : World) (K : PySem.W.Frag) (mg : Str → Option Value) (base : Heap) (k : Nat) (x : Str) (sp : Sp) : Prop where
  ex : ∃ (f : Addr) (fd : FuncData) (ps : List Str), FnOk P w K mg base CX0 k f fd ps sp ∧ mg x = some (.ref f) ∧ PySem.W.keepIn K (.ref f) = true ∧ Binds K fd ps []
def GV (mg : Str → Option Value) (x : Str) (v : V) : Prop := ∃ u, mg x = some u ∧ RelV v u
def tC1 (sp : Sp) (t : TA) : TE := fun σ H Q => t σ H fun vs H1 => sp vs H1 Q E0
section
variable {X : Cx} {k j : Nat} {x : Str} {sp : Sp} {p pos : Pos} {e : Expr} {es : List Expr} {t : TA}
theorem pe_gv {v : V} (hg : Gl X x) (h : GV X.mg x v) (hd : (x == ("__debug__" : Str)) = false := by decide) : PE X (.Name x pos) (tC v) := by
  obtain ⟨u, hm, r⟩ := h
  exact pe_glob hg hm r hd
theorem pe_cd (c : Cd X.prog X.w X.K X.mg X.base k x sp) (hr : Room j X.A) (hk : k ≤ j) (hg : Gl X x) (ha : PA X (e :: es) t)
    (hdb : (x == ("__debug__" : Str)) = false := by decide) (he : starEach (e :: es) X.env = (false, eval e X.env) :: starEach es X.env := by rfl) (hpl : (backTo pos (starEach es X.env)).any (·.1) = false := by rfl) :
    PE X (.Call (.Name x p) (e :: es) [] pos) (tC1 sp t) := by
  obtain ⟨f, fd, ps, F, hm, kp, b⟩ := c.ex
  have z := pe_call (dvs := []) (pos := pos) (p := p) F (hr.mono hk) hg hm kp b .nil pass0 ha hdb he hpl
  refine ⟨fun pins s σ H Q I h => z.run pins s σ H Q I ?_⟩
  show t σ H fun vs H1 => sp (vs ++ []) H1 Q E0
  simp only [List.append_nil]
  exact h
theorem pe_cd0 (c : Cd X.prog X.w X.K X.mg X.base k x sp) (hr : Room j X.A) (hk : k ≤ j) (hg : Gl X x)
    (hdb : (x == ("__debug__" : Str)) = false := by decide) :
    PE X (.Call (.Name x p) [] [] pos) (tC1 sp tNil) := by
  obtain ⟨f, fd, ps, F, hm, kp, b⟩ := c.ex
  exact pe_call0 (dvs := []) (pos := pos) (p := p) F (hr.mono hk) hg hm kp b .nil pass0 hdb
end

/-! ### readings, step by step, from behind -/
def kTup (Q : VK) : List V → Hp → Prop := fun xs H1 => xs.length ≤ sizeLine ∧ ∀ p, H1 p = none → Q (.ref p) (upd H1 p (.tup xs))
def kLst (Q : VK) : List V → Hp → Prop := fun xs H1 => xs.length ≤ sizeLine ∧ ∀ p, H1 p = none → Q (.ref p) (upd H1 p (.lst xs))
def kFor (g : TG) (tb : TS) (D : Ends) (σ : L2.St) : It → Hp → Prop := fun J H1 => ∃ W : Nat → Nat → L2.St → Hp → Prop, (∃ m, W 0 m σ H1) ∧ ∀ i m σ H, W i m σ H →
  (J.stop i H ∧ D.nx σ H) ∨ (J.go i H ∧ ∃ N : L2.St → Hp → Prop, (∀ σ' H', N σ' H' → ∃ m', m' < m ∧ W (i + 1) m' σ' H') ∧ ∀ x H', J.yld i H x H' → g x σ H' fun σ2 H2 => tb { D with nx := N, ct := N, bk := D.nx } σ2 H2)
def kIL (K : PySem.W.Frag) (R : It → Hp → Prop) : V → Hp → Prop := fun x H1 => ∃ a, x = .ref a ∧ (∃ xs, SqL K H1 a xs) ∧ R (Itl K a) H1
def kIT (K : PySem.W.Frag) (R : It → Hp → Prop) : V → Hp → Prop := fun x H1 => ∃ a, x = .ref a ∧ (∃ xs, SqT K H1 a xs) ∧ R (Itt K a) H1
def kR1 (R : It → Hp → Prop) : List V → Hp → Prop := fun vs H1 => ∃ j : Int, vs = [.int j] ∧ -(2 ^ 62) ≤ j ∧ j < 2 ^ 62 ∧ R (Itr 0 j.toNat) H1
def kR2 (R : It → Hp → Prop) : List V → Hp → Prop := fun vs H1 => ∃ i j : Int, vs = [.int i, .int j] ∧ (-(2 ^ 62) ≤ i ∧ i < 2 ^ 62 ∧ -(2 ^ 62) ≤ j ∧ j < 2 ^ 62) ∧ R (Itr i (j - i).toNat) H1
def kLc (g : TG) (tt : TT) (te : TE) (vs : List Nat) (σ : L2.St) (Q : VK) : It → Hp → Prop := fun J H1 => ∀ D, H1 D = none → ∃ W : Nat → Nat → Hp → Prop, (∃ m, W 0 m (upd H1 D (.lst []))) ∧ ∀ i m H, W i m H →
  (J.stop i H ∧ Q (.ref D) H) ∨ (J.go i H ∧ ∃ Nx : Hp → Prop, (∀ H', Nx H' → ∃ m', m' < m ∧ W (i + 1) m' H') ∧ ∀ x H', J.yld i H x H' → g x (wipe σ vs) H' fun σ2 H2 => wipe σ2 vs = wipe σ vs ∧ tt σ2 H2 fun b H3 =>
    if b = true then te σ2 H3 fun y H4 => ∃ acc, H4 D = some (.lst acc) ∧ acc.length < sizeLine ∧ Nx (upd H4 D (.lst (acc ++ [y]))) else Nx H3)
section
variable {σ : L2.St} {H : Hp} {Q : VK} {D : Ends} {ta tb te : TE} {tt tu : TT} {t u : TS} {g : TG} {v x y : V} {i j : Int} {n : Nat} {E : XK}
theorem w_var (h : σ[n]? = some (some v)) (q : Q v H) : tVar n σ H Q := ⟨v, h, q⟩
theorem w_c (q : Q v H) : tC v σ H Q := q
theorem w_op {r : R2} (q : ta σ H fun x H1 => tb σ H1 fun y H2 => r x y H2 Q) : tOp r ta tb σ H Q := q
theorem w_un {r : V → Hp → VK → Prop} (q : ta σ H fun x H1 => r x H1 Q) : tUn r ta σ H Q := q
theorem w_I0 {f : Int → Int → V} (q : Q (f i j) H) : rI0 f (.int i) (.int j) H Q := ⟨i, j, rfl, rfl, q⟩
theorem w_I {C : Int → Int → Prop} {f : Int → Int → V} (c : C i j) (q : Q (f i j) H) : rI C f (.int i) (.int j) H Q := ⟨i, j, rfl, rfl, c, q⟩
theorem w_U {f : Int → V} (q : Q (f i) H) : rU f (.int i) H Q := ⟨i, rfl, q⟩
theorem w_eq (h : scal x y = true) (q : Q (.bl (decide (x = y))) H) : rEq x y H Q := ⟨h, q⟩
theorem w_ne (h : scal x y = true) (q : Q (.bl (!decide (x = y))) H) : rNe x y H Q := ⟨h, q⟩
theorem w_eqI (q : Q (.bl (decide (i = j))) H) : rEq (.int i) (.int j) H Q := ⟨rfl, by
  have e : (decide (V.int i = V.int j)) = decide (i = j) := by
    by_cases h : i = j
    · subst h; simp
    · rw [decide_eq_false h, decide_eq_false (fun z => h (V.int.inj z))]
  rw [e]; exact q⟩
theorem w_neI (q : Q (.bl (!decide (i = j))) H) : rNe (.int i) (.int j) H Q := ⟨rfl, by
  have e : (decide (V.int i = V.int j)) = decide (i = j) := by
    by_cases h : i = j
    · subst h; simp
    · rw [decide_eq_false h, decide_eq_false (fun z => h (V.int.inj z))]
  rw [e]; exact q⟩
theorem w_test {Q : Bool → Hp → Prop} (q : ta σ H fun x H' => ∃ k, x = .bl k ∧ Q k H') : tTest ta σ H Q := q
theorem w_B {Q : Bool → Hp → Prop} (q : ta σ H fun x H' => ∃ k, x = .bl k ∧ Q k H') : tB ta σ H Q := q
theorem w_bl {b : Bool} {Q : Bool → Prop} (q : Q b) : ∃ k, V.bl b = .bl k ∧ Q k := ⟨b, rfl, q⟩
theorem w_if (q : tt σ H fun c H1 => if c = true then ta σ H1 Q else tb σ H1 Q) : tIf tt ta tb σ H Q := q
theorem w_andT {Q : Bool → Hp → Prop} (q : tt σ H fun c H1 => if c = true then tu σ H1 Q else Q false H1) : tAnd tt tu σ H Q := q
theorem w_orT {Q : Bool → Hp → Prop} (q : tt σ H fun c H1 => if c = true then Q true H1 else tu σ H1 Q) : tOr tt tu σ H Q := q
theorem w_notT {Q : Bool → Hp → Prop} (q : tt σ H fun c H1 => Q (!c) H1) : tNot tt σ H Q := q
theorem w_andV (q : ta σ H fun x H1 => ∃ c, x = .bl c ∧ if c = true then tb σ H1 Q else Q (.bl false) H1) : tAndV ta tb σ H Q := q
theorem w_orV (q : ta σ H fun x H1 => ∃ c, x = .bl c ∧ if c = true then Q (.bl true) H1 else tb σ H1 Q) : tOrV ta tb σ H Q := q
theorem w_notV (q : ta σ H fun x H1 => ∃ c, x = .bl c ∧ Q (.bl (!c)) H1) : tNotV ta σ H Q := q
theorem w_chain {r r' : R2} {tc : TE} (q : ta σ H fun x H1 => tb σ H1 fun y H2 => r x y H2 fun z H3 => ∃ k, z = .bl k ∧ if k = true then tc σ H3 fun c H4 => r' y c H4 Q else Q (.bl false) H3) : tChain r r' ta tb tc σ H Q := q
theorem w_seq (q : t { D with nx := u D } σ H) : tSeq t u D σ H := q
theorem w_next (q : D.nx σ H) : tNext D σ H := q
theorem w_ret (q : te σ H D.rt) : tRet te D σ H := q
theorem w_retN (q : D.rt .non H) : tRetN D σ H := q
theorem w_ifS (q : tt σ H fun b H1 => if b = true then t D σ H1 else u D σ H1) : tIfS tt t u D σ H := q
theorem w_asg (q : te σ H fun x H1 => g x σ H1 D.nx) : tAsg te g D σ H := q
theorem w_name {Q : L2.St → Hp → Prop} (q : Q (σ.set n (some v)) H) : gName n v σ H Q := q
theorem w_drop (q : te σ H fun _ H1 => D.nx σ H1) : tDrop te D σ H := q
theorem w_nil {Q : List V → Hp → Prop} (q : Q [] H) : tNil σ H Q := q
theorem w_cons {ta : TE} {tr : TA} {Q : List V → Hp → Prop} (q : ta σ H fun x H1 => tr σ H1 fun xs H2 => Q (x :: xs) H2) : tCons ta tr σ H Q := q
theorem w_call {sp : Sp} {t : TA} (q : t σ H fun vs H1 => sp vs H1 Q E0) : tC1 sp t σ H Q := q
theorem w_cb {r : List V → Hp → VK → Prop} {t : TA} (q : t σ H fun vs H1 => r vs H1 Q) : tCB r t σ H Q := q
theorem w_dec {c : Prop} [Decidable c] {A B : Prop} (h1 : c → A) (h2 : ¬ c → B) : if decide c = true then A else B := by
  by_cases h : c
  · rw [if_pos (decide_eq_true h)]; exact h1 h
  · rw [if_neg (by rw [decide_eq_false h]; exact Bool.false_ne_true)]; exact h2 h
theorem w_ndec {c : Prop} [Decidable c] {A B : Prop} (h1 : ¬ c → A) (h2 : c → B) : if (!decide c) = true then A else B := by
  by_cases h : c
  · rw [if_neg (by rw [decide_eq_true h]; decide)]; exact h2 h
  · rw [if_pos (by rw [decide_eq_false h]; decide)]; exact h1 h
theorem w_itT {A B : Prop} (h : A) : if true = true then A else B := iteT h
theorem w_itF {A B : Prop} (h : B) : if false = true then A else B := iteF h
theorem w_bool {b : Bool} {A B : Prop} (h1 : b = true → A) (h2 : b = false → B) : if b = true then A else B := by
  cases b
  · exact iteF (h2 rfl)
  · exact iteT (h1 rfl)
theorem w_tup {ta : TA} (q : ta σ H (kTup Q)) : tTup ta σ H Q := q
theorem w_lst {ta : TA} (q : ta σ H (kLst Q)) : tLst ta σ H Q := q
theorem w_kTup {xs : List V} (h : xs.length ≤ sizeLine) (q : ∀ p H', H p = none → Same H H' → H' p = some (.tup xs) → Q (.ref p) H') : kTup Q xs H := ⟨h, fun p np => q p _ np (fun b x e => by rw [upd_ne (ne_of_none e np)]; exact e) upd_same⟩
theorem w_kLst {xs : List V} (h : xs.length ≤ sizeLine) (q : ∀ p H', H p = none → Same H H' → H' p = some (.lst xs) → Q (.ref p) H') : kLst Q xs H := ⟨h, fun p np => q p _ np (fun b x e => by rw [upd_ne (ne_of_none e np)]; exact e) upd_same⟩
end
section
variable {K : PySem.W.Frag} {σ : L2.St} {H : Hp} {Q : VK} {p : Addr} {xs : List V} {i : Int} {v x : V} {n : Nat}
theorem w_ixL (h : H p = some (.lst xs)) (ha : atI xs i = some v) (q : Q v H) : rIxL K (.ref p) (.int i) H Q := ⟨p, xs, i, v, rfl, rfl, .inl (.inl h), ha, q⟩
theorem w_ixLs (h : SqL K H p xs) (ha : atI xs i = some v) (q : Q v H) : rIxL K (.ref p) (.int i) H Q := ⟨p, xs, i, v, rfl, rfl, h, ha, q⟩
theorem w_ixT (h : H p = some (.tup xs)) (ha : atI xs i = some v) (q : Q v H) : rIxT K (.ref p) (.int i) H Q := ⟨p, xs, i, v, rfl, rfl, .inl (.inl h), ha, q⟩
theorem w_ixTs (h : SqT K H p xs) (ha : atI xs i = some v) (q : Q v H) : rIxT K (.ref p) (.int i) H Q := ⟨p, xs, i, v, rfl, rfl, h, ha, q⟩
theorem w_sub {to ti : TE} {t : TSet} {Q : L2.St → Hp → Prop} (q : to σ H fun o H1 => ti σ H1 fun i H2 => t o i v H2 fun H3 => Q σ H3) : gSub to ti t v σ H Q := q
theorem w_lenL (h : H p = some (.lst xs)) (q : Q (.int (xs.length : Int)) H) : rLenQ K [.ref p] H Q := ⟨p, xs, rfl, .inl (.inl (.inl h)), q⟩
theorem w_lenLs (h : SqL K H p xs) (q : Q (.int (xs.length : Int)) H) : rLenQ K [.ref p] H Q := ⟨p, xs, rfl, .inl h, q⟩
theorem w_lenT (h : H p = some (.tup xs)) (q : Q (.int (xs.length : Int)) H) : rLenQ K [.ref p] H Q := ⟨p, xs, rfl, .inr (.inl (.inl h)), q⟩
theorem w_int1 (q : Q (.int i) H) : rIntQ [.int i] H Q := .inl ⟨i, rfl, q⟩
theorem w_abs (q : Q (.int (if i < 0 then -i else i)) H) : rAbsQ [.int i] H Q := ⟨i, rfl, q⟩
theorem ixN_lit {n : Nat} {j : Nat} (h : j < n) : ixN n (j : Int) = some j := by
  unfold ixN
  rw [if_pos (Int.natCast_nonneg _), if_pos (by omega)]
  simp
theorem atI_of {α : Type} {xs : List α} {i : Int} {v : α} (h0 : 0 ≤ i) (h : xs[i.toNat]? = some v) : atI xs i = some v := by
  have e : ((i.toNat : Nat) : Int) = i := Int.toNat_of_nonneg h0
  have z := atI_nat (j := i.toNat) h
  rw [e] at z
  exact z
end
section
variable {K : PySem.W.Frag} {σ : L2.St} {H : Hp} {D : Ends} {g : TG} {tb : TS} {wi : TI} {tl : TE} {R : It → Hp → Prop}
theorem w_for (q : wi σ H (kFor g tb D σ)) : tFor wi g tb D σ H := q
theorem w_iL (q : tl σ H (kIL K R)) : iList K tl σ H R := q
theorem w_iT (q : tl σ H (kIT K R)) : iTup K tl σ H R := q
theorem w_rng1 {ta : TA} (q : ta σ H (kR1 R)) : iRng1 ta σ H R := q
theorem w_rng2 {ta : TA} (q : ta σ H (kR2 R)) : iRng2 ta σ H R := q
theorem w_kR1 {j : Int} (h0 : -(2 ^ 62) ≤ j) (h1 : j < 2 ^ 62) (q : R (Itr 0 j.toNat) H) : kR1 R [.int j] H := ⟨j, rfl, h0, h1, q⟩
theorem w_forL {a : Addr} (xs : List V) (Pv : Nat → L2.St → Hp → Prop) (hS : SqL K H a xs) (h0 : Pv 0 σ H) (hl : ∀ i σ H, i ≤ xs.length → Pv i σ H → SqL K H a xs)
    (hs : ∀ i x σ H, xs[i]? = some x → Pv i σ H → g x σ H fun σ2 H2 => tb { D with nx := Pv (i + 1), ct := Pv (i + 1), bk := D.nx } σ2 H2) (hd : ∀ σ H, Pv xs.length σ H → D.nx σ H) : kIL K (kFor g tb D σ) (.ref a) H :=
  ⟨a, rfl, ⟨_, hS⟩, for_list (K := K) (a := a) (xs := xs) Pv h0 hl hs hd⟩
theorem w_forT {a : Addr} (xs : List V) (Pv : Nat → L2.St → Hp → Prop) (hS : SqT K H a xs) (h0 : Pv 0 σ H) (hl : ∀ i σ H, i ≤ xs.length → Pv i σ H → SqT K H a xs)
    (hs : ∀ i x σ H, xs[i]? = some x → Pv i σ H → g x σ H fun σ2 H2 => tb { D with nx := Pv (i + 1), ct := Pv (i + 1), bk := D.nx } σ2 H2) (hd : ∀ σ H, Pv xs.length σ H → D.nx σ H) : kIT K (kFor g tb D σ) (.ref a) H :=
  ⟨a, rfl, ⟨_, hS⟩, for_tup (K := K) (a := a) (xs := xs) Pv h0 hl hs hd⟩
theorem w_forR {j : Int} (n : Nat) (Pv : Nat → L2.St → Hp → Prop) (hn : j.toNat = n) (hj : n < 4611686018427387904 ∧ -4611686018427387904 ≤ j) (h0 : Pv 0 σ H)
    (hs : ∀ i σ H, i < n → Pv i σ H → g (.int (i : Int)) σ H fun σ2 H2 => tb { D with nx := Pv (i + 1), ct := Pv (i + 1), bk := D.nx } σ2 H2) (hd : ∀ σ H, Pv n σ H → D.nx σ H) : kR1 (kFor g tb D σ) [.int j] H := by
  refine ⟨j, rfl, by show -4611686018427387904 ≤ j; omega, by show j < 4611686018427387904; omega, ?_⟩
  subst hn
  refine for_range (lo := 0) (n := j.toNat) Pv h0 (fun i σ H hi p => ?_) hd
  rw [Int.zero_add]
  exact hs i σ H hi p
theorem w_yes {Q : Bool → Hp → Prop} (q : Q true H) : tYes σ H Q := q
theorem w_lc {tt : TT} {te : TE} {vs : List Nat} {Q : VK} (q : wi σ H (kLc g tt te vs σ Q)) : tLc wi g tt te vs σ H Q := q
theorem w_lcL {tt : TT} {te : TE} {vs : List Nat} {Q : VK} {a : Addr} (xs : List V) (Pv : Addr → Nat → Hp → Prop) (hS : SqL K H a xs) (h0 : ∀ D, H D = none → Pv D 0 (upd H D (.lst []))) (hl : ∀ D i H, i ≤ xs.length → Pv D i H → SqL K H a xs)
    (hs : ∀ D i x H, xs[i]? = some x → Pv D i H → g x (wipe σ vs) H fun σ2 H2 => wipe σ2 vs = wipe σ vs ∧ tt σ2 H2 fun b H3 =>
      if b = true then te σ2 H3 fun y H4 => ∃ acc, H4 D = some (.lst acc) ∧ acc.length < sizeLine ∧ Pv D (i + 1) (upd H4 D (.lst (acc ++ [y]))) else Pv D (i + 1) H3) (hd : ∀ D H', H D = none → Pv D xs.length H' → Q (.ref D) H') : kIL K (kLc g tt te vs σ Q) (.ref a) H :=
  ⟨a, rfl, ⟨_, hS⟩, fun D nD => lc_list (K := K) (a := a) (xs := xs) (Pv D) (h0 D nD) (hl D) (hs D) (fun H' p => hd D H' nD p)⟩
theorem w_lcT {tt : TT} {te : TE} {vs : List Nat} {Q : VK} {a : Addr} (xs : List V) (Pv : Addr → Nat → Hp → Prop) (hS : SqT K H a xs) (h0 : ∀ D, H D = none → Pv D 0 (upd H D (.lst []))) (hl : ∀ D i H, i ≤ xs.length → Pv D i H → SqT K H a xs)
    (hs : ∀ D i x H, xs[i]? = some x → Pv D i H → g x (wipe σ vs) H fun σ2 H2 => wipe σ2 vs = wipe σ vs ∧ tt σ2 H2 fun b H3 =>
      if b = true then te σ2 H3 fun y H4 => ∃ acc, H4 D = some (.lst acc) ∧ acc.length < sizeLine ∧ Pv D (i + 1) (upd H4 D (.lst (acc ++ [y]))) else Pv D (i + 1) H3) (hd : ∀ D H', H D = none → Pv D xs.length H' → Q (.ref D) H') : kIT K (kLc g tt te vs σ Q) (.ref a) H :=
  ⟨a, rfl, ⟨_, hS⟩, fun D nD => lc_tup (K := K) (a := a) (xs := xs) (Pv D) (h0 D nD) (hl D) (hs D) (fun H' p => hd D H' nD p)⟩
theorem w_lcR {tt : TT} {te : TE} {vs : List Nat} {Q : VK} {j : Int} (n : Nat) (Pv : Addr → Nat → Hp → Prop) (hn : j.toNat = n) (hj : n < 4611686018427387904 ∧ -4611686018427387904 ≤ j) (h0 : ∀ D, H D = none → Pv D 0 (upd H D (.lst [])))
    (hs : ∀ D i H, i < n → Pv D i H → g (.int (i : Int)) (wipe σ vs) H fun σ2 H2 => wipe σ2 vs = wipe σ vs ∧ tt σ2 H2 fun b H3 =>
      if b = true then te σ2 H3 fun y H4 => ∃ acc, H4 D = some (.lst acc) ∧ acc.length < sizeLine ∧ Pv D (i + 1) (upd H4 D (.lst (acc ++ [y]))) else Pv D (i + 1) H3) (hd : ∀ D H', H D = none → Pv D n H' → Q (.ref D) H') : kR1 (kLc g tt te vs σ Q) [.int j] H := by
  refine ⟨j, rfl, by show -4611686018427387904 ≤ j; omega, by show j < 4611686018427387904; omega, ?_⟩
  subst hn
  refine fun D nD => lc_range (lo := 0) (n := j.toNat) (Pv D) (h0 D nD) (fun i H hi p => ?_) (fun H' p => hd D H' nD p)
  rw [Int.zero_add]
  exact hs D i H hi p
end
theorem take_more {α : Type} : ∀ {l : List α} {i : Nat} {x : α}, l[i]? = some x → l.take (i + 1) = l.take i ++ [x]
  | [], i, x, h => by simp at h
  | a :: l, 0, x, h => by
    have e : a = x := Option.some.inj h
    subst e
    rfl
  | a :: l, i + 1, x, h => by
    have ih := take_more (l := l) (i := i) (x := x) h
    show a :: l.take (i + 1) = a :: l.take i ++ [x]
    rw [ih]
    rfl
theorem map_get {ns : List Int} {i : Nat} {x : V} (h : (ns.map V.int)[i]? = some x) : ∃ n, ns[i]? = some n ∧ x = .int n := by
  rw [List.getElem?_map] at h
  cases e : ns[i]? with
  | none => rw [e] at h; cases h
  | some z => rw [e] at h; exact ⟨z, rfl, (Option.some.inj h).symm⟩
theorem w_p32 {H : Hp} {Q : VK} (q : Q (.int 4294967296) H) : rI CPow (fun i j => .int (i ^ j.toNat)) (.int 2) (.int 32) H Q := ⟨2, 32, rfl, rfl, ⟨by decide, by decide, by decide⟩, q⟩
theorem w_p31 {H : Hp} {Q : VK} (q : Q (.int 2147483648) H) : rI CPow (fun i j => .int (i ^ j.toNat)) (.int 2) (.int 31) H Q := ⟨2, 31, rfl, rfl, ⟨by decide, by decide, by decide⟩, q⟩
theorem w_p26 {H : Hp} {Q : VK} (q : Q (.int 67108864) H) : rI CPow (fun i j => .int (i ^ j.toNat)) (.int 2) (.int 26) H Q := ⟨2, 26, rfl, rfl, ⟨by decide, by decide, by decide⟩, q⟩
theorem w_p22 {H : Hp} {Q : VK} (q : Q (.int 4194304) H) : rI CPow (fun i j => .int (i ^ j.toNat)) (.int 2) (.int 22) H Q := ⟨2, 22, rfl, rfl, ⟨by decide, by decide, by decide⟩, q⟩
theorem w_p20 {H : Hp} {Q : VK} (q : Q (.int 1048576) H) : rI CPow (fun i j => .int (i ^ j.toNat)) (.int 2) (.int 20) H Q := ⟨2, 20, rfl, rfl, ⟨by decide, by decide, by decide⟩, q⟩
theorem w_p18 {H : Hp} {Q : VK} (q : Q (.int 262144) H) : rI CPow (fun i j => .int (i ^ j.toNat)) (.int 2) (.int 18) H Q := ⟨2, 18, rfl, rfl, ⟨by decide, by decide, by decide⟩, q⟩
theorem w_p17 {H : Hp} {Q : VK} (q : Q (.int 131072) H) : rI CPow (fun i j => .int (i ^ j.toNat)) (.int 2) (.int 17) H Q := ⟨2, 17, rfl, rfl, ⟨by decide, by decide, by decide⟩, q⟩
theorem w_p16 {H : Hp} {Q : VK} (q : Q (.int 65536) H) : rI CPow (fun i j => .int (i ^ j.toNat)) (.int 2) (.int 16) H Q := ⟨2, 16, rfl, rfl, ⟨by decide, by decide, by decide⟩, q⟩
theorem w_p14 {H : Hp} {Q : VK} (q : Q (.int 16384) H) : rI CPow (fun i j => .int (i ^ j.toNat)) (.int 2) (.int 14) H Q := ⟨2, 14, rfl, rfl, ⟨by decide, by decide, by decide⟩, q⟩
theorem w_p13 {H : Hp} {Q : VK} (q : Q (.int 8192) H) : rI CPow (fun i j => .int (i ^ j.toNat)) (.int 2) (.int 13) H Q := ⟨2, 13, rfl, rfl, ⟨by decide, by decide, by decide⟩, q⟩
/-- all but d stays -/
def But (d : Addr) (H H' : Hp) : Prop := ∀ b o, b ≠ d → H b = some o → H' b = some o
theorem But.refl (d : Addr) (H : Hp) : But d H H := fun _ _ _ h => h
theorem But.trans {d : Addr} {H H1 H2 : Hp} (a : But d H H1) (b : But d H1 H2) : But d H H2 := fun c o n h => b c o n (a c o n h)
theorem But.of {d : Addr} {H H' : Hp} (s : Same H H') : But d H H' := fun b o _ h => s b o h
theorem But.set {d : Addr} {H : Hp} {o : HO} : But d H (upd H d o) := fun b u n h => by rw [upd_ne n]; exact h
theorem But.tup {d : Addr} {H H' : Hp} {xs ys : List V} {a : Addr} (b : But d H H') (hd : H d = some (.lst ys)) (h : H a = some (.tup xs)) : H' a = some (.tup xs) := b a _ (ne_of h hd (by intro z; cases z)) h
theorem Same.new {H : Hp} {p : Addr} {o : HO} (h : H p = none) : Same H (upd H p o) := fun b x e => by rw [upd_ne (ne_of_none e h)]; exact e
theorem But.new {d : Addr} {H : Hp} {p : Addr} {o : HO} (h : H p = none) : But d H (upd H p o) := .of (Same.new h)
theorem w_setL {p : Addr} {xs : List V} {i : Int} {v : V} {H : Hp} {j : Nat} {Q : Hp → Prop} (h : H p = some (.lst xs)) (hj : ixN xs.length i = some j) (q : ∀ H', H' p = some (.lst (xs.set j v)) → But p H H' → Q H') : rSetL (.ref p) (.int i) v H Q := ⟨p, xs, i, j, rfl, rfl, h, hj, q _ upd_same But.set⟩
section
variable {X : Cx} {k i : Nat} {x : Str} {p pos : Pos} {e : Expr} {es : List Expr} {t : TA}
/-- a local that holds a def, called -/
def tCallZ (P : Program) (w : World) (K : PySem.W.Frag) (mg : Str → Option Value) (base : Heap) (k i : Nat) (t : TA) : TE := fun σ H Q => ∃ f sp, σ[i]? = some (some (.ref f)) ∧ Held P w K mg base k f sp ∧ t σ H fun vs H1 => sp vs H1 Q E0
theorem pe_callZ (hr : Room k X.A) (hN : X.N[i]? = some x) (hv : Vis X.env.scope x) (ha : PA X (e :: es) t)
    (hdb : (x == ("__debug__" : Str)) = false := by decide) (hcd : (x == ("__classdict__" : Str)) = false := by decide)
    (he : starEach (e :: es) X.env = (false, eval e X.env) :: starEach es X.env := by rfl) (hpl : (backTo pos (starEach es X.env)).any (·.1) = false := by rfl) : PE X (.Call (.Name x p) (e :: es) [] pos) (tCallZ X.prog X.w X.K X.mg X.base k i t) := by
  refine ⟨fun pins s σ H Q I h => ?_⟩
  obtain ⟨f, sp, hs, hd, ht⟩ := h
  obtain ⟨fd, ps, F, hk, hb⟩ := hd.ex
  refine (pe_callL (i := i) (f := f) (sp := sp) (dvs := []) (E := E0) F hr hN hv hk hb .nil pass0 ha hdb hcd he hpl).run pins s σ H Q I ⟨hs, ?_⟩
  show t σ H (fun vs H1 => sp (vs ++ []) H1 Q E0)
  simp only [List.append_nil]
  exact ht
end
theorem w_callZ {P : Program} {w : World} {K : PySem.W.Frag} {mg : Str → Option Value} {base : Heap} {k i : Nat} {t : TA} {σ : L2.St} {H : Hp} {Q : VK} {f : Addr} {sp : Sp} (hs : σ[i]? = some (some (.ref f))) (h : Held P w K mg base k f sp) (q : t σ H fun vs H1 => sp vs H1 Q E0) : tCallZ P w K mg base k i t σ H Q := ⟨f, sp, hs, h, q⟩
theorem w_ixD {K : PySem.W.Frag} {w : World} {p : Addr} {z : Str} {v : V} {H : Hp} {Q : VK} (h : KDct K w p z v) (q : Q v H) : rIxD K w (.ref p) (.str z) H Q := ⟨p, z, v, rfl, rfl, h, q⟩
theorem w_eqS {a b : Str} {H : Hp} {Q : VK} (q : Q (.bl (decide (a = b))) H) : rEq (.str a) (.str b) H Q := ⟨rfl, by
  have e : (decide (V.str a = V.str b)) = decide (a = b) := by
    by_cases h : a = b
    · subst h; simp
    · rw [decide_eq_false h, decide_eq_false (fun z => h (V.str.inj z))]
  rw [e]; exact q⟩
theorem w_decT {c : Prop} [Decidable c] {A B : Prop} (h : c) (q : A) : if decide c = true then A else B := by
  rw [if_pos (decide_eq_true h)]; exact q
theorem w_decF {c : Prop} [Decidable c] {A B : Prop} (h : ¬ c) (q : B) : if decide c = true then A else B := by
  rw [if_neg (by rw [decide_eq_false h]; exact Bool.false_ne_true)]; exact q
theorem w_inL {K : PySem.W.Frag} {x : V} {p : Addr} {xs : List V} {H : Hp} {Q : VK} {b : Bool} (h : H p = some (.lst xs)) (hx : flatV x = true) (ha : xs.all flatV = true) (hb : inV x xs = b) (q : Q (.bl b) H) : rIn K false x (.ref p) H Q := ⟨p, xs, rfl, .inl (.inl (.inl h)), hx, ha, by rw [hb]; exact q⟩
def rAddSQ : R2 := fun x y H Q => ∃ i j, x = .str i ∧ y = .str j ∧ i.length + j.length ≤ sizeLine ∧ Q (.str (i ++ j)) H
theorem op_addSQ {X : Cx} : OpR X (binaryOp .Add) rAddSQ := op_add_str
theorem w_addS {a b : Str} {H : Hp} {Q : VK} (h : a.length + b.length ≤ sizeLine) (q : Q (.str (a ++ b)) H) : rAddSQ (.str a) (.str b) H Q := ⟨a, b, rfl, rfl, h, q⟩
section
variable {X : Cx} {c a b : Expr} {tc ta tb : TT} {pos : Pos}
/-- a if c else b, as a test -/
def tIfB (tc ta tb : TT) : TT := fun σ H Q => tc σ H fun k H1 => if k = true then ta σ H1 Q else tb σ H1 Q
theorem pt_ifExp (hc : PT X c tc) (ha : PT X a ta) (hb : PT X b tb) : PT X (.IfExp c a b pos) (tIfB tc ta tb) := by
  refine ⟨fun pins s σ H Q I h => ?_⟩
  refine isTrue_IfExp (thn (hc.run pins s σ H _ I h) fun k s1 ⟨H1, I1, q⟩ => ?_)
  cases k with
  | true => exact ha.run pins s1 σ H1 Q I1 (by simpa using q)
  | false => exact hb.run pins s1 σ H1 Q I1 (by simpa using q)
theorem w_ifB {σ : L2.St} {H : Hp} {Q : Bool → Hp → Prop} (q : tc σ H fun k H1 => if k = true then ta σ H1 Q else tb σ H1 Q) : tIfB tc ta tb σ H Q := q
end
theorem w_gTup {K : PySem.W.Frag} {n : Nat} {t : TGs} {a : Addr} {xs : List V} {σ : L2.St} {H : Hp} {Q : L2.St → Hp → Prop} (h : H a = some (.tup xs)) (hn : xs.length = n) (q : t xs σ H Q) : gTup K n t (.ref a) σ H Q := ⟨a, xs, rfl, .inl (.inl h), hn, q⟩
theorem w_gNil {σ : L2.St} {H : Hp} {Q : L2.St → Hp → Prop} (q : Q σ H) : gNil [] σ H Q := ⟨rfl, q⟩
theorem w_gCons {t : TG} {u : TGs} {v : V} {r : List V} {σ : L2.St} {H : Hp} {Q : L2.St → Hp → Prop} (q : t v σ H fun σ' H' => u r σ' H' Q) : gCons t u (v :: r) σ H Q := ⟨v, r, rfl, q⟩
theorem w_isB {a b : Bool} {H : Hp} {Q : VK} (q : Q (.bl (decide (a = b))) H) : rIsB (.bl a) (.bl b) H Q := ⟨a, b, rfl, rfl, q⟩
theorem w_notB {a b : Bool} {H : Hp} {Q : VK} (q : Q (.bl (!decide (a = b))) H) : rNotB (.bl a) (.bl b) H Q := ⟨a, b, rfl, rfl, q⟩
theorem w_isiInt {K : PySem.W.Frag} {i : Int} {H : Hp} {Q : VK} (q : Q (.bl true) H) : rIsi K [.int i, .ty "int"] H Q := ⟨.int i, .ty "int", .type "int", .type "int", true, rfl, .ty _, .base (.int _), kit_ty (by decide +kernel), q⟩
theorem w_isiIntB {K : PySem.W.Frag} {i : Int} {H : Hp} {Q : VK} (q : Q (.bl false) H) : rIsi K [.int i, .ty "bool"] H Q := ⟨.int i, .ty "bool", .type "int", .type "bool", false, rfl, .ty _, .base (.int _), kit_ty (by decide +kernel), q⟩
theorem w_ndecF {c : Prop} [Decidable c] {A B : Prop} (h : c) (q : B) : if (!decide c) = true then A else B := by
  rw [if_neg (by rw [decide_eq_true h]; decide)]; exact q
theorem w_ndecT {c : Prop} [Decidable c] {A B : Prop} (h : ¬ c) (q : A) : if (!decide c) = true then A else B := by
  rw [if_pos (by rw [decide_eq_false h]; rfl)]; exact q
theorem w_nT {A B : Prop} (q : B) : if (!true) = true then A else B := by rw [if_neg (by decide)]; exact q
theorem w_nF {A B : Prop} (q : A) : if (!false) = true then A else B := by rw [if_pos (by decide)]; exact q
theorem map_get' {α : Type} {f : α → V} {ns : List α} {i : Nat} {x : V} (h : (ns.map f)[i]? = some x) : ∃ n, n ∈ ns ∧ ns[i]? = some n ∧ x = f n := by
  rw [List.getElem?_map] at h
  cases e : ns[i]? with
  | none => rw [e] at h; cases h
  | some z => rw [e] at h; exact ⟨z, List.mem_of_getElem? e, rfl, (Option.some.inj h).symm⟩
/-- pure functions of ints -/
def spI1 (C : Int → Prop) (f : Int → V) : Sp := fun vs H Q _ => ∃ x, vs = [.int x] ∧ C x ∧ Q (f x) H
def spI2 (C : Int → Int → Prop) (f : Int → Int → V) : Sp := fun vs H Q _ => ∃ x y, vs = [.int x, .int y] ∧ C x y ∧ Q (f x y) H
theorem w_spI1 {C : Int → Prop} {f : Int → V} {x : Int} {H : Hp} {Q : VK} {E : XK} (c : C x) (q : Q (f x) H) : spI1 C f [.int x] H Q E := ⟨x, rfl, c, q⟩
theorem w_spI2 {C : Int → Int → Prop} {f : Int → Int → V} {x y : Int} {H : Hp} {Q : VK} {E : XK} (c : C x y) (q : Q (f x y) H) : spI2 C f [.int x, .int y] H Q E := ⟨x, y, rfl, c, q⟩
theorem len_spI1 {C : Int → Prop} {f : Int → V} {s : Str} (vs : List V) (H : Hp) (Q : VK) (E : XK) (h : spI1 C f vs H Q E) : vs.length = [s].length := by
  obtain ⟨x, rfl, _⟩ := h; rfl
theorem len_spI2 {C : Int → Int → Prop} {f : Int → Int → V} {s r : Str} (vs : List V) (H : Hp) (Q : VK) (E : XK) (h : spI2 C f vs H Q E) : vs.length = [s, r].length := by
  obtain ⟨x, y, rfl, _⟩ := h; rfl
/-- a Cd from a def that stands -/
theorem mkCd {P : Program} {w : World} {K : PySem.W.Frag} {mg : Str → Option Value} {base : Heap} {x qual : Str} {st : Stmt} {f : Addr} {fd : FuncData} {k : Nat} {ps : List Str} {sp : Sp} (F : Fun K x qual st f fd) (b : Binds K fd ps []) (m : mg x = some (.ref f)) (ok : FnOk P w K mg base CX0 k f fd ps sp) : Cd P w K mg base k x sp :=
  ⟨f, fd, ps, ok, m, F.kp, b⟩
/-- what stands: the def, how its arguments bind, its name -/
structure St1 (K : PySem.W.Frag) (mg : Str → Option Value) (x : Str) (st : Stmt) (ps : List Str) : Prop where
  ex : ∃ f fd, Fun K x x st f fd ∧ Binds K fd ps [] ∧ mg x = some (.ref f)
theorem St1.cd {P : Program} {w : World} {K : PySem.W.Frag} {mg : Str → Option Value} {base : Heap} {x : Str} {st : Stmt} {k : Nat} {N ps : List Str} {sp : Sp} (Z : St1 K mg x st ps) (S : FnScope N ps (defScope st)) (len : ∀ vs H Q E, sp vs H Q E → vs.length = ps.length)
    (hbody : ∀ (f : Addr) (cdv : Value) (A : Around) (outer : List Env) (s : Shared) (H : Hp) (vs : List V) (Q : VK) (E : XK), Room k (A.deeper (envOfC x (defScope st) s.heap.objs.size f cdv)) → sp vs H Q E →
      ∃ t, PSs (cxOf CX0 P w K mg base N x (defScope st) f cdv A outer s H E).nox (defBody st) t ∧ t { nx := fun _ H' => Q .non H', rt := Q } (start N vs) H) : Cd P w K mg base (k + 1) x sp := by
  obtain ⟨f, fd, F, b, m⟩ := Z.ex
  exact mkCd F b m (F.ok S len (hbody f))
theorem mkSt1 {K : PySem.W.Frag} {mg : Str → Option Value} {x : Str} {st : Stmt} {ps : List Str} {h : Heap} {f : Addr} {oc : Value} {od an : Option Addr} {osl : Array (Option Value)} {kV doc pm cdv ct : Value} (X : K.In h) (G : h.Ns mainGlobals mg)
    (a : PySem.W.nsIn K mainGlobals x = some (some (.ref f))) (l : K.lookup f = some ⟨oc, od, .func (PySem.W.fnOf x x (defArgs st) (defBody st) (defScope st) .none kV doc pm an cdv ct), osl⟩) (c : PySem.W.codeIn K cdv x = true) (k : PySem.W.keepIn K (.ref f) = true)
    (hb : ∀ (kV doc pm : Value) (an : Option Addr) (cdv ct : Value) (us : List Value), us.length = ps.length → bindArgs (PySem.W.fnOf x x (defArgs st) (defBody st) (defScope st) .none kV doc pm an cdv ct) ⟨us, []⟩ = pure (ps.zip us)) : St1 K mg x st ps :=
  ⟨f, _, fun_mk (st := st) l c k, (fun_mk (st := st) l c k).binds hb, PySem.W.mg_of X G a⟩
/-- a def among others that a local may hold -/
theorem Cd.held {P : Program} {w : World} {K : PySem.W.Frag} {mg : Str → Option Value} {base : Heap} {k : Nat} {x : Str} {sp : Sp} {f : Addr} (c : Cd P w K mg base k x sp) (m : mg x = some (.ref f)) : Held P w K mg base k f sp := by
  obtain ⟨f', fd, ps, F, m', kp, b⟩ := c.ex
  cases m'.symm.trans m
  exact ⟨⟨fd, ps, F, kp, b⟩⟩
end Co

set_option Elab.async false
set_option linter.all false
set_option maxRecDepth 100000
set_option maxHeartbeats 4000000
namespace Co
open PySem PySem.Spec PyProof.Rows L2 PpSet
/-! ### a comprehension, clause by clause: one rule for each clause's loop, whatever its turn does -/
/-- a clause's turn, what is done with an item told apart -/
def turnOf (tg src : Expr) (ifs : List Expr) (it : Value) (env : Env) (body : Sem Unit) (c : Code) : Sem PySem.Fin := do
  standAt src.pos
  match ← pyNext it with
  | none => pure (.done .next)
  | some v =>
    letOwnedTupleGo tg it v
    assign tg env v
    let mut ok := true
    for c in ifs do
      if ok then ok ← isTrue c env (eval c env)
    if ok then body
    again c
/-- the body of the innermost clause of a set's comprehension -/
def addTo (elt : Expr) (acc : Value) (env : Env) : Sem Unit := do
  let v ← eval elt env
  standAt elt.pos
  let _ ← call (.builtin "set.add") [acc, v]
theorem turn_s1 (elt t i : Expr) (ifs : List Expr) (sc : Scope) (pos : Pos) (it acc : Value) (env : Env) :
    compTurn (.SetComp elt [⟨t, i, ifs, 0⟩] sc pos) 0 it acc env = turnOf t i ifs it env (addTo elt acc env) (.compLoop (.SetComp elt [⟨t, i, ifs, 0⟩] sc pos) 0 it acc env) := by rfl
theorem turn_s2b (elt t i t1 i1 : Expr) (ifs ifs1 : List Expr) (sc : Scope) (pos : Pos) (it acc : Value) (env : Env) :
    compTurn (.SetComp elt [⟨t, i, ifs, 0⟩, ⟨t1, i1, ifs1, 0⟩] sc pos) 1 it acc env = turnOf t1 i1 ifs1 it env (addTo elt acc env) (.compLoop (.SetComp elt [⟨t, i, ifs, 0⟩, ⟨t1, i1, ifs1, 0⟩] sc pos) 1 it acc env) := by rfl
/-- what an outer clause does with an item: the next clause begins -/
def beginIn (C : Expr) (i1 : Expr) (k : Nat) (acc : Value) (env : Env) : Sem Unit := do
  let x ← eval i1 env
  standAt i1.pos
  let x ← foldedSetIterable i1 env x
  let _ ← runOwn (.compStart C k (← holding [x] (pyIter x)) acc env) env
theorem turn_s2a (elt t i t1 i1 : Expr) (ifs ifs1 : List Expr) (sc : Scope) (pos : Pos) (it acc : Value) (env : Env) :
    compTurn (.SetComp elt [⟨t, i, ifs, 0⟩, ⟨t1, i1, ifs1, 0⟩] sc pos) 0 it acc env = turnOf t i ifs it env (beginIn (.SetComp elt [⟨t, i, ifs, 0⟩, ⟨t1, i1, ifs1, 0⟩] sc pos) i1 1 acc env) (.compLoop (.SetComp elt [⟨t, i, ifs, 0⟩, ⟨t1, i1, ifs1, 0⟩] sc pos) 0 it acc env) := by
  unfold turnOf beginIn
  simp only [bind_assoc, pure_bind]
  rfl

/-- no exception -/
abbrev Never : Value → Shared → Prop := fun _ _ => False
section
variable {prog : Program} {w : World} {A : Around} {s : Shared} {elt : Expr} {gens : List Comprehension} {sc : Scope} {pos : Pos} {k : Nat} {it acc : Value} {env : Env} {tg src : Expr} {ifs : List Expr} {body : Sem Unit}
/-- the tests of a clause -/
def testsOf (ifs : List Expr) (env : Env) : Sem Bool := forIn ifs true fun c r => if r = true then do let ok ← isTrue c env (eval c env); pure (ForInStep.yield ok) else pure (ForInStep.yield r)
/-- one turn: from I n either the source is at its end, or an item goes through and a lesser n is reached -/
theorem clause_loop {R : Shared → Prop} (hC : compTurn (.SetComp elt gens sc pos) k it acc env = turnOf tg src ifs it env body (.compLoop (.SetComp elt gens sc pos) k it acc env)) (I : Nat → Shared → Prop)
    (turn : ∀ n s, I n s → wpAny (model prog w) A (pyNext it) (fun r s1 => (r = none ∧ R s1) ∨ ∃ v, r = some v ∧ wpAny (model prog w) A (letOwnedTupleGo tg it v) (fun _ s2 => wpAny (model prog w) A (assign tg env v) (fun _ s3 => wpAny (model prog w) A (testsOf ifs env) (fun ok s4 =>
      if ok = true then wpAny (model prog w) A body (fun _ s5 => ∃ m, m < n ∧ I m s5) Never s4 else ∃ m, m < n ∧ I m s4) Never s3) Never s2) Never s1) Never s) (n : Nat) (h : I n s) :
    codeAny (model prog w) A (.compLoop (.SetComp elt gens sc pos) k it acc env) (fun r s' => r = .ok .next ∧ R s') s := by
  refine codeAny_loop rfl I (fun n s hI => ?_) n h
  show wpAny _ A ((compTurn (.SetComp elt gens sc pos) k it acc env).onRaise fun x => do noteFrame x env; theTreesLotGoes x) _ _ s
  rw [hC]
  refine wpAny_noted (wpAny_bind (wpAny_standAt (wpAny_bind (thnF (turn n s hI) fun r s1 h1 => ?_))))
  rcases h1 with ⟨rfl, q⟩ | ⟨v, rfl, q⟩
  · exact wpAny_pure ⟨rfl, q⟩
  · refine wpAny_bind (thnF q fun _ s2 q => wpAny_bind (thnF q fun _ s3 q => wpAny_bind (thnF q fun ok s4 q => ?_)))
    cases ok with
    | false => exact wpAny_pure ⟨rfl, q⟩
    | true => exact wpAny_bind (thnF q fun _ s5 q => wpAny_pure ⟨rfl, q⟩)
end
/-! ### the same over the abstract heap -/
/-- what a turn's body does: it leaves the slots beyond vs as they were, and a heap of K -/
abbrev TBd := L2.St → Hp → (Hp → Prop) → Prop
def Kept (vs : List Nat) (σ σ' : L2.St) : Prop := σ'.length = σ.length ∧ ∀ (j : Nat) (v : V), j ∉ vs → σ[j]? = some (some v) → σ'[j]? = some (some v)
theorem Kept.refl {vs : List Nat} {σ : L2.St} : Kept vs σ σ := ⟨rfl, fun _ _ _ e => e⟩
structure PB (X : Cx) (vs : List Nat) (body : Sem Unit) (tb : TBd) : Prop where
  run : ∀ (pins : List (Addr × Obj)) (s : Shared) (σ : L2.St) (H : Hp) (Z : Hp → Prop), Inv X pins σ H s → tb σ H Z → wpAny (model X.prog X.w) X.A body (fun _ s' => ∃ σ' H', Inv X pins σ' H' s' ∧ Kept vs σ σ' ∧ Z H') Never s
/-- a clause's loop over its source -/
def tLp (g : TG) (tt : TT) (tb : TBd) (vs : List Nat) (σ : L2.St) (Z : Hp → Prop) : It → Hp → Prop := fun J H0 => ∃ W : Nat → Nat → Hp → Prop, (∃ m, W 0 m H0) ∧ ∀ i m H, W i m H →
  (J.stop i H ∧ Z H) ∨ (J.go i H ∧ ∃ Nx : Hp → Prop, (∀ H', Nx H' → ∃ m', m' < m ∧ W (i + 1) m' H') ∧ ∀ x H', J.yld i H x H' → g x (wipe σ vs) H' fun σ2 H2 => wipe σ2 vs = wipe σ vs ∧ tt σ2 H2 fun b H3 => if b = true then tb σ2 H3 Nx else Nx H3)
theorem kept_wipe {vs : List Nat} {σ σ2 : L2.St} (h : wipe σ2 vs = wipe σ vs) : (wipe σ vs).length = σ2.length ∧ ∀ (j : Nat) (v : V), (wipe σ vs)[j]? = some (some v) → j ∉ vs ∧ σ2[j]? = some (some v) := by
  rw [← h]
  exact ⟨wipe_length _ _, fun j v e => ⟨(wipe_some e).2, (wipe_some e).1⟩⟩
section
variable {X : Cx} {s : Shared} {elt : Expr} {gens : List Comprehension} {sc : Scope} {pos : Pos} {k : Nat} {acc : Value} {tg src : Expr} {ifs : List Expr} {body : Sem Unit} {g : TG} {tt : TT} {tb : TBd} {wb vs : List Nat}
/-- THE RULE for a clause: its loop, from the state in which its source has just been asked for an iterator -/
theorem clause_run {pins : List (Addr × Obj)} {σ : L2.St} {H : Hp} {it : Addr} {fp : List Addr} {tn : Nat → Heap → Prop} {J : It} {Z : Hp → Prop} (hc : X.calm = true) (never : ∀ e s, X.xe e s → False) (hC : compTurn (.SetComp elt gens sc pos) k (.ref it) acc X.env = turnOf tg src ifs (.ref it) X.env body (.compLoop (.SetComp elt gens sc pos) k (.ref it) acc X.env))
    (hg : PG X tg g) (ht : PTs X ifs tt) (hb : PB X wb body tb) (hw : ∀ j ∈ wb, j ∈ vs) (T : Turn X.prog X.w X.K tg J fp it tn) (I : Inv X pins σ H s) (st : tn 0 s.heap) (hf : ∀ b ∈ fp, FpOk X pins H b) (q : tLp g tt tb vs σ Z J H) :
    codeAny (model X.prog X.w) X.A (.compLoop (.SetComp elt gens sc pos) k (.ref it) acc X.env) (fun r s' => r = .ok .next ∧ ∃ H', Inv X pins (wipe σ vs) H' s' ∧ (∀ b ∈ fp, H' b = none) ∧ Z H') s := by
  obtain ⟨W, ⟨m0, w0⟩, turn⟩ := q
  have fpk : ∀ {H' : Hp}, (∀ b ∈ fp, H' b = none) → ∀ b ∈ fp, FpOk X pins H' b := fun z b hb => ⟨z b hb, (hf b hb).2⟩
  have nv : ∀ {α : Type} {t : Sem α} {Q : α → Shared → Prop} {s : Shared}, wpAny (model X.prog X.w) X.A t Q X.xe s → wpAny (model X.prog X.w) X.A t Q Never s := fun h => wpAny_mono h (fun _ _ q => q) never
  refine clause_loop (R := fun s' => ∃ H', Inv X pins (wipe σ vs) H' s' ∧ (∀ b ∈ fp, H' b = none) ∧ Z H') hC (fun n s' => ∃ i H', Inv X pins (wipe σ vs) H' s' ∧ tn i s'.heap ∧ (∀ b ∈ fp, H' b = none) ∧ W i n H') ?_ m0 ⟨0, H, I.weak (wipe_length _ _) fun j v e => (wipe_some e).1, st, fun b hb => (hf b hb).1, w0⟩
  rintro n s1 ⟨i, H1, I1, st1, n1, w1⟩
  rcases turn i n H1 w1 with ⟨stop, z⟩ | ⟨go, Nx, hNx, step⟩
  · exact thnF (T.done X rfl rfl rfl hc i pins s1 _ H1 Never I1 (fpk n1) st1 stop) fun r s2 ⟨e, I2⟩ => .inl ⟨e, H1, I2, n1, z⟩
  · refine thnF (T.item X rfl rfl rfl hc i pins s1 _ H1 Never I1 (fpk n1) st1 go) fun r s2 ⟨u, e, h2⟩ => .inr ⟨u, e, thnF h2 fun _ s3 ⟨x, H3, I3, r3, y3, st3, n3⟩ => ?_⟩
    have I3p := I3.pinned (fpk n3) (T.obj _ _ st3)
    have fin : ∀ {σ' : L2.St} {s' : Shared} {H' : Hp}, Inv X (pins ++ pinsAt fp s3.heap) σ' H' s' → σ'.length = (wipe σ vs).length → (∀ (j : Nat) (v : V), (wipe σ vs)[j]? = some (some v) → σ'[j]? = some (some v)) → Nx H' →
        ∃ m, m < n ∧ ∃ i H', Inv X pins (wipe σ vs) H' s' ∧ tn i s'.heap ∧ (∀ b ∈ fp, H' b = none) ∧ W i m H' := by
      intro σ' s' H' I' hl hk nx
      obtain ⟨m, hm, w2⟩ := hNx H' nx
      have pinned : ∀ b ∈ fp, ∃ o, s3.heap.get? b = some o ∧ s'.heap.get? b = some o ∧ H' b = none := fun b hb => by
        obtain ⟨o, e, _⟩ := T.obj _ _ st3 b hb
        have p := I'.pin (b, o) (List.mem_append_right _ (List.mem_append_right _ (mem_pinsAt hb e)))
        exact ⟨o, e, p.1, p.2.1⟩
      refine ⟨m, hm, i + 1, H', I'.unpinned.weak hl.symm hk, T.keep _ _ _ st3 fun b hb o e => ?_, fun b hb => ?_, w2⟩
      · obtain ⟨o', e1, e2, _⟩ := pinned b hb
        rw [e] at e1; cases e1; exact e2
      · obtain ⟨_, _, _, e⟩ := pinned b hb; exact e
    refine nv (thn (hg.run _ s3 _ H3 x u _ I3p r3 (step x H3 y3)) fun _ s4 ⟨σ4, H4, I4, hw4, q4⟩ => ?_)
    obtain ⟨l4, k4⟩ := kept_wipe hw4
    refine nv (thn (ht.run _ s4 σ4 H4 _ I4 q4) fun b s5 ⟨H5, I5, q5⟩ => ?_)
    cases b with
    | false => exact iteF (fin I5 l4.symm (fun j v e => (k4 j v e).2) (by simpa using q5))
    | true =>
      refine iteT (thnF (hb.run _ s5 σ4 H5 Nx I5 (by simpa using q5)) fun _ s6 ⟨σ6, H6, I6, kp, z⟩ => ?_)
      exact fin I6 (kp.1.trans l4.symm) (fun j v e => kp.2 j v (fun m => (k4 j v e).1 (hw j m)) (k4 j v e).2) z
end
section
variable {prog : Program} {w : World} {A : Around} {R : Result → Shared → Prop} {s : Shared} {elt : Expr} {gens : List Comprehension} {g : Comprehension} {sc : Scope} {pos : Pos} {k : Nat} {it acc : Value} {env : Env}
/-- a clause's beginning: its source's iterator is asked for itself, or not -/
theorem clause_start (hg : gens[k]? = some g) (ha : g.is_async = 0) (h0 : codeAny (model prog w) A (.compLoop (.SetComp elt gens sc pos) k it acc env) R s)
    (h1 : wpAny (model prog w) A (pyIter it) (fun v s' => codeAny (model prog w) A (.compLoop (.SetComp elt gens sc pos) k v acc env) R s') Never s) : codeAny (model prog w) A (.compStart (.SetComp elt gens sc pos) k it acc env) R s := by
  refine codeAny_of_tree ?_
  show wpAny _ _ ((compStart (.SetComp elt gens sc pos) k it acc env).onRaise fun x => do noteFrame x env; standAt theWindowsPlace) _ _ s
  refine wpAny_notedAt ?_
  unfold compStart
  have e1 : (clausesOf (.SetComp elt gens sc pos))[k]? = some g := hg
  rw [e1]
  have e2 : ((some g).elim false fun x : Comprehension => x.is_async != 0) = false := by show (g.is_async != 0) = false; rw [ha]; rfl
  rw [e2, if_neg (by decide)]
  refine wpAny_bind (wpAny_askSetting ?_)
  split
  · exact wpAny_pure ⟨rfl, h0⟩
  · exact wpAny_bind (wpAny_rule (wpAny_bind (wpAny_standAt (wpAny_bind (thnF h1 fun v s' q => wpAny_pure ⟨rfl, q⟩)))))
end
/-! ### the bodies -/
section
variable {X : Cx}
/-- an int added to the set at D -/
def tAdd (w : World) (D : Addr) (te : TE) : TBd := fun σ H Z => te σ H fun y H4 => ∃ (c : Int) (S : Int → Bool) (n : Nat), y = .int c ∧ H4 D = some (SetO w D S n) ∧ n + 1 < scanBound ∧ Z (upd H4 D (SetO w D (fun j => S j || decide (j = c)) (if S c = true then n else n + 1)))
theorem add_int {pins : List (Addr × Obj)} {σ : L2.St} {H : Hp} {s : Shared} {E : Value → Shared → Prop} {D : Addr} {S : Int → Bool} {n : Nat} {y : Int} {t : Tok} {Q : Value → Shared → Prop} (I : Inv X pins σ H s) (hD : H D = some (SetO X.w D S n)) (room : n + 1 < scanBound)
    (h : ∀ v s', Inv X pins σ (upd H D (SetO X.w D (fun j => S j || decide (j = y)) (if S y = true then n else n + 1))) s' → Q v s') : wpAny (model X.prog X.w) X.A (call (.builtin "set.add") [.ref D, .int y t]) Q E s := by
  refine setR_add (setO_get I hD) room fun h' sb new => h _ _ ?_
  have ho := new.choose_spec.choose_spec.choose_spec.choose_spec.1
  exact I.write (t' := s.toks + 1) (by rw [hD]; trivial) (.inl rfl) (fun b u hb hu => (sb.2 b hb).trans hu) ⟨_, ho⟩ (setO_new new)
theorem pb_add {elt : Expr} {te : TE} {D : Addr} (never : ∀ e s, X.xe e s → False) (he : PE X elt te) : PB X [] (addTo elt (.ref D) X.env) (tAdd X.w D te) := by
  refine ⟨fun pins s σ H Z I q => ?_⟩
  refine wpAny_bind (wpAny_mono (he.run pins s σ H _ I q) (fun u s1 h => wpAny_bind (wpAny_standAt ?_)) never)
  obtain ⟨v, H1, I1, r, c, S, n, rfl, hD, room, z⟩ := h
  obtain ⟨t, rfl⟩ := r
  exact wpAny_bind (add_int I1 hD room fun _ s2 I2 => wpAny_pure ⟨σ, _, I2, .refl, z⟩)
/-- the next clause -/
def tIn (wi : TI) (g : TG) (tt : TT) (tb : TBd) (vs : List Nat) : TBd := fun σ H Z => wi σ H (tLp g tt tb vs σ Z)
theorem pb_in {elt : Expr} {gens : List Comprehension} {sc : Scope} {pos : Pos} {D : Addr} {tg src : Expr} {ifs : List Expr} {k : Nat} {body : Sem Unit} {wi : TI} {g : TG} {tt : TT} {tb : TBd} {wb vs : List Nat} (hc : X.calm = true) (never : ∀ e s, X.xe e s → False)
    (hk : gens[k]? = some ⟨tg, src, ifs, 0⟩) (hC : ∀ it, compTurn (.SetComp elt gens sc pos) k it (.ref D) X.env = turnOf tg src ifs it X.env body (.compLoop (.SetComp elt gens sc pos) k it (.ref D) X.env)) (hs : ∀ x, foldedSetIterable src X.env x = pure x)
    (hi : PI X tg src wi) (hg : PG X tg g) (ht : PTs X ifs tt) (hb : PB X wb body tb) (hw : ∀ j ∈ wb, j ∈ vs) : PB X vs (beginIn (.SetComp elt gens sc pos) src k (.ref D) X.env) (tIn wi g tt tb vs) := by
  refine ⟨fun pins s σ H Z I q => ?_⟩
  refine wpAny_bind (wpAny_mono (hi.run pins s σ H _ I q) (fun u s1 h => wpAny_bind (wpAny_standAt (wpAny_bind (wpAny_of_eq (hs u) (wpAny_bind (wpAny_holding (wpAny_mono h (fun itv s2 h2 => ?_) never))))))) never)
  obtain ⟨it, fp, tn, J, H2, rfl, I2, T, st, hf, q2⟩ := h2
  have loop := clause_run hc never (hC (.ref it)) hg ht hb hw T I2 st hf q2
  refine wpAny_bind (wpAny_runOwn ?_)
  rw [Around.mark_none]
  refine codeAny_mono (clause_start hk rfl loop (T.self _ 0 _ _ _ st loop)) fun r s3 h3 => ?_
  obtain ⟨rfl, H3, I3, _, z⟩ := h3
  exact wpAny_pure ⟨_, H3, I3, ⟨wipe_length _ _, fun j v hj e => by rw [wipe_out hj]; exact e⟩, z⟩
end
theorem wipe_set (τ : L2.St) (v : Nat) : ∀ vs : List Nat, wipe (τ.set v none) vs = (wipe τ vs).set v none
  | [] => rfl
  | u :: vs => by
    unfold wipe
    rw [wipe_set τ v vs]
    by_cases h : v = u
    · subst h; rfl
    · rw [List.set_comm _ _ h]
theorem wipe_wipe (σ : L2.St) : ∀ vs : List Nat, wipe (wipe σ vs) vs = wipe σ vs
  | [] => rfl
  | v :: vs => by
    show (wipe ((wipe σ vs).set v none) vs).set v none = (wipe σ vs).set v none
    rw [wipe_set, wipe_wipe σ vs, List.set_set]
/-! ### the whole of a set's comprehension -/
section
variable {X : Cx}
def tScG (w : World) (wi : TI) (g : TG) (tt : TT) (tb : Addr → TBd) (vs : List Nat) : TE := fun σ H Q => wi σ H fun J H1 => ∀ D, H1 D = none → tLp g tt (tb D) vs σ (Q (.ref D)) J (upd H1 D (SetO w D (fun _ => false) 0))
/-- the block's context -/
abbrev InBlk (X : Cx) (sc : Scope) (B : Cx → Prop) : Prop := ∀ (s : Shared) (H : Hp) (C : Addr) (cl : List (Str × Addr)) (fp : List Addr), B (X.blk s H sc (compEnvC sc cl C X.env) fp)
theorem pe_scG {elt tg src : Expr} {ifs : List Expr} {rest : List Comprehension} {sc : Scope} {pos : Pos} {own : List (Str × Nat)} {wi : TI} {g : TG} {tt : TT} {tb : Addr → TBd} {wb : List Nat} {body : Value → Env → Sem Unit} (hc : X.calm = true) (hN : X.N.Nodup) (hi : PI X tg src wi) (ok : BlkOk X.N X.env.scope sc own) (hw : ∀ j ∈ wb, j ∈ own.map (·.2))
    (hC : ∀ it acc env, compTurn (.SetComp elt (⟨tg, src, ifs, 0⟩ :: rest) sc pos) 0 it acc env = turnOf tg src ifs it env (body acc env) (.compLoop (.SetComp elt (⟨tg, src, ifs, 0⟩ :: rest) sc pos) 0 it acc env))
    (hg : InBlk X sc fun B => PG B tg g) (ht : InBlk X sc fun B => PTs B ifs tt) (hb : InBlk X sc fun B => ∀ D, PB B wb (body (.ref D) B.env) (tb D)) (hs : ∀ x, foldedSetIterable src X.env x = pure x := by intro _; rfl) :
    PE X (.SetComp elt (⟨tg, src, ifs, 0⟩ :: rest) sc pos) (tScG X.w wi g tt tb (own.map (·.2))) := by
  refine ⟨fun pins s σ H Q I q => ?_⟩
  rw [eval_SetComp]
  have free : ∀ y ∈ sc.names, y.2 = .free → ∃ c, X.env.cells.lookup y.1 = some c := fun y hy e => I.ok.has _ ((ok.free y hy e).imp id id)
  refine wpAny_comprehension_free (use := none) rfl hs (closure_ok free) ok.kind (fun y hy e => (ok.uniq y hy).trans (by rw [e])) (thn (hi.run pins s σ H _ I q) fun u s1 h1 => thn h1 fun v s2 h2 => newSet_ok (newEnv_comp ?_))
  obtain ⟨it, fp, tn, J, H2, rfl, I2, T, st, hf, q2⟩ := h2
  -- the new set's address, and the states with it and with the block's frame
  obtain ⟨D, hD⟩ : ∃ D, D = s2.heap.objs.size := ⟨_, rfl⟩
  obtain ⟨s3, hs3⟩ : ∃ s3 : Shared, s3 = { s2 with heap := s2.heap.push { cls := .type "set", dict := none, data := .set #[] 0 (.fresh 0 0 (!X.w.params.followText "set-order")) } } := ⟨_, rfl⟩
  have q3 := q2 D (by rw [hD]; exact I2.hok.fresh (Nat.le_refl _))
  obtain ⟨H3, hH3⟩ : ∃ H3, H3 = upd H2 D (SetO X.w D (fun _ => false) 0) := ⟨_, rfl⟩
  have I3 : Inv X pins σ H3 s3 := by
    subst hs3; subst hH3; subst hD
    exact I2.laid (t' := s2.toks) (fun b o e => Heap.get?_push_of_some _ e) (Nat.le_refl _) (setO_new (setR_fresh X.w))
  have old : ∀ b o, s2.heap.get? b = some o → s3.heap.get? b = some o := fun b o e => by rw [hs3]; exact Heap.get?_push_of_some _ e
  have f3 : ∀ b ∈ fp, FpOk X pins H3 b ∧ b < s3.heap.objs.size := fun b hb => by
    obtain ⟨o, e, _⟩ := T.obj _ _ st b hb
    have lt := Heap.lt_size e
    refine ⟨⟨?_, (hf b hb).2⟩, Heap.lt_size (old b o e)⟩
    rw [hH3, upd_ne (by rw [hD]; exact Nat.ne_of_lt lt)]
    exact (hf b hb).1
  have I4 := block_start I3 ok hN f3
  have B1 := hg s3 H3 s3.heap.objs.size (cellsFrom (s3.heap.objs.size + 1) sc.names (cloFrom X.env.cells sc.names [])) fp
  have B2 := ht s3 H3 s3.heap.objs.size (cellsFrom (s3.heap.objs.size + 1) sc.names (cloFrom X.env.cells sc.names [])) fp
  have B3 := hb s3 H3 s3.heap.objs.size (cellsFrom (s3.heap.objs.size + 1) sc.names (cloFrom X.env.cells sc.names [])) fp D
  have st4 : tn 0 (pushCells (s3.heap.push { cls := .type "dict", data := .dict #[] }) sc.names) := T.keep _ _ _ st fun b _ o e => pushCells_keeps _ _ _ _ (Heap.get?_push_of_some _ (old b o e))
  have hf4 : ∀ b ∈ fp, FpOk (X.blk s3 H3 sc (compEnvC sc (cellsFrom (s3.heap.objs.size + 1) sc.names (cloFrom X.env.cells sc.names [])) s3.heap.objs.size X.env) fp) [] H3 b := fun b hb =>
    ⟨(f3 b hb).1.1, (I4.ok.exf b hb).1, I4.ok.exfs b hb, .inl hb, fun x c e => (I4.ok.exf b hb).2 x c e, fun p hp => by cases hp⟩
  rw [← hH3] at q3
  have loop := clause_run (pins := []) (X := X.blk s3 H3 sc (compEnvC sc (cellsFrom (s3.heap.objs.size + 1) sc.names (cloFrom X.env.cells sc.names [])) s3.heap.objs.size X.env) fp) hc (fun _ _ h => h) (hC (.ref it) (.ref D) _) B1 B2 B3 hw T I4 st4 hf4 (by unfold tLp at q3 ⊢; rw [wipe_wipe]; exact q3)
  -- behind the loop: the def's own context again, and the block's frame let go
  have fin : ∀ s4 : Shared, (∃ H4, Inv (X.blk s3 H3 sc (compEnvC sc (cellsFrom (s3.heap.objs.size + 1) sc.names (cloFrom X.env.cells sc.names [])) s3.heap.objs.size X.env) fp) [] (wipe (wipe σ (own.map (·.2))) (own.map (·.2))) H4 s4 ∧ (∀ b ∈ fp, H4 b = none) ∧ Q (.ref D) H4) →
      ∃ m, s4.heap.Ns s3.heap.objs.size m ∧ ∀ h', Heap.SameBut s3.heap.objs.size s4.heap h' → EP X pins σ Q (.ref D) { s4 with heap := h' } := by
    rintro s4 ⟨H4, I5, _, z⟩
    obtain ⟨m, ns, _⟩ := I5.loc
    refine ⟨m, ns, fun h' sb => ?_⟩
    have I6 : Inv X pins σ H4 s4 := I3.call' (ch := fp) I5.os I5.base I5.hok I5.bare fun b hb => by
      obtain ⟨_, a1, _, a3, a4, a5⟩ := (f3 b hb).1
      exact ⟨a3, a1, a4, a5⟩
    obtain ⟨a0, a1, _, a3, a4, a5⟩ := I3.fpOk (H' := H4) (Nat.le_refl _) I5.free
    exact ⟨.ref D, H4, I6.turned (t' := s4.toks) (fun b o hb e => (sb.2 b hb).trans e) a0 a1 a3 a4 a5, rfl, z⟩
  subst hD; subst hs3
  refine codeAny_mono (clause_start (k := 0) rfl rfl loop (T.self _ 0 _ _ _ st4 loop)) fun r s4 h4 => ?_
  obtain ⟨rfl, h⟩ := h4
  exact fin s4 h
/-- {elt for tg in src if ..} of ints -/
theorem pe_sci1 {elt tg src : Expr} {ifs : List Expr} {sc : Scope} {pos : Pos} {own : List (Str × Nat)} {wi : TI} {g : TG} {tt : TT} {te : TE} (hc : X.calm = true) (hN : X.N.Nodup) (hi : PI X tg src wi) (ok : BlkOk X.N X.env.scope sc own)
    (hg : InBlk X sc fun B => PG B tg g) (ht : InBlk X sc fun B => PTs B ifs tt) (he : InBlk X sc fun B => PE B elt te) (hs : ∀ x, foldedSetIterable src X.env x = pure x := by intro _; rfl) : PE X (.SetComp elt [⟨tg, src, ifs, 0⟩] sc pos) (tScG X.w wi g tt (fun D => tAdd X.w D te) (own.map (·.2))) :=
  pe_scG (rest := []) (wb := []) hc hN hi ok (fun _ h => by cases h) (fun it acc env => turn_s1 ..) hg ht (fun s H C cl fp D => pb_add (fun _ _ h => h) (he s H C cl fp)) hs
/-- {elt for tg in src if .. for tg1 in src1 if ..} of ints -/
theorem pe_sci2 {elt tg src tg1 src1 : Expr} {ifs ifs1 : List Expr} {sc : Scope} {pos : Pos} {own : List (Str × Nat)} {vs1 : List Nat} {wi wi1 : TI} {g g1 : TG} {tt tt1 : TT} {te : TE} (hc : X.calm = true) (hN : X.N.Nodup) (hi : PI X tg src wi) (ok : BlkOk X.N X.env.scope sc own) (hv : ∀ j ∈ vs1, j ∈ own.map (·.2))
    (hg : InBlk X sc fun B => PG B tg g) (ht : InBlk X sc fun B => PTs B ifs tt) (hi1 : InBlk X sc fun B => PI B tg1 src1 wi1) (hg1 : InBlk X sc fun B => PG B tg1 g1) (ht1 : InBlk X sc fun B => PTs B ifs1 tt1) (he : InBlk X sc fun B => PE B elt te)
    (hs : ∀ x, foldedSetIterable src X.env x = pure x := by intro _; rfl) (hs1 : ∀ env x, foldedSetIterable src1 env x = pure x := by intro _ _; rfl) :
    PE X (.SetComp elt [⟨tg, src, ifs, 0⟩, ⟨tg1, src1, ifs1, 0⟩] sc pos) (tScG X.w wi g tt (fun D => tIn wi1 g1 tt1 (tAdd X.w D te) vs1) (own.map (·.2))) :=
  pe_scG (rest := [⟨tg1, src1, ifs1, 0⟩]) (wb := vs1) hc hN hi ok hv (fun it acc env => turn_s2a ..) hg ht
    (fun s H C cl fp D => pb_in (k := 1) hc (fun _ _ h => h) rfl (fun it => turn_s2b ..) (hs1 _) (hi1 s H C cl fp) (hg1 s H C cl fp) (ht1 s H C cl fp) (pb_add (fun _ _ h => h) (he s H C cl fp)) (fun _ h => by cases h)) hs
end
end Co

set_option Elab.async false
set_option linter.all false
set_option maxRecDepth 100000
set_option maxHeartbeats 4000000
namespace Co
open PySem PySem.Spec PyProof.Rows L2
/-! ### zip of a text and a tuple -/
def ItzST (K : PySem.W.Frag) (x : Str) (b : Addr) : It :=
  ⟨fun i H => ∃ (ys : List V), SqT K H b ys ∧ i < x.cps.size ∧ i < ys.length,
    fun i H v H' => ∃ T c y, v = .ref T ∧ H T = none ∧ H' = upd H T (.tup [.str ⟨#[c]⟩, y]) ∧ x.cps[i]? = some c ∧ ∀ ys, SqT K H b ys → ys[i]? = some y,
    fun i H => ∃ ys : List V, SqT K H b ys ∧ i ≤ x.cps.size ∧ i ≤ ys.length ∧ (i = x.cps.size ∨ i = ys.length)⟩
/-- the five objects of such a zip, as they stand before its turn `i` -/
structure ZAt (x : Str) (tk0 : Tok) (b z TI TO i1 i2 : Addr) (i : Nat) (h : Heap) : Prop where
  zip : IsZip h z TI TO .none
  ins : IsTupOf2 h TI (.ref i1) (.ref i2)
  outs : ∃ x y, IsTupOf2 h TO x y
  txt : h.IsStrIter i1 (strIterType x) x tk0 i
  tup : h.IsTupleIter i2 b i
/-- what is asked of each of five may be asked of one after the other -/
theorem all5 {p : Addr → Prop} {a b c d e : Addr} (ha : p a) (hb : p b) (hc : p c) (hd : p d) (he : p e) : ∀ y, y ∈ [a, b, c, d, e] → p y := by
  simpa using ⟨ha, hb, hc, hd, he⟩
theorem no5 {a b c d e y : Addr} (h : y ∉ [a, b, c, d, e]) : y ≠ a ∧ y ≠ b ∧ y ≠ c ∧ y ≠ d ∧ y ≠ e := by
  simpa [not_or] using h
theorem ZAt.small {x : Str} {tk0 : Tok} {b z TI TO i1 i2 : Addr} {i : Nat} {h : Heap} (q : ZAt x tk0 b z TI TO i1 i2 i h) : ∀ c, c ∈ [z, TI, TO, i1, i2] → c < h.objs.size := by
  obtain ⟨_, _, q3⟩ := q.outs
  obtain ⟨_, q4, _⟩ := q.txt
  obtain ⟨_, q5, _⟩ := q.tup
  exact all5 (Heap.lt_size q.zip) (Heap.lt_size q.ins) (Heap.lt_size q3) (Heap.lt_size q4) (Heap.lt_size q5)
theorem sep_of {z TI TO i1 i2 b : Addr} (D : ZipApart z TI TO i1 i2 b b) : ZipSep2 z TI TO i1 i2 [i1] [i2, b] := by
  have h1 := D.i1z.symm
  have h2 := D.i2z.symm
  have h3 := D.l1z.symm
  have h4 := D.l1TO.symm
  have h5 := D.l1i1.symm
  have h6 := D.i12.symm
  constructor <;> simp [D.TIz, D.TOz, D.TITO, D.TIi1, D.TIi2, D.TOi1, D.TOi2, D.i12, h1, h2, h3, h4, h5, h6]
theorem turn_zipST {P : Program} {w : World} {K : PySem.W.Frag} {elts : List Expr} {kk : Nat} {tpos : Pos} {x : Str} {tk0 : Tok} {b z TI TO i1 i2 : Addr} (D : ZipApart z TI TO i1 i2 b b) :
    Turn P w K (.Tuple elts kk tpos) (ItzST K x b) [z, TI, TO, i1, i2] z (ZAt x tk0 b z TI TO i1 i2) where
  mem := List.mem_cons_self
  obj := fun i h q => by
    obtain ⟨_, _, q3⟩ := q.outs
    obtain ⟨_, q4, _, d4⟩ := q.txt
    obtain ⟨_, q5, _, d5⟩ := q.tup
    refine all5 ⟨_, q.zip, ?_⟩ ⟨_, q.ins, ?_⟩ ⟨_, q3, ?_⟩ ⟨_, q4, ?_⟩ ⟨_, q5, ?_⟩ <;> intro v e <;> simp_all
  keep := fun i h h' q k => by
    have k' : ∀ c, c ∈ [z, TI, TO, i1, i2] → ∀ o, h.get? c = some o → h'.get? c = some o := k
    obtain ⟨u, v, q3⟩ := q.outs
    obtain ⟨o4, q4, r4⟩ := q.txt
    exact ⟨k' _ (by simp) _ q.zip, k' _ (by simp) _ q.ins, ⟨u, v, k' _ (by simp) _ q3⟩, ⟨o4, k' _ (by simp) _ q4, r4⟩, q.tup.at (k' _ (by simp))⟩
  item := by
    rintro X rfl rfl rfl hc i pins s σ H E I hf q ⟨ys, hy, l1, l2⟩
    obtain ⟨vs, rv, tv, _⟩ := I.tuple hy
    obtain ⟨_, _, q3⟩ := q.outs
    have hd : X.A.in1.handled = none := I.ok.hd hc
    obtain ⟨u, hu, ru⟩ := rv.get (List.getElem?_eq_getElem l2)
    have lv : i < vs.toArray.size := by
      have := (List.getElem?_eq_some_iff.mp hu).1
      simpa using this
    refine wpAny_pyNext_zipD2_item (sep_of D) (Draws.text hd i1 x tk0) (Draws.tuple hd i2 b D.l1i2 vs.toArray) q.zip q.ins q3 q.txt ⟨q.tup, tv⟩ l1 lv fun a1 a2 h1 t1 P1 P2 z1 o1 f1 f2 new _ kp => ?_
    obtain ⟨c, tc, hx, rfl⟩ := P1
    obtain rfl : u = a2 := by
      have : vs[i]? = some a2 := by simpa using P2
      simpa [hu] using this
    refine ⟨_, rfl, wpAny_letOwnedTupleGo_zip (s := { s with heap := h1, toks := t1 }) z1 fun h2 z2 sb => ?_⟩
    have sm := q.small
    have kp2 : ∀ a o, a ∉ [z, TI, TO, i1, i2] → s.heap.get? a = some o → h2.get? a = some o := fun a o na e => by
      obtain ⟨n1, _, n3, n4, n5⟩ := no5 na
      by_cases hb : a = TI
      · exact absurd hb (no5 na).2.1
      · exact (sb.2 a n1).trans (kp a o n1 n3 n4 n5 e)
    have nt : h2.get? s.heap.objs.size = some { cls := .type "tuple", data := .seq #[.str ⟨#[c]⟩ tc, u] } :=
      (sb.2 _ (Nat.ne_of_gt (sm z (by simp)))).trans new
    have pair : ObjOk X.prog X.w (upd H s.heap.objs.size (.tup [.str ⟨#[c]⟩, ys[i]])) h2 s.heap.objs.size (.tup [.str ⟨#[c]⟩, ys[i]]) :=
      ⟨(by decide : 2 ≤ sizeLine), [.str ⟨#[c]⟩ tc, u], .cons ⟨tc, rfl⟩ (.cons ru .nil), ⟨_, nt, rfl, _, rfl⟩⟩
    have J : L2.Inv X pins σ (upd H s.heap.objs.size (.tup [.str ⟨#[c]⟩, ys[i]])) { s with heap := h2, toks := t1 } :=
      I.turnedNew (t' := t1) (ch := [z, TI, TO, i1, i2]) kp2 hf (Nat.le_refl _) pair
    obtain ⟨ob, g1, r1⟩ := f1
    refine ⟨.ref s.heap.objs.size, _, J, rfl, ⟨_, c, ys[i], rfl, I.hok.fresh (Nat.le_refl _), rfl, hx, fun l hl => ?_⟩,
      { zip := z2, ins := (sb.2 _ D.TIz).trans (kp _ _ D.TIz D.TITO D.TIi1 D.TIi2 q.ins), outs := ⟨_, u, (sb.2 _ D.TOz).trans o1⟩, txt := ⟨ob, (sb.2 _ D.i1z).trans g1, r1⟩, tup := f2.1.at fun o e => (sb.2 _ D.i2z).trans e }, fun a ha => ?_⟩
    · obtain rfl := I.tuple_inj hl hy
      exact List.getElem?_eq_getElem l2
    · exact (upd_ne (Nat.ne_of_lt (sm a ha))).trans (hf a ha).1
  done := by
    rintro X rfl rfl rfl hc i pins s σ H E I hf q ⟨ys, hy, l1, l2, l3⟩
    obtain ⟨vs, rv, tv, _⟩ := I.tuple hy
    obtain ⟨_, _, q3⟩ := q.outs
    have hd : X.A.in1.handled = none := I.ok.hd hc
    have e2 : vs.toArray.size = ys.length := by simpa using rv.length.symm
    refine wpAny_pyNext_zipD2_end (sep_of D) (Draws.text hd i1 x tk0) (Draws.tuple hd i2 b D.l1i2 vs.toArray) q.zip q.ins q3 q.txt ⟨q.tup, tv⟩ l1 (by omega) (by omega) fun h' tk kp => ⟨rfl, I.turnedL (t' := tk) (ch := [z, TI, TO, i1, i2]) (fun a o na e => ?_) hf⟩
    obtain ⟨n1, _, n3, n4, n5⟩ := no5 na
    exact kp a o n1 n3 n4 n5 e
  self := fun _ _ _ _ _ q h => wpAny_pyIter_zip q.zip h
def iZipST (K : PySem.W.Frag) (ta : TA) : TI := fun σ H R => ta σ H fun vs H1 => ∃ x b ys, vs = [.str x, .ref b] ∧ SqT K H1 b ys ∧ R (ItzST K x b) H1
theorem pi_zipST {X : Cx} {e e2 : Expr} {ta : TA} {p pos tpos : Pos} {elts : List Expr} {kk : Nat} (hg : Gl X "zip") (hm : X.mg "zip" = none) (ha : PA X [e, e2] ta)
    (hs : starEach [e, e2] X.env = (false, eval e X.env) :: starEach [e2] X.env := by rfl) (hpl : (backTo pos (starEach [e2] X.env)).any (·.1) = false := by rfl) :
    PI X (.Tuple elts kk tpos) (.Call (.Name "zip" p) [e, e2] [] pos) (iZipST X.K ta) where
  run pins s σ H R I h := by
    have go := ha.run pos pins s σ H _ I h
    refine Call_ (ld_blt I hg hm PyProof.Rows.boot_zip (PyProof.Rows.callWith_type1 (thn go ?_) hs hpl))
    rintro us s1 ⟨vs, H1, J, r1, x, b, ys, rfl, hy, q⟩
    match us, r1 with
    | [_, _], .cons ⟨tk0, rfl⟩ (.cons rfl .nil) =>
      obtain ⟨its, _, tv, _⟩ := J.tuple hy
      obtain ⟨_, hb, _⟩ := id tv
      have lb := Heap.lt_size hb
      let n := s1.heap.objs.size
      have up : ∀ c, c ∈ [n + 4, n + 2, n + 3, n, n + 1] → n ≤ c := all5 (by omega) (by omega) (by omega) (by omega) (by omega)
      refine zip_begins2 (begins_text x tk0) (begins_tuple b its.toArray) trivial (show s1.heap.IsTuple b its.toArray from tv) fun h' q1 q2 q3 q4 q5 _ kp => wpAny_pyIter_zip q1 ?_
      exact ⟨n + 4, [n + 4, n + 2, n + 3, n, n + 1], _, _, H1, rfl, J.kept (t' := s1.toks) kp, turn_zipST (PySem.W.ktu_apart n b b lb lb),
        ⟨q1, q2, ⟨_, _, q3⟩, ⟨_, q4, rfl, rfl⟩, ⟨_, q5, rfl, rfl⟩⟩, fun c hc => J.fpOk (up c hc) (J.hok.fresh (up c hc)), q⟩

open PpSet
theorem pg_tupK {X : Cx} {K' : PySem.W.Frag} {es : List Expr} {k : Nat} {t : TGs} {n : Nat} {pos : Pos} (hK : X.K = K') (hc : X.calm = true) (h : PGs X es t)
    (hn : (assignEach es X.env).length = n := by rfl) (hst : (assignEach es X.env).findIdx? (·.1) = none := by rfl) : PG X (.Tuple es k pos) (gTup K' n t) := by
  subst hK
  exact pg_tup hc h hn hst
section
variable {X : Cx} {K' : PySem.W.Frag}
theorem op_in_seqK (hK : X.K = K') : OpR X (compareOp .In) (rIn K' false) := by subst hK; exact op_in_seq
theorem op_notIn_seqK (hK : X.K = K') : OpR X (compareOp .NotIn) (rIn K' true) := by subst hK; exact op_notIn_seq
theorem ix_listK (hK : X.K = K') : IxR X (rIxL K') := by subst hK; exact ix_list
theorem ix_tupK (hK : X.K = K') : IxR X (rIxT K') := by subst hK; exact ix_tup
theorem call_lenQK (hK : X.K = K') : CallR X (.builtin "len") (rLenQ K') := by subst hK; exact call_lenQ
end
/-! ### readings of these -/
def kZ (K : PySem.W.Frag) (R : It → Hp → Prop) : List V → Hp → Prop := fun vs H1 => ∃ x b ys, vs = [.str x, .ref b] ∧ SqT K H1 b ys ∧ R (ItzST K x b) H1
theorem w_zST {K : PySem.W.Frag} {ta : TA} {σ : L2.St} {H : Hp} {R : It → Hp → Prop} (q : ta σ H (kZ K R)) : iZipST K ta σ H R := q
theorem w_forZ {K : PySem.W.Frag} {g : TG} {tb : TS} {D : Ends} {σ : L2.St} {H : Hp} {x : Str} {b : Addr} (ys : List V) (Pv : Nat → L2.St → Hp → Prop) (hq : SqT K H b ys) (hle : x.cps.size = ys.length) (h0 : Pv 0 σ H) (hl : ∀ i σ H, Pv i σ H → SqT K H b ys)
    (hs : ∀ i c y T σ H H', x.cps[i]? = some c → ys[i]? = some y → Pv i σ H → H T = none → Same H H' → H' T = some (.tup [.str ⟨#[c]⟩, y]) → g (.ref T) σ H' fun σ2 H2 => tb { D with nx := Pv (i + 1), ct := Pv (i + 1), bk := D.nx } σ2 H2)
    (hd : ∀ σ H, Pv ys.length σ H → D.nx σ H) : kZ K (kFor g tb D σ) [.str x, .ref b] H := by
  refine ⟨x, b, ys, rfl, hq, fun i m σ H => m = ys.length - i ∧ i ≤ ys.length ∧ Pv i σ H, ⟨ys.length, by simp, Nat.zero_le _, h0⟩, ?_⟩
  rintro i m σ H ⟨rfl, hi, p⟩
  have q := hl i σ H p
  by_cases hlt : i < ys.length
  · refine .inr ⟨⟨ys, q, by omega, hlt⟩, Pv (i + 1), fun σ' H' p' => ⟨ys.length - (i + 1), by omega, rfl, hlt, p'⟩, fun v H' y => ?_⟩
    obtain ⟨T, c, y, rfl, nT, rfl, hc, hy⟩ := y
    exact hs i c y T σ H _ hc (hy ys q) p nT (Same.new nT) upd_same
  · have e : i = ys.length := by omega
    subst e
    exact .inl ⟨⟨ys, q, by omega, Nat.le_refl _, .inr rfl⟩, hd σ H p⟩
theorem w_lcZ {K : PySem.W.Frag} {g : TG} {tt : TT} {te : TE} {vs : List Nat} {σ : L2.St} {H : Hp} {Q : VK} {x : Str} {b : Addr} (ys : List V) (Pv : Addr → Nat → Hp → Prop) (hq : SqT K H b ys) (hle : x.cps.size = ys.length) (h0 : ∀ D, H D = none → Pv D 0 (upd H D (.lst []))) (hl : ∀ D i H, Pv D i H → SqT K H b ys)
    (hs : ∀ D i c y T H H', x.cps[i]? = some c → ys[i]? = some y → Pv D i H → H T = none → Same H H' → H' T = some (.tup [.str ⟨#[c]⟩, y]) → g (.ref T) (wipe σ vs) H' fun σ2 H2 => wipe σ2 vs = wipe σ vs ∧ tt σ2 H2 fun b H3 =>
      if b = true then te σ2 H3 fun y H4 => ∃ acc, H4 D = some (.lst acc) ∧ acc.length < sizeLine ∧ Pv D (i + 1) (upd H4 D (.lst (acc ++ [y]))) else Pv D (i + 1) H3) (hd : ∀ D H', H D = none → Pv D ys.length H' → Q (.ref D) H') : kZ K (kLc g tt te vs σ Q) [.str x, .ref b] H := by
  refine ⟨x, b, ys, rfl, hq, fun D nD => ⟨fun i m H => m = ys.length - i ∧ i ≤ ys.length ∧ Pv D i H, ⟨ys.length, by simp, Nat.zero_le _, h0 D nD⟩, ?_⟩⟩
  rintro i m H' ⟨rfl, hi, p⟩
  have q := hl D i H' p
  by_cases hlt : i < ys.length
  · refine .inr ⟨⟨ys, q, by omega, hlt⟩, Pv D (i + 1), fun H2 p' => ⟨ys.length - (i + 1), by omega, rfl, hlt, p'⟩, fun v H2 y => ?_⟩
    obtain ⟨T, c, y, rfl, nT, rfl, hc, hy⟩ := y
    exact hs D i c y T H' _ hc (hy ys q) p nT (Same.new nT) upd_same
  · have e : i = ys.length := by omega
    subst e
    exact .inl ⟨⟨ys, q, by omega, Nat.le_refl _, .inr rfl⟩, hd D H' nD p⟩
def kSt (R : It → Hp → Prop) : V → Hp → Prop := fun v H1 => ∃ x, v = .str x ∧ R (Its x) H1
theorem w_iSt {te : TE} {σ : L2.St} {H : Hp} {R : It → Hp → Prop} (q : te σ H (kSt R)) : iStr te σ H R := q
theorem w_forS {g : TG} {tb : TS} {D : Ends} {σ : L2.St} {H : Hp} {x : Str} (Pv : Nat → L2.St → Hp → Prop) (h0 : Pv 0 σ H)
    (hs : ∀ i c σ H, x.cps[i]? = some c → Pv i σ H → g (.str ⟨#[c]⟩) σ H fun σ2 H2 => tb { D with nx := Pv (i + 1), ct := Pv (i + 1), bk := D.nx } σ2 H2)
    (hd : ∀ σ H, Pv x.cps.size σ H → D.nx σ H) : kSt (kFor g tb D σ) (.str x) H := by
  refine ⟨x, rfl, fun i m σ H => m = x.cps.size - i ∧ i ≤ x.cps.size ∧ Pv i σ H, ⟨x.cps.size, by simp, Nat.zero_le _, h0⟩, ?_⟩
  rintro i m σ H ⟨rfl, hi, p⟩
  by_cases hlt : i < x.cps.size
  · refine .inr ⟨hlt, Pv (i + 1), fun σ' H' p' => ⟨x.cps.size - (i + 1), by omega, rfl, hlt, p'⟩, fun v H' y => ?_⟩
    obtain ⟨rfl, c, hc, rfl⟩ := y
    exact hs i c σ _ hc p
  · have e : i = x.cps.size := by omega
    subst e
    exact .inl ⟨Nat.le_refl _, hd σ H p⟩
/-- t[1:] of a tuple of two and more -/
theorem w_sl {r : V → Option Int → Option Int → Hp → VK → Prop} {te : TE} {tl th : TO} {σ : L2.St} {H : Hp} {Q : VK} (q : te σ H fun x H1 => tl σ H1 fun l H2 => th σ H2 fun u H3 => r x l u H3 Q) : tSl r te tl th σ H Q := q
theorem w_part {te : TE} {σ : L2.St} {H : Hp} {Q : Option Int → Hp → Prop} (q : te σ H fun x H1 => ∃ i, x = .int i ∧ Q (some i) H1) : tPart te σ H Q := q
theorem w_noPart {σ : L2.St} {H : Hp} {Q : Option Int → Hp → Prop} (q : Q none H) : tNoPart σ H Q := q
theorem w_exI {i : Int} {Q : Int → Prop} (q : Q i) : ∃ j, V.int i = .int j ∧ Q j := ⟨i, rfl, q⟩
theorem w_rSl1 {K : PySem.W.Frag} {H : Hp} {Q : VK} {a : Addr} {v y : V} {r : List V} (h : SqT K H a (v :: y :: r)) (q : ∀ p H', H p = none → Same H H' → H' p = some (.tup (y :: r)) → Q (.ref p) H') : rSlA K (.ref a) (some 1) none H Q := by
  refine ⟨a, _, rfl, h, fun ⟨e, _⟩ => ?_, fun _ p np => ?_⟩
  · rw [show HT.sIx (v :: y :: r).length 0 (some 1) = min 1 (v :: y :: r).length from HT.sIx_nat _ 0 1] at e
    simp at e
  · refine q p _ np (Same.new np) ?_
    have e : cutV (v :: y :: r) (some 1) none = y :: r := by
      unfold cutV
      rw [show HT.sIx (v :: y :: r).length 0 (some 1) = min 1 (v :: y :: r).length from HT.sIx_nat _ 0 1, HT.sIx_none]
      rw [show min 1 (v :: y :: r).length = 1 by simp]
      simp
    rw [e]; exact upd_same
def kScG (w : World) (g : TG) (tt : TT) (tb : Addr → TBd) (vs : List Nat) (σ : L2.St) (Q : VK) : It → Hp → Prop := fun J H1 => ∀ D, H1 D = none → tLp g tt (tb D) vs σ (Q (.ref D)) J (upd H1 D (SetO w D (fun _ => false) 0))
theorem w_sc {w : World} {wi : TI} {g : TG} {tt : TT} {tb : Addr → TBd} {vs : List Nat} {σ : L2.St} {H : Hp} {Q : VK} (q : wi σ H (kScG w g tt tb vs σ Q)) : tScG w wi g tt tb vs σ H Q := q
/-- a clause's loop over a list or a tuple, by an invariant -/
theorem w_lpG {It0 : It} {g : TG} {tt : TT} {tb : TBd} {vs : List Nat} {σ : L2.St} {H : Hp} {Z : Hp → Prop} (xs : List V) (Pv : Nat → Hp → Prop) (h0 : Pv 0 H) (go : ∀ i H, i < xs.length → Pv i H → It0.go i H) (stop : ∀ H, Pv xs.length H → It0.stop xs.length H) (yld : ∀ i H x H', Pv i H → It0.yld i H x H' → H' = H ∧ xs[i]? = some x)
    (hs : ∀ i x H, xs[i]? = some x → Pv i H → g x (wipe σ vs) H fun σ2 H2 => wipe σ2 vs = wipe σ vs ∧ tt σ2 H2 fun b H3 => if b = true then tb σ2 H3 (Pv (i + 1)) else Pv (i + 1) H3) (hd : ∀ H, Pv xs.length H → Z H) : tLp g tt tb vs σ Z It0 H := by
  refine ⟨fun i m H => m = xs.length - i ∧ i ≤ xs.length ∧ Pv i H, ⟨xs.length, by simp, Nat.zero_le _, h0⟩, ?_⟩
  rintro i m H' ⟨rfl, hi, p⟩
  rcases Nat.lt_or_ge i xs.length with lt | ge
  · refine .inr ⟨go i H' lt p, Pv (i + 1), fun H2 p2 => ⟨xs.length - (i + 1), by omega, rfl, lt, p2⟩, fun v H2 y => ?_⟩
    obtain ⟨rfl, e⟩ := yld i H' v H2 p y
    exact hs i v _ e p
  · obtain rfl : i = xs.length := by omega
    exact .inl ⟨stop H' p, hd H' p⟩
theorem w_lpL {K : PySem.W.Frag} {g : TG} {tt : TT} {tb : TBd} {vs : List Nat} {σ : L2.St} {H : Hp} {Z : Hp → Prop} {a : Addr} (xs : List V) (Pv : Nat → Hp → Prop) (h0 : Pv 0 H) (hl : ∀ i H, Pv i H → SqL K H a xs)
    (hs : ∀ i x H, xs[i]? = some x → Pv i H → g x (wipe σ vs) H fun σ2 H2 => wipe σ2 vs = wipe σ vs ∧ tt σ2 H2 fun b H3 => if b = true then tb σ2 H3 (Pv (i + 1)) else Pv (i + 1) H3) (hd : ∀ H, Pv xs.length H → Z H) : tLp g tt tb vs σ Z (Itl K a) H :=
  w_lpG xs Pv h0 (fun i H lt p => ⟨xs, xs[i], hl i H p, by simp [lt]⟩) (fun H p => ⟨xs, hl _ H p, Nat.le_refl _⟩) (fun i H x H' p y => ⟨y.1, y.2 xs (hl i H p)⟩) hs hd
theorem w_lpT {K : PySem.W.Frag} {g : TG} {tt : TT} {tb : TBd} {vs : List Nat} {σ : L2.St} {H : Hp} {Z : Hp → Prop} {a : Addr} (xs : List V) (Pv : Nat → Hp → Prop) (h0 : Pv 0 H) (hl : ∀ i H, Pv i H → SqT K H a xs)
    (hs : ∀ i x H, xs[i]? = some x → Pv i H → g x (wipe σ vs) H fun σ2 H2 => wipe σ2 vs = wipe σ vs ∧ tt σ2 H2 fun b H3 => if b = true then tb σ2 H3 (Pv (i + 1)) else Pv (i + 1) H3) (hd : ∀ H, Pv xs.length H → Z H) : tLp g tt tb vs σ Z (Itt K a) H :=
  w_lpG xs Pv h0 (fun i H lt p => ⟨xs, xs[i], hl i H p, by simp [lt]⟩) (fun H p => ⟨xs, hl _ H p, Nat.le_refl _⟩) (fun i H x H' p y => ⟨y.1, y.2 xs (hl i H p)⟩) hs hd
theorem w_scL {K : PySem.W.Frag} {w : World} {g : TG} {tt : TT} {te : TE} {vs : List Nat} {σ : L2.St} {H : Hp} {Q : VK} {a : Addr} (xs : List V) (Pv : Addr → Nat → Hp → Prop) (hS : SqL K H a xs) (h0 : ∀ D, H D = none → Pv D 0 (upd H D (SetO w D (fun _ => false) 0))) (hl : ∀ D i H, Pv D i H → SqL K H a xs)
    (hs : ∀ D i x H, xs[i]? = some x → Pv D i H → g x (wipe σ vs) H fun σ2 H2 => wipe σ2 vs = wipe σ vs ∧ tt σ2 H2 fun b H3 => if b = true then te σ2 H3 fun y H4 => ∃ (c : Int) (S : Int → Bool) (n : Nat), y = .int c ∧ H4 D = some (SetO w D S n) ∧ n + 1 < scanBound ∧ Pv D (i + 1) (upd H4 D (SetO w D (fun j => S j || decide (j = c)) (if S c = true then n else n + 1))) else Pv D (i + 1) H3)
    (hd : ∀ D H', H D = none → Pv D xs.length H' → Q (.ref D) H') : kIL K (kScG w g tt (fun D => tAdd w D te) vs σ Q) (.ref a) H :=
  ⟨a, rfl, ⟨_, hS⟩, fun D nD => w_lpL xs (Pv D) (h0 D nD) (hl D) (hs D) fun H' p => hd D H' nD p⟩
theorem asc_eq : ∀ {l m : List Int}, l.Pairwise (· < ·) → m.Pairwise (· < ·) → (∀ k, k ∈ l ↔ k ∈ m) → l = m
  | [], [], _, _, _ => rfl
  | [], y :: m, _, _, h => by have := (h y).mpr (by simp); simp at this
  | x :: l, [], _, _, h => by have := (h x).mp (by simp); simp at this
  | x :: l, y :: m, p, q, h => by
    rw [List.pairwise_cons] at p q
    have e : x = y := by
      have a := (h x).mp (by simp)
      have b := (h y).mpr (by simp)
      rw [List.mem_cons] at a b
      rcases a with a | a
      · exact a
      · rcases b with b | b
        · exact b.symm
        · have := q.1 x a; have := p.1 y b; omega
    subst e
    congr 1
    refine asc_eq p.2 q.2 fun k => ⟨fun hk => ?_, fun hk => ?_⟩
    · have := (h k).mp (List.mem_cons_of_mem _ hk)
      rw [List.mem_cons] at this
      rcases this with e | e
      · subst e; have := p.1 k hk; omega
      · exact e
    · have := (h k).mpr (List.mem_cons_of_mem _ hk)
      rw [List.mem_cons] at this
      rcases this with e | e
      · subst e; have := q.1 k hk; omega
      · exact e
/-! ### texts, indices, sets -/
def Evl0.rInSQ : R2 := fun x y H Q => ∃ (c : Nat) (z : Str), x = .str ⟨#[c]⟩ ∧ y = .str z ∧ Q (.bl (decide (c ∈ z.cps.toList))) H
theorem op_inSQ {X : Cx} : OpR X (compareOp .In) Evl0.rInSQ := op_in_sign
theorem w_m1 {r : V → List V → Hp → VK → Prop} {to te : TE} {σ : L2.St} {H : Hp} {Q : VK} (q : to σ H fun x H1 => (∃ a, x = .str a) ∧ te σ H1 fun y H2 => r x [y] H2 Q) : tM1 r to te σ H Q := q
theorem w_isS {a : Str} {B : Prop} (q : B) : (∃ b, V.str a = .str b) ∧ B := ⟨⟨a, rfl⟩, q⟩
def rStartsQ : V → List V → Hp → VK → Prop := fun x xs H Q => ∃ a b, x = .str a ∧ xs = [.str b] ∧ Q (.bl (Txt.startswith a b)) H
theorem mt_startsQ {X : Cx} : MtR X "str.startswith" rStartsQ := mt_startswith
theorem w_starts {a b : Str} {H : Hp} {Q : VK} (q : Q (.bl (Txt.startswith a b)) H) : rStartsQ (.str a) [.str b] H Q := ⟨a, b, rfl, rfl, q⟩
def rTIxQ (K : PySem.W.Frag) : V → List V → Hp → VK → Prop := fun x xs H Q => ∃ p, ∃ ys : List Str, ∃ z j, x = .ref p ∧ xs = [.str z] ∧ SqT K H p (ys.map V.str) ∧ ys[j]? = some z ∧ (∀ m, m < j → ys[m]? ≠ some z) ∧ Q (.int (j : Nat)) H
theorem mt_tupIxQ {X : Cx} : MtR X "tuple.index" (rTIxQ X.K) := mt_tup_index
theorem w_tix {K : PySem.W.Frag} {O : Addr} {ys : List Str} {z : Str} {j : Nat} {H : Hp} {Q : VK} (h : SqT K H O (ys.map V.str)) (h1 : ys[j]? = some z) (h2 : ∀ m, m < j → ys[m]? ≠ some z) (q : Q (.int (j : Nat)) H) : rTIxQ K (.ref O) [.str z] H Q := ⟨O, ys, z, j, rfl, rfl, h, h1, h2, q⟩
theorem w_aug {te : TE} {ti : TIp} {D : Ends} {σ : L2.St} {H : Hp} {i : Nat} {x : V} (h : σ[i]? = some (some x)) (q : te σ H fun y H1 => ti x y H1 fun z H2 => D.nx (σ.set i (some z)) H2) : tAug i te ti D σ H := ⟨x, h, q⟩
theorem w_ipI {f : Int → Int → Int} {i j : Int} {H : Hp} {Q : VK} (q : Q (.int (f i j)) H) : ipI f (.int i) (.int j) H Q := ⟨i, j, rfl, rfl, q⟩
theorem w_lenTs {K : PySem.W.Frag} {p : Addr} {xs : List V} {H : Hp} {Q : VK} (h : SqT K H p xs) (q : Q (.int (xs.length : Int)) H) : rLenQ K [.ref p] H Q := ⟨p, xs, rfl, .inr h, q⟩
theorem w_stR {K : PySem.W.Frag} {p : Addr} {xs : List V} {H : Hp} {B : List V → Prop} (h : H p = some (.lst xs)) (q : B xs) : ∃ p' xs', V.ref p = .ref p' ∧ (SqT K H p' xs' ∨ SqL K H p' xs') ∧ B xs' := ⟨p, xs, rfl, .inr (.of h), q⟩
theorem eqV_str {a b : Str} : eqV (.str a) (.str b) = (a == b) := rfl
theorem w_lix {K : PySem.W.Frag} {p : Addr} {ys : List Str} {z : Str} {j : Nat} {H : Hp} {Q : VK} (h : H p = some (.lst (ys.map V.str))) (h1 : ys[j]? = some z) (h2 : ∀ m, m < j → ys[m]? ≠ some z) (q : Q (.int (j : Nat)) H) : rIndex K (.ref p) [.str z] H Q := by
  refine ⟨p, ys.map V.str, .str z, j, .str z, rfl, rfl, .of h, rfl, ?_, ?_, ?_, fun m y hm hy => ?_, q⟩
  · rw [List.all_eq_true]
    intro v hv
    obtain ⟨s, _, rfl⟩ := List.mem_map.mp hv
    rfl
  · rw [List.getElem?_map, h1]; rfl
  · rw [eqV_str]; exact beq_self_eq_true z
  · rw [List.getElem?_map] at hy
    cases e : ys[m]? with
    | none => rw [e] at hy; cases hy
    | some s =>
      rw [e] at hy
      cases hy
      rw [eqV_str]
      exact beq_eq_false_iff_ne.mpr fun z' => h2 m hm (by rw [e, z'])
theorem _root_.L2.Same.sqT {K : PySem.W.Frag} {H H' : Hp} {a : Addr} {xs : List V} (e : Same H H') (h : SqT K H a xs) : SqT K H' a xs := by
  rcases h with (h | ⟨o, h⟩) | h
  · exact .inl (.inl (e _ _ h))
  · exact .inl (.inr ⟨o, e _ _ h⟩)
  · exact .inr h
theorem w_lenTn {K : PySem.W.Frag} {p : Addr} {xs : List V} {H : Hp} {Q : VK} (n : Nat) (h : SqT K H p xs) (e : xs.length = n) (q : Q (.int (n : Int)) H) : rLenQ K [.ref p] H Q := ⟨p, xs, rfl, .inr h, by rw [e]; exact q⟩
theorem w_bm {K : PySem.W.Frag} {T : String} {r : V → List V → Hp → VK → Prop} {to : TE} {t : TA} {σ : L2.St} {H : Hp} {Q : VK} (q : to σ H fun x H1 => tyV K T x H1 ∧ t σ H1 fun xs H2 => r x xs H2 Q) : tBM K T r to t σ H Q := q
theorem w_tyL {K : PySem.W.Frag} {p : Addr} {xs : List V} {H : Hp} {B : Prop} (h : H p = some (.lst xs)) (q : B) : tyV K "list" (.ref p) H ∧ B := ⟨.inl ⟨rfl, xs, .inl (.inl h)⟩, q⟩
theorem w_append {p : Addr} {xs : List V} {y : V} {H : Hp} {Q : VK} (h : H p = some (.lst xs)) (hl : xs.length < sizeLine) (q : ∀ H', H' p = some (.lst (xs ++ [y])) → But p H H' → Q .non H') : rAppend (.ref p) [y] H Q := ⟨p, xs, y, rfl, rfl, h, hl, q _ upd_same But.set⟩
def rListQ (K : PySem.W.Frag) : List V → Hp → VK → Prop := fun xs H Q => ∃ p ys, xs = [.ref p] ∧ (SqL K H p ys ∨ SqT K H p ys) ∧ ∀ l, H l = none → Q (.ref l) (upd H l (.lst ys))
theorem call_listQ {X : Cx} : CallR X (.type "list") (rListQ X.K) := call_list_of
theorem w_listT {K : PySem.W.Frag} {p : Addr} {ys : List V} {H : Hp} {Q : VK} (h : SqT K H p ys) (q : ∀ l H', H l = none → Same H H' → H' l = some (.lst ys) → Q (.ref l) H') : rListQ K [.ref p] H Q := ⟨p, ys, rfl, .inr h, fun l nl => q l _ nl (Same.new nl) upd_same⟩
theorem w_listL {K : PySem.W.Frag} {p : Addr} {ys : List V} {H : Hp} {Q : VK} (h : SqL K H p ys) (q : ∀ l H', H l = none → Same H H' → H' l = some (.lst ys) → Q (.ref l) H') : rListQ K [.ref p] H Q := ⟨p, ys, rfl, .inl h, fun l nl => q l _ nl (Same.new nl) upd_same⟩
def rTupQ (K : PySem.W.Frag) : List V → Hp → VK → Prop := fun xs H Q => ∃ p ys, xs = [.ref p] ∧ ((SqL K H p ys ∧ ∀ l, H l = none → Q (.ref l) (upd H l (.tup ys))) ∨ (SqT K H p ys ∧ Q (.ref p) H))
theorem call_tupQ {X : Cx} : CallR X (.type "tuple") (rTupQ X.K) := call_tuple_of
theorem w_tupL {K : PySem.W.Frag} {p : Addr} {ys : List V} {H : Hp} {Q : VK} (h : SqL K H p ys) (q : ∀ l H', H l = none → Same H H' → H' l = some (.tup ys) → Q (.ref l) H') : rTupQ K [.ref p] H Q := ⟨p, ys, rfl, .inl ⟨h, fun l nl => q l _ nl (Same.new nl) upd_same⟩⟩
theorem w_sortedSet {w : World} {a : Addr} {S : Int → Bool} {n : Nat} {H : Hp} {Q : VK} (h : H a = some (SetO w a S n)) (hn : n < 64) (q : ∀ (ns : List Int) (p : Addr) H', ns.Pairwise (· < ·) → (∀ k : Int, k ∈ ns ↔ S k = true) → ns.length = n → H p = none → Same H H' → H' p = some (.lst (ns.map V.int)) → Q (.ref p) H') : rSortedSet w [.ref a] H Q :=
  ⟨a, S, n, rfl, h, hn, fun ns p h1 h2 h3 np => q ns p _ h1 h2 h3 np (Same.new np) upd_same⟩
theorem w_star {K : PySem.W.Frag} {te : TE} {t : TA} {σ : L2.St} {H : Hp} {Q : List V → Hp → Prop} (q : te σ H fun x H1 => ∃ p xs, x = V.ref p ∧ (SqT K H1 p xs ∨ SqL K H1 p xs) ∧ t σ H1 fun ys H2 => Q (xs ++ ys) H2) : StX.tStar K te t σ H Q := q
theorem w_inSg {c : Nat} {z : Str} {H : Hp} {Q : VK} (q : Q (.bl (decide (c ∈ z.cps.toList))) H) : Evl0.rInSQ (.str ⟨#[c]⟩) (.str z) H Q := ⟨c, z, rfl, rfl, q⟩
theorem w_eqD {K : PySem.W.Frag} {x y : V} {d : PyData} {H : Hp} {Q : VK} (h1 : Dp K H x d) (h2 : Dp K H y d) (hs : SeqAt.shaped d = true) (q : Q (.bl true) H) : rEqD K x y H Q := ⟨d, d, h1, h2, hs, hs, by rw [SeqAt.eqv_refl _ (SeqAt.canLay_of_shaped hs)]; exact q⟩
theorem w_neD {K : PySem.W.Frag} {x y : V} {d : PyData} {H : Hp} {Q : VK} (h1 : Dp K H x d) (h2 : Dp K H y d) (hs : SeqAt.shaped d = true) (q : Q (.bl false) H) : rNeD K x y H Q := ⟨d, d, h1, h2, hs, hs, by rw [SeqAt.eqv_refl _ (SeqAt.canLay_of_shaped hs)]; exact q⟩
end Co

set_option Elab.async false
set_option linter.all false
set_option maxRecDepth 100000
set_option maxHeartbeats 4000000
namespace Co
open PySem PySem.Spec PyProof.Rows L2
open AutoSeq1 (wpAny_loadPart')
/-! ### enumerate of a tuple -/
abbrev tupIt (t : Addr) : Obj := { cls := .type "tuple_iterator", data := .fields #[.ref t, .int 0 0] }
abbrev enumOb (it : Addr) : Obj := { cls := .type "enumerate", data := .fields #[.none, .bool false, .ref it, rawInt 0, .none, .none] }
theorem iter_tup {prog : Program} {w : World} {A : Around} {E : Value → Shared → Prop} {s : Shared} {t : Addr} {items : Array Value} {Q : Value → Shared → Prop} (h : s.heap.IsTuple t items) (q : Q (.ref s.heap.objs.size) { s with heap := s.heap.push (tupIt t) }) : wpAny (model prog w) A (pyIter (.ref t)) Q E s :=
  (begins_tuple t items).iter prog w A E s Q h q
theorem meets_enumT (t : Addr) (o : Obj) (items : Array Value) (ho : o.cls = .type "tuple") :
    Meets (Builtin.«enumerate.__new__» ⟨[.type "enumerate", .ref t], []⟩) (fun _ R s => (s.heap.get? t = some o ∧ s.heap.IsTuple t items) ∧
      R (.ok (.ret (.ref (s.heap.push (tupIt t)).objs.size))) { s with heap := (s.heap.push (tupIt t)).push (enumOb s.heap.objs.size) }) :=
  .of_wp fun prog w A R s h => by
    obtain ⟨hp, g, d, tk, os⟩ := s; obtain ⟨⟨hl, hT⟩, h⟩ := h
    obtain ⟨c, dct, dt, sl⟩ := o
    replace ho : c = .type "tuple" := ho
    subst ho
    have hsub := sub_enumerate
    wp_walk using wpAny_loadPart' hl
    refine wpAny_stack_any fun st => wpAny_pure ?_
    split
    · rename_i c _ _ _ _ _
      cases (c == Value.type "enumerate")
      · wp_walk using wpAny_loadPart' hl, iter_tup hT
        exact ⟨_, rfl, h⟩
      · wp_walk using wpAny_loadPart' hl, iter_tup hT
        exact ⟨_, rfl, h⟩
    · wp_walk using wpAny_loadPart' hl, iter_tup hT
      exact ⟨_, rfl, h⟩
theorem call_enumT {prog : Program} {w : World} {A : Around} {E : Value → Shared → Prop} {s : Shared} {t : Addr} {items : Array Value} {Q : Value → Shared → Prop} (hT : s.heap.IsTuple t items)
    (q : ∀ h', IsEnum h' (s.heap.objs.size + 1) s.heap.objs.size 0 .none → h'.IsTupleIter s.heap.objs.size t 0 → (∀ b o, s.heap.get? b = some o → h'.get? b = some o) → Q (.ref (s.heap.objs.size + 1)) { s with heap := h' }) :
    wpAny (model prog w) A (call (.type "enumerate") [.ref t]) Q E s := by
  obtain ⟨o, ho, hc, hd⟩ := id hT
  refine callType_new F.called_enumerate (by decide) (F.typeCall_enumerate_1 _) (F.newCall_enumerate_1 _) (fun obj => F.args_object_init_2 obj _) F.entry_enumerate_new (meets_enumT t o items hc) ⟨⟨ho, hT⟩, ?_⟩
  have hz : (s.heap.push (tupIt t)).objs.size = s.heap.objs.size + 1 := Heap.size_push ..
  have he : IsEnum ((s.heap.push (tupIt t)).push (enumOb s.heap.objs.size)) (s.heap.objs.size + 1) s.heap.objs.size 0 .none := by
    have z := Heap.get?_push_size (s.heap.push (tupIt t)) (o := enumOb s.heap.objs.size) rfl
    rw [hz] at z; exact z
  show _ ∧ _
  rw [hz]
  exact ⟨⟨_, he, rfl⟩, q _ he ⟨_, Heap.get?_push_of_some _ (Heap.get?_push_size _ rfl), rfl, rfl⟩ fun b o x => Heap.get?_push_of_some _ (Heap.get?_push_of_some _ x)⟩
def IteT (K : PySem.W.Frag) (a : Addr) : It :=
  ⟨fun i H => ∃ xs x, SqT K H a xs ∧ xs[i]? = some x,
    fun i H v H' => ∃ T x, v = .ref T ∧ H T = none ∧ H' = upd H T (.tup [.int (i : Nat), x]) ∧ ∀ xs, SqT K H a xs → xs[i]? = some x,
    fun i H => ∃ xs, SqT K H a xs ∧ xs.length = i⟩
/-- the two objects of such an enumerate, as they stand before its turn `i` -/
structure EAt (a e it : Addr) (i : Nat) (h : Heap) : Prop where
  num : ∃ old, IsEnum h e it ((i : Nat) : Int) old
  tup : h.IsTupleIter it a i
theorem all2 {p : Addr → Prop} {a b : Addr} (ha : p a) (hb : p b) : ∀ y, y ∈ [a, b] → p y := by simpa using ⟨ha, hb⟩
theorem EAt.small {a e it : Addr} {i : Nat} {h : Heap} (q : EAt a e it i h) : ∀ c, c ∈ [e, it] → c < h.objs.size := by
  obtain ⟨_, q1⟩ := q.num
  obtain ⟨_, q2, _⟩ := q.tup
  exact all2 (Heap.lt_size q1) (Heap.lt_size q2)
theorem turn_enumT {P : Program} {w : World} {K : PySem.W.Frag} {elts : List Expr} {kk : Nat} {tpos : Pos} (a e it : Addr) (na : a ≠ it) (ne : e ≠ it) (nea : e ≠ a) :
    Turn P w K (.Tuple elts kk tpos) (IteT K a) [e, it] e (EAt a e it) where
  mem := List.mem_cons_self
  obj := fun i h q => by
    obtain ⟨_, q1⟩ := q.num
    obtain ⟨_, q2, _, d2⟩ := q.tup
    refine all2 ⟨_, q1, ?_⟩ ⟨_, q2, ?_⟩ <;> intro v z <;> simp_all
  keep := fun i h h' q k => by
    obtain ⟨old, q1⟩ := q.num
    exact ⟨⟨old, k e (by simp) _ q1⟩, q.tup.at (k it (by simp))⟩
  item := by
    rintro X rfl rfl rfl hc i pins s σ H E I hf q ⟨xs, x, hy, hx⟩
    obtain ⟨vs, rv, tv, _⟩ := I.tuple hy
    obtain ⟨old, q1⟩ := q.num
    have sm := q.small
    have hd : X.A.in1.handled = none := I.ok.hd hc
    obtain ⟨u, hu, ru'⟩ := rv.get hx
    have lv : i < vs.toArray.size := by
      have := (List.getElem?_eq_some_iff.mp hu).1
      simpa using this
    refine wpAny_pyNext_enum_itemD (Draws.tuple hd it a na vs.toArray) q1 ⟨q.tup, tv⟩ lv ne (by simpa using ⟨ne, nea⟩) fun y h1 t1 Py o1 f1 new _ kp => ?_
    obtain rfl : u = y := by
      have : vs[i]? = some y := by simpa using Py
      simpa [hu] using this
    refine ⟨_, rfl, wpAny_letOwnedTupleGo_enum (s := { s with heap := h1, toks := t1 + 1 }) o1 fun h2 o2 sb => ?_⟩
    have nt : h2.get? s.heap.objs.size = some { cls := .type "tuple", data := .seq #[.int i t1, u] } :=
      (sb.2 _ (Nat.ne_of_gt (sm e (by simp)))).trans new
    have pair : ObjOk X.prog X.w (upd H s.heap.objs.size (.tup [.int (i : Nat), x])) h2 s.heap.objs.size (.tup [.int (i : Nat), x]) :=
      ⟨(by decide : 2 ≤ sizeLine), [.int i t1, u], .cons ⟨_, rfl⟩ (.cons ru' .nil), ⟨_, nt, rfl, _, rfl⟩⟩
    have kp2 : ∀ c o, c ∉ [e, it] → s.heap.get? c = some o → h2.get? c = some o := fun c o nc z => by
      have nn : c ≠ e ∧ c ≠ it := by simpa [not_or] using nc
      exact (sb.2 c nn.1).trans (kp c o nn.1 nn.2 z)
    have J : L2.Inv X pins σ (upd H s.heap.objs.size (.tup [.int (i : Nat), x])) { s with heap := h2, toks := t1 + 1 } :=
      I.turnedNew (t' := t1 + 1) (ch := [e, it]) kp2 hf (Nat.le_refl _) pair
    refine ⟨.ref s.heap.objs.size, _, J, rfl, ⟨_, x, rfl, I.hok.fresh (Nat.le_refl _), rfl, fun l hl => by obtain rfl := I.tuple_inj hl hy; exact hx⟩, ⟨⟨u, by simpa using o2⟩, f1.1.at fun o z => (sb.2 it ne.symm).trans z⟩, fun c hc => (upd_ne (Nat.ne_of_lt (sm c hc))).trans (hf c hc).1⟩
  done := by
    rintro X rfl rfl rfl hc i pins s σ H E I hf q ⟨xs, hy, hx⟩
    obtain ⟨vs, rv, tv, _⟩ := I.tuple hy
    obtain ⟨old, q1⟩ := q.num
    have lv : vs.toArray.size = i := by simpa [hx] using rv.length.symm
    have hd : X.A.in1.handled = none := I.ok.hd hc
    obtain ⟨r0, r1, _, r3, r4, r5⟩ := hf it (by simp)
    exact wpAny_pyNext_enum_endD (Draws.tuple hd it a na vs.toArray) q1 ⟨by rw [lv]; exact q.tup, tv⟩ fun h' eb => ⟨rfl, I.turned (t' := s.toks) (fun b o hb z => eb b o hb z) r0 r1 r3 r4 r5⟩
  self := fun _ _ _ _ _ q h => by obtain ⟨_, q1⟩ := q.num; exact wpAny_pyIter_enum q1 h
def iEnumT (K : PySem.W.Frag) (ta : TA) : TI := fun σ H R => ta σ H fun vs H1 => ∃ a xs, vs = [.ref a] ∧ SqT K H1 a xs ∧ R (IteT K a) H1
theorem pi_enumT {X : Cx} {e : Expr} {ta : TA} {p pos tpos : Pos} {elts : List Expr} {kk : Nat} (hg : Gl X "enumerate") (hm : X.mg "enumerate" = none) (ha : PA X [e] ta) (hs : starEach [e] X.env = [(false, eval e X.env)] := by rfl) :
    PI X (.Tuple elts kk tpos) (.Call (.Name "enumerate" p) [e] [] pos) (iEnumT X.K ta) where
  run pins s σ H R I h := by
    have go := ha.run pos pins s σ H _ I h
    refine Call_ (ld_blt I hg hm boot_enumerate (PyProof.Rows.callWith_type1 (thn go ?_) hs rfl))
    rintro us s1 ⟨vs, H1, J, r1, a, xs, rfl, hy, q⟩
    match us, r1 with
    | [_], .cons rfl .nil =>
      obtain ⟨its, _, tv, _⟩ := J.tuple hy
      obtain ⟨_, ha, _⟩ := id tv
      have la := Heap.lt_size ha
      let n := s1.heap.objs.size
      have up : ∀ c, c ∈ [n + 1, n] → n ≤ c := all2 (by omega) (by omega)
      refine call_enumT (show s1.heap.IsTuple a its.toArray from tv) fun h' q1 q2 kp => wpAny_pyIter_enum q1 ?_
      exact ⟨n + 1, [n + 1, n], _, _, H1, rfl, J.kept (t' := s1.toks) kp, turn_enumT a (n + 1) n (Nat.ne_of_lt la) (Nat.succ_ne_self n) (Nat.ne_of_gt (Nat.lt_succ_of_lt la)), ⟨⟨.none, q1⟩, q2⟩, fun c hc => J.fpOk (up c hc) (J.hok.fresh (up c hc)), q⟩
def kEnT (K : PySem.W.Frag) (R : It → Hp → Prop) : List V → Hp → Prop := fun vs H1 => ∃ a xs, vs = [.ref a] ∧ SqT K H1 a xs ∧ R (IteT K a) H1
theorem w_iEnT {K : PySem.W.Frag} {ta : TA} {σ : L2.St} {H : Hp} {R : It → Hp → Prop} (q : ta σ H (kEnT K R)) : iEnumT K ta σ H R := q
theorem w_forE {K : PySem.W.Frag} {g : TG} {tb : TS} {D : Ends} {σ : L2.St} {H : Hp} {a : Addr} (xs : List V) (Pv : Nat → L2.St → Hp → Prop) (hq : SqT K H a xs) (h0 : Pv 0 σ H) (hl : ∀ i σ H, Pv i σ H → SqT K H a xs)
    (hs : ∀ i x σ H t H1, xs[i]? = some x → Pv i σ H → H t = none → Same H H1 → H1 t = some (.tup [.int (i : Nat), x]) → g (.ref t) σ H1 fun σ2 H2 => tb { D with nx := Pv (i + 1), ct := Pv (i + 1), bk := D.nx } σ2 H2)
    (hd : ∀ σ H, Pv xs.length σ H → D.nx σ H) : kEnT K (kFor g tb D σ) [.ref a] H := by
  refine ⟨a, xs, rfl, hq, fun i m σ H => m = xs.length - i ∧ i ≤ xs.length ∧ Pv i σ H, ⟨xs.length, by simp, Nat.zero_le _, h0⟩, ?_⟩
  rintro i m σ H ⟨rfl, hi, p⟩
  have q := hl i σ H p
  by_cases hlt : i < xs.length
  · refine .inr ⟨⟨xs, xs[i], q, List.getElem?_eq_getElem hlt⟩, Pv (i + 1), fun σ' H' p' => ⟨xs.length - (i + 1), by omega, rfl, hlt, p'⟩, fun v H' y => ?_⟩
    obtain ⟨T, y, rfl, nT, rfl, hy⟩ := y
    exact hs i y σ H T _ (hy xs q) p nT (Same.new nT) upd_same
  · have e : i = xs.length := by omega
    subst e
    exact .inl ⟨⟨xs, q, rfl⟩, hd σ H p⟩
theorem w_catG {K : PySem.W.Frag} {a b : Addr} {xs ys : List V} {H : Hp} {Q : VK} (h1 : SqT K H a xs) (h2 : SqT K H b ys) (hl : xs.length + ys.length ≤ sizeLine) (q : ∀ p H', Same H H' → SqT K H' p (xs ++ ys) → Q (.ref p) H') : rCatA K (.ref a) (.ref b) H Q :=
  ⟨a, b, xs, ys, rfl, rfl, h1, h2, hl, fun e => q b H (fun _ _ e => e) (by rw [e]; exact h2), fun _ e => q a H (fun _ _ e => e) (by rw [e, List.append_nil]; exact h1), fun _ _ p np => q p _ (Same.new np) (.inl (.inl upd_same))⟩
theorem w_slG {K : PySem.W.Frag} {a : Addr} {xs : List V} {lo hi : Option Int} {H : Hp} {Q : VK} (h : SqT K H a xs) (q : ∀ p H', Same H H' → SqT K H' p (cutV xs lo hi) → Q (.ref p) H') : rSlA K (.ref a) lo hi H Q :=
  ⟨a, xs, rfl, h, fun ⟨e1, e2⟩ => q a H (fun _ _ e => e) (by unfold cutV; rw [e1, e2]; simpa using h), fun _ p np => q p _ (Same.new np) (.inl (.inl upd_same))⟩
end Co

set_option Elab.async false
set_option linter.all false
set_option maxRecDepth 100000
set_option maxHeartbeats 4000000
namespace Co
open PySem PySem.Spec PyProof.Rows L2
/-! ### repr of data at any depth, where nothing is being shown -/
/-- d may be shown: no dict, small ints and letters -/
structure Shw (d : PyData) : Prop where
  show_ : d.showable = true
  dict_ : d.hasDict = false
  deep : d.depth ≤ 64
  len : d.shown.length ≤ sizeLine
def rRepr (K : PySem.W.Frag) : List V → Hp → VK → Prop := fun xs H Q => ∃ a d, xs = [.ref a] ∧ Dp K H (.ref a) d ∧ Shw d ∧ Q (.str d.shown) H
theorem call_reprD {X : Cx} (hg : X.A.guards = some []) (hu : X.A.units + 70 < cLine) : CallR X (.builtin "repr") (rRepr X.K) := by
  intro pins s σ H xs us Q I r h
  obtain ⟨a, d, rfl, hd, S, q⟩ := h
  obtain ⟨u, rfl, rx⟩ := vals1 r
  cases rx
  obtain ⟨as, rd⟩ := Dp.reads I d _ _ hd rfl
  refine repr_of_reads' rd S.show_ (fun z => absurd (S.dict_.symm.trans z) (by decide)) hg (by have := S.deep; omega) (fun b o e => e) (fun h' u tk hk => ⟨.str d.shown, H, I.kept (t' := tk) hk, ⟨u, rfl⟩, q⟩) S.len
theorem w_repr {K : PySem.W.Frag} {a : Addr} {d : PyData} {H : Hp} {Q : VK} (h : Dp K H (.ref a) d) (hs : Shw d) (q : Q (.str d.shown) H) : rRepr K [.ref a] H Q := ⟨a, d, rfl, h, hs, q⟩
/-! ### the law's own run: nothing stands below it -/
def RunG (P : Program) (w : World) (K : PySem.W.Frag) (mg : Str → Option Value) (base : Heap) (f : Addr) (fd : FuncData) (x : Str) (sp : Sp) : Prop :=
  ∀ (s : Shared) (H : Hp) (args : Args) (us : List Value) (vs : List V) (Q : VK), Env0 P w K mg base callerA [] s H → BindsTo s fd args ([x].zip us) → Vals vs us → vs.length = 1 → sp vs H Q E0 → codeAny (model P w) callerA (.call (.ref f) args) (CR CX0 [] P w H s Q E0) s
theorem guards_callerA (env : Env) : (callerA.deeper env).guards = some [] := rfl
theorem runG_of {P : Program} {w : World} {K : PySem.W.Frag} {mg : Str → Option Value} {base : Heap} {x qual par : Str} {st : Stmt} {f : Addr} {fd : FuncData} {N : List Str} {k : Nat} {sp : Sp} (F : Fun K x qual st f fd) (S : FnScope N [par] (defScope st)) (hr : Room (k + 1) callerA)
    (hbody : ∀ (cdv : Value) (s : Shared) (H : Hp) (vs : List V) (Q : VK), Room k (callerA.deeper (envOfC qual (defScope st) s.heap.objs.size f cdv)) → sp vs H Q E0 →
      ∃ t, PSs (cxOf CX0 P w K mg base N qual (defScope st) f cdv callerA [] s H E0).nox (defBody st) t ∧ t { nx := fun _ H' => Q .non H', rt := Q } (start N vs) H) : RunG P w K mg base f fd par sp := by
  obtain ⟨oc, od, kV, doc, pm, an, cdv, ct, osl, rfl, lk, hcd⟩ := F.ex
  intro s H args us vs Q e0 hb r hl hsp
  have keep : ∀ b o, base.get? b = some o → s.heap.get? b = some o := fun b o e => (e0.bs b o e).1
  have KX := e0.mod.kin.keeps keep
  have slots : ∀ y ∈ [par].zip us, (defScope st).names.lookup y.1 = some .local ∨ ((defScope st).names.lookup y.1 = some .cell ∧ ((cellsFrom (s.heap.objs.size + 1) (defScope st).names []).lookup y.1).isSome = true) := by
    rintro ⟨n, v⟩ hy
    have m := S.par n (List.of_mem_zip hy).1
    exact m.imp id fun q => ⟨q, PySem.W.cellsFrom_some _ _ _ (.inl q)⟩
  refine codeAny_call_function hr.depth (KX _ _ lk) rfl S.co S.gen rfl (PySem.W.codeRec_of KX hcd) (hb _ _ _ _ (wpAny_newFunctionEnv_cells S.kind slots fun env he s1 inC => ?_))
  cases he
  obtain ⟨t, ht, hq⟩ := hbody cdv s H vs Q (hr.deeper _) hsp
  have I := inv_start (CX := CX0) (E := E0) (cd := cdv) (qual := qual) S hr.hd e0 hl r inC
  refine ⟨(e0.mod.nolimit.keeps keep).keeps inC.toInCall.keep, codeAny_func (wpAny_mono (ht.nox.run [] s1 (start N vs) H _ I hq) (fun fl s' hs => ?_) fun e s' hs => hs)⟩
  match fl, hs with
  | .ret u, ⟨v, σ', H', J, rv, q⟩ => exact ⟨v, H', J.os, J.bare, J.base, J.hok, rv, q⟩
  | .next, ⟨σ', H', J, q⟩ => exact ⟨V.non, H', J.os, J.bare, J.base, J.hok, rfl, q⟩
  | .brk, ⟨_, _, _, q⟩ => exact False.elim q
  | .cont, ⟨_, _, _, q⟩ => exact False.elim q
/-- how the law's call ends -/
def Ended (s1 : Shared) : Result → Shared → Prop := fun r s' => r = .ok (.ret (.bool true)) ∧ OldK s1.heap s'.heap ∧ s'.os = s1.os ∧ AllBare s'.gens
section
variable {P : Program} {w : World} {K : PySem.W.Frag} {mg mb : Str → Option Value} {fa a : Addr} {fd : FuncData} {x : Str} {sp : Sp} {s1 : Shared} {vs : List Value} {ns : List Int}
/-- from a heap that tracks the script at most -/
theorem call_from (KX : K.In s1.heap) (hns : s1.heap.Ns mainGlobals mg) (hb : s1.heap.Ns builtinsNs mb) (hbb : ∀ y : Str, y ≠ "__name__" → mb y = bootBuiltins y) (hlim : s1.heap.NoLimit) (hg : s1.gens = #[])
    (ha : ∃ xs n, (s1.heap.get? a).map (·.data) = some (.seq xs n)) (F : ∀ base : Heap, K.In base → base.Ns mainGlobals mg → RunG P w K mg base fa fd x sp) (hbind : ∀ (s : Shared) (u : Value), BindsTo s fd ⟨[u], []⟩ [(x, u)])
    {H : Hp} (hO : Only H) (hok : HOk P w H s1.heap) (hA : ∀ b, b ≠ a → H b = none) (hK : H a = none ∨ K.lookup a = none) (hsp : sp [.ref a] H (fun v _ => v = .bl true) E0) :
    codeAny (model P w) callerA (.call (.ref fa) ⟨[.ref a], []⟩) (Ended s1) s1 := by
  have out : ∀ {b : Addr} {o : Obj} {es : Array DictEntry} {ep : Nat}, s1.heap.get? b = some o → o.data = .dict es ep → H b = none := by
    intro b o es ep e d
    by_cases z : b = a
    · subst z
      obtain ⟨xs, n, q⟩ := ha
      rw [e, Option.map_some, d] at q
      cases q
    · exact hA b z
  have nsT : ∀ {b : Addr} {m : Str → Option Value}, s1.heap.Ns b m → (hidT s1.heap H).Ns b m := by
    rintro b m ⟨o, es, ep, e, d, r⟩
    exact ⟨o, es, ep, hidT_get e (out e d), d, r⟩
  have KT : K.In (hidT s1.heap H) := by
    intro b o e
    refine hidT_get (KX b o e) ?_
    by_cases z : b = a
    · subst z
      exact hK.resolve_right fun q => by rw [q] at e; cases e
    · exact hA b z
  obtain ⟨mc, l1, l2⟩ := hlim
  have M : Mod K mg (hidT s1.heap H) := ⟨KT, nsT hns, ⟨mb, nsT hb, hbb⟩, mc, nsT l1, l2⟩
  have e0 : Env0 P w K mg (hidT s1.heap H) callerA [] s1 H := { frames := rfl, mod := M, bs := fun b o e => of_hidT e, bsz := Nat.le_of_eq (hidT_size _ _), funs := trivial, frf := fun b z => absurd (show b ∈ ([] : List Addr) from z) (by simp), hok := hok, bare := .of_eq hg }
  refine codeAny_mono (F _ KT (nsT hns) s1 H _ [.ref a] [.ref a] _ e0 (hbind s1 _) (.cons rfl .nil) rfl hsp) ?_
  rintro (e | fl) s' h
  · exact h.elim
  · match fl, h with
    | .ret u, ⟨v, H', os, bare, un, hok', r', q⟩ =>
      cases (show v = .bl true from q)
      cases (show u = Value.bool true from r')
      refine ⟨rfl, OldK.of_keep fun b o e => ?_, os, bare⟩
      rcases hO b with z | ⟨ob, xs, z⟩
      · exact un.keep b o e z (fun m => nomatch m) (fun m => nomatch m)
      · have e1 := (hok b _ z).1
        have e2 := (hok' b _ (un.frzs b ob _ z)).1
        cases e.symm.trans e1
        exact e2
theorem law_callG (KX : K.In s1.heap) (hns : s1.heap.Ns mainGlobals mg) (hb : s1.heap.Ns builtinsNs mb) (hbb : ∀ y : Str, y ≠ "__name__" → mb y = bootBuiltins y) (hlim : s1.heap.NoLimit) (hg : s1.gens = #[])
    (ha : s1.heap.get? a = some { cls := .type "list", data := .seq vs.toArray }) (hi : IntsAre vs ns) (hl : ns.length ≤ sizeLine) (F : ∀ base : Heap, K.In base → base.Ns mainGlobals mg → RunG P w K mg base fa fd x sp) (hbind : ∀ (s : Shared) (u : Value), BindsTo s fd ⟨[u], []⟩ [(x, u)])
    (hsp : ∀ H : Hp, Only H → SqL K H a (ns.map V.int) → sp [.ref a] H (fun v _ => v = .bl true) E0) : codeAny (model P w) callerA (.call (.ref fa) ⟨[.ref a], []⟩) (Ended s1) s1 := by
  have rv := vals_ints hi
  have hl' : vs.toArray.size ≤ sizeLine := by rw [List.size_toArray, hi.length]; exact hl
  have haq : ∃ xs n, (s1.heap.get? a).map (·.data) = some (.seq xs n) := ⟨_, _, by rw [ha]; rfl⟩
  cases hk : K.lookup a with
  | some o =>
    have e := (KX a o hk).symm.trans ha
    cases e
    have O : Only fun _ => none := fun _ => .inl rfl
    exact call_from KX hns hb hbb hlim hg haq F hbind O (fun b u z => by cases z) (fun _ _ => rfl) (.inl rfl) (hsp _ O (.inr ⟨_, vs.toArray, _, hk, rfl, rfl, rfl, hl', by simpa using rv⟩))
  | none =>
    let fz : HO := .frz { cls := .type "list", data := .seq vs.toArray } (.lst (ns.map V.int))
    have at_a : ∀ {b : Addr} {u : HO}, (if b = a then some fz else none) = some u → b = a ∧ u = fz := by
      intro b u z
      by_cases q : b = a
      · rw [if_pos q] at z; exact ⟨q, (Option.some.inj z).symm⟩
      · rw [if_neg q] at z; cases z
    have O : Only fun b => if b = a then some fz else none := fun b => by
      by_cases q : b = a
      · exact .inr ⟨_, _, if_pos q⟩
      · exact .inl (if_neg q)
    refine call_from KX hns hb hbb hlim hg haq F hbind O (fun b u z => ?_) (fun b q => if_neg q) (.inr hk) (hsp _ O (.inl (.inr ⟨_, if_pos rfl⟩)))
    obtain ⟨rfl, rfl⟩ := at_a z
    exact ⟨ha, by rw [List.length_map]; exact hl, vs, _, rv, ha⟩
end
/-- the goal that k_head leaves, from the law's run -/
theorem walk_ofG {l : PySem.W.OpenLaw} {n : Nat} {q : Program} {loose : List Str} {XP : (Str → Option Value) → Heap → Prop} {YP : World → Heap → Prop} {d : DefRec} {K : Params → PySem.W.Frag} {sp : World → Sp} {x : Str}
    (hn : l.most = some n) (hn2 : n ≤ sizeLine) (hdf : d.params.defaults = []) (hY : ∀ (w : World) (h : Heap), YP w h → (K w.params).In h)
    (F : ∀ (w : World) (mg : Str → Option Value) (fa : Addr) (h : Heap), (K w.params).In h → h.Ns mainGlobals mg → mg d.name = some (.ref fa) →
      ∃ fd : FuncData, (∀ (s : Shared) (u : Value), BindsTo s fd ⟨[u], []⟩ [(x, u)]) ∧ ∀ base : Heap, (K w.params).In base → base.Ns mainGlobals mg → RunG l.prog w (K w.params) mg base fa fd x (sp w))
    (hsp : ∀ (w : World) (H : Hp) (a : Addr) (ns : List Int), ns.length ≤ n → Only H → SqL (K w.params) H a (ns.map V.int) → sp w [.ref a] H (fun v _ => v = .bl true) E0) :
    PySem.W.WalkO q loose XP YP l.row.toRowW d [] (fun f vs => PySem.call f vs) := by
  refine Att.attach_call hn hdf fun w _ s1 mg mb fa o pm cd doc a vs ns G Y _ _ _ hmg hobj hints hlen hg => ?_
  have KX := hY w _ Y
  obtain ⟨fd, hb, hF⟩ := F w mg fa _ KX G.T.g hmg
  exact law_callG KX G.T.g G.T.b G.T.builtins G.T.nolimit hg hobj hints (Nat.le_trans hlen hn2) hF hb fun H hO hS => hsp w H a ns hlen hO hS
end Co
namespace Co
open PySem PySem.Spec PyProof.Rows L2
section
variable {X : Cx} {K' : PySem.W.Frag}
theorem call_tupQK (hK : X.K = K') : CallR X (.type "tuple") (rTupQ K') := by subst hK; exact call_tupQ
theorem call_listQK (hK : X.K = K') : CallR X (.type "list") (rListQ K') := by subst hK; exact call_listQ
end
theorem hu70 {A : Around} {k : Nat} (hr : Room k A) : A.units + 70 < cLine := by have := hr.un; omega
end Co
namespace Co
open PySem PySem.Spec PyProof.Rows L2
/-! ### data of rows of ints -/
theorem lay_ints : ∀ xs : List Int, PyData.canLayAll0 (xs.map .int) = true ∧ PyData.depthAll (xs.map .int) = 0
  | [] => by simp [PyData.canLayAll0, PyData.depthAll]
  | x :: r => by
    have := lay_ints r
    simp [PyData.canLayAll0, PyData.depthAll, PyData.canLay0, PyData.depth, this.1, this.2]
theorem dpInts {K : PySem.W.Frag} {H : Hp} : ∀ xs : List Int, DpAll K H (xs.map V.int) (xs.map .int)
  | [] => .nil
  | x :: r => .cons (.int x) (dpInts r)
def rowD (bs : List Int) : PyData := .tuple (bs.map .int)
def rowsD (B : List (List Int)) : PyData := .tuple (B.map rowD)
theorem dpRow {K : PySem.W.Frag} {H : Hp} {a : Addr} {bs : List Int} (h : SqT K H a (bs.map V.int)) : Dp K H (.ref a) (rowD bs) := .tup h (dpInts bs)
theorem dpAllRows {K : PySem.W.Frag} {H : Hp} : ∀ (as : List V) (B : List (List Int)), as.length = B.length → (∀ (j : Nat) (v : V) (bs : List Int), as[j]? = some v → B[j]? = some bs → ∃ a, v = V.ref a ∧ SqT K H a (bs.map V.int)) → DpAll K H as (B.map rowD)
  | [], [], _, _ => .nil
  | [], _ :: _, e, _ => by cases e
  | _ :: _, [], e, _ => by cases e
  | v :: as, bs :: B, e, h => by
    obtain ⟨a, rfl, q⟩ := h 0 v bs rfl rfl
    exact .cons (dpRow q) (dpAllRows as B (Nat.succ.inj e) fun j v' bs' h1 h2 => h (j + 1) v' bs' h1 h2)
theorem lay_rows : ∀ B : List (List Int), PyData.canLayAll0 (B.map rowD) = true ∧ PyData.depthAll (B.map rowD) ≤ 1
  | [] => by simp [PyData.canLayAll0, PyData.depthAll]
  | x :: r => by
    obtain ⟨h1, h2⟩ := lay_rows r
    obtain ⟨l1, l2⟩ := lay_ints x
    constructor
    · simp only [List.map_cons, PyData.canLayAll0, rowD, PyData.canLay0, l1, Bool.true_and]
      exact h1
    · simp only [List.map_cons, PyData.depthAll, rowD, PyData.depth, l2]
      have : PyData.depthAll (List.map (fun bs => PyData.tuple (List.map PyData.int bs)) r) ≤ 1 := h2
      omega
theorem rows_shaped (B : List (List Int)) : SeqAt.shaped (rowsD B) = true := by
  have l := lay_rows B
  simp only [SeqAt.shaped, rowsD, PyData.canLay0, PyData.depth, l.1, Bool.true_and, decide_eq_true_eq]
  omega
end Co

set_option Elab.async false
set_option linter.all false
set_option maxRecDepth 100000
set_option maxHeartbeats 4000000
namespace Co
open PySem PySem.Spec PyProof.Rows L2
/-! ### data small enough to be shown and compared -/
structure SmD (n k : Nat) (d : PyData) : Prop where
  lay : d.canLay0 = true
  sh : d.intsShort 13 = true
  shw : d.showable = true
  w : d.weight + 1 ≤ n
  dp : d.depth ≤ k
structure SmAll (n k : Nat) (ds : List PyData) : Prop where
  lay : PyData.canLayAll0 ds = true
  sh : PyData.intsShortAll 13 ds = true
  shw : PyData.showableAll ds = true
  w : PyData.weightAll ds ≤ n
  dp : PyData.depthAll ds ≤ k
theorem SmD.shaped {n k : Nat} {d : PyData} (h : SmD n k d) (hk : k ≤ 64) : SeqAt.shaped d = true := by
  have := h.dp
  unfold SeqAt.shaped
  rw [h.lay, Bool.true_and, decide_eq_true_eq]
  omega
theorem SmD.shown {n k : Nat} {d : PyData} (h : SmD n k d) (hk : k ≤ 64) (hn : n ≤ 1048577) : Shw d := by
  have := h.dp
  have hw := h.w
  exact ⟨h.shw, PyData.hasDict_of_canLay d h.lay, by omega, PyData.shown_fits (B := 13) (by decide) (by decide) (PyData.leavesShort_of_canLay0 13 d h.lay h.sh) (by rw [show (2 : Nat) ^ 20 = 1048576 from rfl]; omega)⟩
theorem SmAll.nil {k : Nat} : SmAll 0 k [] := ⟨by simp [PyData.canLayAll0], by simp [PyData.intsShortAll], by simp [PyData.showableAll], by simp [PyData.weightAll], by simp [PyData.depthAll]⟩
theorem SmAll.cons {n m k : Nat} {d : PyData} {ds : List PyData} (h : SmD n k d) (hs : SmAll m k ds) : SmAll (n + m) k (d :: ds) := by
  have h1 := h.w; have h2 := hs.w; have h3 := h.dp; have h4 := hs.dp
  refine ⟨by simp [PyData.canLayAll0, h.lay, hs.lay], by simp [PyData.intsShortAll, h.sh, hs.sh], by simp [PyData.showableAll, h.shw, hs.shw], ?_, ?_⟩
  · simp only [PyData.weightAll]; omega
  · simp only [PyData.depthAll]; omega
theorem SmAll.tup {n k : Nat} {ds : List PyData} (h : SmAll n k ds) : SmD (n + 1) (k + 1) (.tuple ds) := by
  have h2 := h.w; have h4 := h.dp
  exact ⟨by simpa [PyData.canLay0] using h.lay, by simpa [PyData.intsShort] using h.sh, by simpa [PyData.showable] using h.shw, by simp only [PyData.weight]; omega, by simp only [PyData.depth]; omega⟩
theorem SmAll.lst {n k : Nat} {ds : List PyData} (h : SmAll n k ds) : SmD (n + 1) (k + 1) (.list ds) := by
  have h2 := h.w; have h4 := h.dp
  exact ⟨by simpa [PyData.canLay0] using h.lay, by simpa [PyData.intsShort] using h.sh, by simpa [PyData.showable] using h.shw, by simp only [PyData.weight]; omega, by simp only [PyData.depth]; omega⟩
theorem SmD.int {k : Nat} {i : Int} (h : i.natAbs < 1000000000000) : SmD 41 k (.int i) := by
  have hl : i.natAbs ≠ 0 → i.natAbs.log2 < 40 := fun z => (Nat.log2_lt z).2 (Nat.lt_trans h (by decide))
  refine ⟨by simp [PyData.canLay0], ?_, ?_, ?_, by simp [PyData.depth]⟩
  · simp only [PyData.intsShort, decide_eq_true_eq]; exact PyData.shown_int_le h
  · simp only [PyData.showable, decide_eq_true_eq]
    by_cases z : i.natAbs = 0
    · rw [z]; decide
    · exact Nat.lt_trans (hl z) (by decide)
  · simp only [PyData.weight]
    split
    · omega
    · rename_i z
      have := hl (by intro q; apply z; simp; omega)
      omega
theorem SmD.bool {k : Nat} (b : Bool) : SmD 1 k (.bool b) := ⟨by simp [PyData.canLay0], by simp [PyData.intsShort], by simp [PyData.showable], by simp [PyData.weight], by simp [PyData.depth]⟩
theorem SmD.non {k : Nat} : SmD 1 k .none := ⟨by simp [PyData.canLay0], by simp [PyData.intsShort], by simp [PyData.showable], by simp [PyData.weight], by simp [PyData.depth]⟩
theorem SmD.str {k m : Nat} {x : Str} (h : PyData.strOk x = true) (hm : x.cps.size ≤ m) : SmD (m + 1) k (.str x) := ⟨by simpa [PyData.canLay0] using h, by simp [PyData.intsShort], by simp [PyData.showable], by simp only [PyData.weight]; omega, by simp [PyData.depth]⟩
theorem SmD.mono {n k n' k' : Nat} {d : PyData} (h : SmD n k d) (hn : n ≤ n') (hk : k ≤ k') : SmD n' k' d := ⟨h.lay, h.sh, h.shw, Nat.le_trans h.w hn, Nat.le_trans h.dp hk⟩
theorem SmAll.mono {n k n' k' : Nat} {ds : List PyData} (h : SmAll n k ds) (hn : n ≤ n') (hk : k ≤ k') : SmAll n' k' ds := ⟨h.lay, h.sh, h.shw, Nat.le_trans h.w hn, Nat.le_trans h.dp hk⟩
theorem SmAll.all {n k : Nat} : ∀ {ds : List PyData}, (∀ d ∈ ds, SmD n k d) → SmAll (n * ds.length) k ds
  | [], _ => SmAll.nil
  | d :: ds, h => ((SmAll.cons (h d (by simp)) (SmAll.all fun e he => h e (by simp [he])))).mono (by rw [List.length_cons, Nat.mul_add]; omega) (Nat.le_refl _)
theorem SmAll.ints {k : Nat} {xs : List Int} (h : ∀ x ∈ xs, x.natAbs < 1000000000000) : SmAll (41 * xs.length) k (xs.map .int) := by
  have := SmAll.all (n := 41) (k := k) (ds := xs.map .int) fun d hd => by
    obtain ⟨x, hx, rfl⟩ := List.mem_map.mp hd
    exact SmD.int (h x hx)
  rw [List.length_map] at this
  exact this
theorem SmD.row {k : Nat} {xs : List Int} (h : ∀ x ∈ xs, x.natAbs < 1000000000000) : SmD (41 * xs.length + 1) (k + 1) (rowD xs) := (SmAll.ints h).tup
end Co

set_option Elab.async false
set_option linter.all false
set_option maxRecDepth 100000
set_option maxHeartbeats 4000000
namespace Co
open PySem PySem.Spec PyProof.Rows L2
/-! ### set(l) of a list (and of a tuple) of ints -/
abbrev nset (w : World) : Obj := { cls := .type "set", dict := none, data := .set #[] 0 (.fresh 0 0 (!w.params.followText "set-order")) }
abbrev lstIt (l : Addr) : Obj := { cls := .type "list_iterator", data := .fields #[.ref l, .int 0 0] }
section
variable {P : Program} {w : World} {A : Around} {E : Value → Shared → Prop} {s : Shared}
theorem pushS {h : Heap} {o : Obj} : (h.push o).objs.size = h.objs.size + 1 := Heap.size_push ..
set_option maxHeartbeats 3200000 in
theorem call_set_listI {l : Addr} {its : Array Value} (ns : List Int) {Q : Value → Shared → Prop} (hh : A.handled = none) (hl : s.heap.IsList l its) (hit : IntsAre its.toList ns) (hb : ns.length + 1 < scanBound)
    (k : ∀ (h2 : Heap) (tk c : Nat), SetR w h2 s.heap.objs.size (fun j => decide (j ∈ ns)) c → c ≤ ns.length → (∀ b o, s.heap.get? b = some o → h2.get? b = some o) → Q (.ref s.heap.objs.size) { s with heap := h2, toks := tk }) :
    wpAny (model P w) A (call (.type "set") [.ref l]) Q E s := by
  have sz : its.size = ns.length := by have q := IntsAre.length hit; rw [Array.length_toList] at q; exact q
  obtain ⟨c, tl, hmro⟩ := F.called_set.mro
  have m1 := F.called_set.made; have m2 := F.called_set.sub
  refine wpAny_call (codeAny_of_tree ?_); show wpAny _ _ (callAny (.type "set") _) _ _ _
  refine wpAny_pure ⟨Code.quiet_builtin _ (by decide +kernel), codeAny_builtin F.entry_type_call ?_⟩; rw [Around.under_plain (weight_type_call_type "set" [.ref l] []) rfl]
  have h1 := F.called_set.notType; have h2 := F.called_set.canCreate; have h3 := F.typeCall_set_1 (.ref l)
  repeat (any_goals (first | assumption | wp_step))
  refine codeAny_mono (code_set_led1 (.ref l) (E := E) (Q₁ := fun ob s1 => ob = .ref s.heap.objs.size ∧ s1 = { s with heap := s.heap.push (nset w) }) ⟨rfl, rfl⟩) fun r s1 hr => ?_
  match r, hr with
  | .error e, hr => exact hr
  | .ok .next, hr => exact hr.elim
  | .ok .brk, hr => exact hr.elim
  | .ok .cont, hr => exact hr.elim
  | .ok (.ret ob), hr =>
    obtain ⟨rfl, rfl⟩ := hr
    have gS : (s.heap.push (nset w)).get? s.heap.objs.size = some (nset w) := Heap.get?_push_size _ rfl
    have tS : Shared.TypeIs { s with heap := s.heap.push (nset w) } (.ref s.heap.objs.size) "set" := ⟨_, gS, rfl⟩
    have i1 := F.called_set.init.lookup; have i2 := F.called_set.init.bind (.ref s.heap.objs.size)
    repeat (any_goals (first | assumption | wp_step))
    refine codeAny_mono (codeAny_call_builtin (R := wants (fun r s2 => r = .none ∧ ∃ h2 tk c, s2 = { s with heap := h2, toks := tk } ∧ SetR w h2 s.heap.objs.size (fun j => decide (j ∈ ns)) c ∧ c ≤ ns.length ∧ ∀ b o, s.heap.get? b = some o → h2.get? b = some o) E) F.called_set.init.plain F.entry_set_init (check_set_init_1 tS ?_)) fun r2 s2 hr2 => ?_
    · obtain ⟨⟨oc, odi, oda, osl⟩, gl, cl, nl, dl⟩ := hl
      dsimp only at cl dl; subst cl; subst dl
      have gl' : (s.heap.push (nset w)).get? l = some ⟨.type "list", odi, .seq its nl, osl⟩ := Heap.get?_push_of_some _ gl
      have q1 := F.sub_list_set; have q2 := F.sub_list_frozenset; have q3 : (Value.type "list" == Value.type "dict") = false := by decide
      have hl1 : (s.heap.push (nset w)).IsList l its := ⟨_, gl', rfl, nl, rfl⟩
      unfold Builtin.«set.__init__» noKeywords Builtin.Frozenset.updateFrom
      generalize hPI : pyIter = PI
      wp_walk
      subst hPI
      refine wpAny_pyIter_list hl1 (wpAny_bind (wpAny_runValue ?_))
      have lS : l < s.heap.objs.size := Heap.lt_size gl
      have nI : l ≠ (s.heap.push (nset w)).objs.size := by rw [pushS]; exact Nat.ne_of_lt (Nat.lt_succ_of_lt lS)
      have nS : s.heap.objs.size ∉ [(s.heap.push (nset w)).objs.size, l] := by
        rw [pushS]; simp only [List.mem_cons, List.not_mem_nil, or_false, not_or]
        exact ⟨Nat.ne_of_lt (Nat.lt_succ_self _), Nat.ne_of_gt lS⟩
      have vals : ∀ (i : Nat) (v : Value), its[i]? = some v → ∃ k t, ns[i]? = some k ∧ v = .int k t := by
        intro i v hv
        have hi : i < ns.length := by rw [← sz]; exact (Array.getElem?_eq_some_iff.mp hv).1
        obtain ⟨t, e⟩ := PyProof.Rows.IntsAre.int_at hit i v (by rw [Array.getElem?_toList]; exact hv)
        rw [List.getD_eq_getElem?_getD, List.getElem?_eq_getElem hi] at e
        exact ⟨ns[i], t, List.getElem?_eq_getElem hi, e⟩
      have gS2 : ((s.heap.push (nset w)).push (lstIt l)).get? s.heap.objs.size = some (nset w) := Heap.get?_push_of_some _ gS
      refine set_update_ints ((Walks.list (A := A.in1.in1.in1) (by simp [hh]) _ l nI its).toS) s.heap.objs.size nS ns sz hb vals (its.size - 0) 0 _ (by omega) (Nat.zero_le _) ⟨⟨_, Heap.get?_push_size _ rfl, rfl, rfl⟩, hl1.push _⟩ ⟨0, Nat.le_refl 0, setR_new_at gS2⟩ ?_
      rintro ⟨h2, g2, d2, t2, o2⟩ c' hm hc' hS'
      cases (show g2 = s.gens from hm.gens); cases (show d2 = s.drawn from hm.drawn); cases (show o2 = s.os from hm.os)
      rw [sz] at hc'
      show wpAny _ _ _ _ _ _
      refine wpAny_pure ?_
      show wpAny _ _ (ret Value.none) _ _ _
      refine wpAny_pure ⟨rfl, h2, t2, c', rfl, hS', hc', fun b o e => ?_⟩
      have b0 : b < s.heap.objs.size := Heap.lt_size e
      refine hm.heap b o ?_ (Heap.get?_push_of_some _ (Heap.get?_push_of_some _ e))
      rw [pushS]; simp only [List.mem_cons, List.not_mem_nil, or_false, not_or]
      exact ⟨Nat.ne_of_lt b0, Nat.ne_of_lt (Nat.lt_succ_of_lt b0)⟩
    · match r2, hr2 with
      | .error e, hr2 => exact hr2
      | .ok .next, hr2 => exact hr2.elim
      | .ok .brk, hr2 => exact hr2.elim
      | .ok .cont, hr2 => exact hr2.elim
      | .ok (.ret r), hr2 =>
        obtain ⟨rfl, h3, tk, c', rfl, hS', hc', hk'⟩ := hr2
        repeat (any_goals (first | assumption | wp_step))
        exact k _ _ _ hS' hc' hk'
end
end Co

set_option Elab.async false
set_option linter.all false
set_option maxRecDepth 100000
set_option maxHeartbeats 4000000
namespace Co
open PySem PySem.Spec PyProof.Rows L2
def rSetS (w : World) (K : PySem.W.Frag) : List V → Hp → VK → Prop := fun xs H Q => ∃ (p : Addr) (ns : List Int), xs = [.ref p] ∧ (SqL K H p (ns.map V.int) ∨ SqT K H p (ns.map V.int)) ∧ ns.length ≤ 1000 ∧ ∀ D c, H D = none → c ≤ ns.length → Q (.ref D) (upd H D (SetO w D (fun j => decide (j ∈ ns)) c))
theorem intsOf : ∀ {ns : List Int} {us : List Value}, Vals (ns.map V.int) us → IntsAre us ns
  | [], _, h => by cases h; exact .nil
  | n :: ns, _, h => by
    cases h with
    | cons r rr => obtain ⟨t, rfl⟩ := r; exact .cons n t (intsOf rr)
theorem cr_setS {X : Cx} (hc : X.calm = true) : CallR X (.type "set") (rSetS X.w X.K) := by
  intro pins s σ H xs us Q I r h
  obtain ⟨p, ns, rfl, hq, hl, q⟩ := h
  obtain ⟨u, rfl, rx⟩ := vals1 r
  cases rx
  have hb : ns.length + 1 < scanBound := Nat.lt_of_le_of_lt (Nat.succ_le_succ hl) (by decide)
  have hn : H s.heap.objs.size = none := I.hok.fresh (Nat.le_refl _)
  have fin : ∀ (h2 : Heap) (tk c : Nat), SetR X.w h2 s.heap.objs.size (fun j => decide (j ∈ ns)) c → c ≤ ns.length → (∀ b o, s.heap.get? b = some o → h2.get? b = some o) → EP X pins σ Q (.ref s.heap.objs.size) { s with heap := h2, toks := tk } :=
    fun h2 tk c R hle kp => ⟨.ref s.heap.objs.size, _, I.laid (t' := tk) kp (Nat.le_refl _) (setO_new R), rfl, q _ c hn hle⟩
  rcases hq with hq | hq
  · obtain ⟨its, rv, pl, _⟩ := I.list hq
    exact call_set_listI ns (I.ok.hd hc) pl.isList (by simpa using intsOf rv) hb fin
  · obtain ⟨its, rv, pt, _⟩ := I.tuple hq
    exact call_set_tupI ns (I.ok.hd hc) pt (by simpa using intsOf rv) hb fin
theorem w_setS {w : World} {K : PySem.W.Frag} {p : Addr} {ns : List Int} {H : Hp} {Q : VK} (h : SqL K H p (ns.map V.int) ∨ SqT K H p (ns.map V.int)) (hl : ns.length ≤ 1000) (q : ∀ D c H', H D = none → c ≤ ns.length → Same H H' → H' D = some (SetO w D (fun j => decide (j ∈ ns)) c) → Q (.ref D) H') : rSetS w K [.ref p] H Q :=
  ⟨p, ns, rfl, h, hl, fun D c nD hc => q D c _ nD hc (Same.new nD) upd_same⟩
/-- sorted(set(..)) of at most 63 ints: the ascending row -/
theorem w_sortedOf {w : World} {D : Addr} {ns : List Int} {c : Nat} {H : Hp} {Q : VK} (h : H D = some (SetO w D (fun j => decide (j ∈ ns)) c)) (hc : c < 64) (q : ∀ (ms : List Int) (p : Addr) H', ms.Pairwise (· < ·) → (∀ k : Int, k ∈ ms ↔ k ∈ ns) → H p = none → Same H H' → H' p = some (.lst (ms.map V.int)) → Q (.ref p) H') : rSortedSet w [.ref D] H Q :=
  w_sortedSet h hc fun ms p H' h1 h2 _ h4 h5 h6 => q ms p H' h1 (fun k => (h2 k).trans decide_eq_true_iff) h4 h5 h6
end Co

set_option Elab.async false
set_option linter.all false
set_option maxRecDepth 100000
set_option maxHeartbeats 4000000
namespace Co
open PySem PySem.Spec PyProof.Rows L2 PySem.W
/-! ### min(t), max(t) of a tuple of ints -/
def rEndT (f : Int → Int → Int) (K : PySem.W.Frag) : List V → Hp → VK → Prop := fun xs H Q => ∃ (p : Addr) (n : Int) (ns : List Int), xs = [.ref p] ∧ SqT K H p ((n :: ns).map V.int) ∧ Q (.int (ns.foldl f n)) H
theorem alikeInts : ∀ ns : List Int, AlikeAll (ns.map PyData.int) := fun ns => ⟨fun x hx y hy => by
  obtain ⟨a, _, rfl⟩ := List.mem_map.mp hx
  obtain ⟨b, _, rfl⟩ := List.mem_map.mp hy
  rfl, fun x hx => by obtain ⟨a, _, rfl⟩ := List.mem_map.mp hx; simp⟩
theorem readInt {h : Heap} {v : Value} {n : Int} {bs : List Addr} (r : Reads h v (.int n) bs) : RelV (.int n) v := by cases r; exact ⟨_, rfl⟩
theorem cr_minT {X : Cx} (hc : X.calm = true) (hu : X.A.units + 70 < cLine) : CallR X (.builtin "min") (rEndT min X.K) := by
  intro pins s σ H xs us Q I r h
  obtain ⟨p, n, ns, rfl, hq, q⟩ := h
  obtain ⟨u, rfl, rx⟩ := vals1 r
  cases rx
  obtain ⟨its, rv, pt, _⟩ := I.tuple hq
  have hi := intsOf rv
  have dp := (lay_ints (n :: ns)).2
  refine min_tuple_data (x := .int n) (xs := ns.map .int) (as := []) (I.ok.hd hc) pt (by simpa using hi.reads s.heap) (alikeInts (n :: ns)) (by rw [List.map_cons] at dp; omega) fun i v h' tk bs _ hr hk => ?_
  rw [minD_ints] at hr
  exact ⟨.int _, H, I.kept (t' := tk) hk, readInt hr, q⟩
theorem cr_maxT {X : Cx} (hc : X.calm = true) (hu : X.A.units + 70 < cLine) : CallR X (.builtin "max") (rEndT max X.K) := by
  intro pins s σ H xs us Q I r h
  obtain ⟨p, n, ns, rfl, hq, q⟩ := h
  obtain ⟨u, rfl, rx⟩ := vals1 r
  cases rx
  obtain ⟨its, rv, pt, _⟩ := I.tuple hq
  have hi := intsOf rv
  have dp := (lay_ints (n :: ns)).2
  refine max_tuple_data (x := .int n) (xs := ns.map .int) (as := []) (I.ok.hd hc) pt (by simpa using hi.reads s.heap) (alikeInts (n :: ns)) (by rw [List.map_cons] at dp; omega) fun i v h' tk bs _ hr hk => ?_
  rw [maxD_ints] at hr
  exact ⟨.int _, H, I.kept (t' := tk) hk, readInt hr, q⟩
/-! ### more steps -/
theorem w_inT {K : PySem.W.Frag} {x : V} {p : Addr} {xs : List V} {H : Hp} {Q : VK} {b : Bool} (h : SqT K H p xs) (hx : flatV x = true) (ha : xs.all flatV = true) (hb : inV x xs = b) (q : Q (.bl b) H) : rIn K false x (.ref p) H Q := ⟨p, xs, rfl, .inr h, hx, ha, by rw [hb]; exact q⟩
theorem flat_ints (xs : List Int) : (xs.map V.int).all flatV = true := by
  rw [List.all_eq_true]
  intro v hv
  obtain ⟨s, _, rfl⟩ := List.mem_map.mp hv
  rfl
theorem inV_ints (k : Int) (xs : List Int) : inV (.int k) (xs.map V.int) = decide (k ∈ xs) := by
  induction xs with
  | nil => rfl
  | cons x r ih =>
    have e : inV (.int k) ((x :: r).map V.int) = ((x == k) || inV (.int k) (r.map V.int)) := rfl
    rw [e, ih, Bool.eq_iff_iff]
    simp only [Bool.or_eq_true, beq_iff_eq, decide_eq_true_eq, List.mem_cons]
    constructor
    · rintro (h | h)
      · exact .inl h.symm
      · exact .inr h
    · rintro (h | h)
      · exact .inl h.symm
      · exact .inr h
theorem w_inTi {K : PySem.W.Frag} {k : Int} {p : Addr} {ns : List Int} {H : Hp} {Q : VK} (h : SqT K H p (ns.map V.int)) (q : Q (.bl (decide (k ∈ ns))) H) : rIn K false (.int k) (.ref p) H Q := w_inT h rfl (flat_ints ns) (inV_ints k ns) q
theorem eqvInts : ∀ xs ys : List Int, PyData.eqvAll (xs.map .int) (ys.map .int) = decide (xs = ys)
  | [], [] => by simp [PyData.eqvAll]
  | [], y :: ys => by simp [PyData.eqvAll]
  | x :: xs, [] => by simp [PyData.eqvAll]
  | x :: xs, y :: ys => by
    rw [List.map_cons, List.map_cons, PyData.eqvAll, eqvInts xs ys, PyData.eqv, Bool.eq_iff_iff]
    simp
/-- == and != of what need not be equal -/
theorem w_eqE {K : PySem.W.Frag} {x y : V} {d e : PyData} {b : Bool} {H : Hp} {Q : VK} (h1 : Dp K H x d) (h2 : Dp K H y e) (s1 : SeqAt.shaped d = true) (s2 : SeqAt.shaped e = true) (hb : PyData.eqv d e = b) (q : Q (.bl b) H) : rEqD K x y H Q := ⟨d, e, h1, h2, s1, s2, by rw [hb]; exact q⟩
theorem w_neE {K : PySem.W.Frag} {x y : V} {d e : PyData} {b : Bool} {H : Hp} {Q : VK} (h1 : Dp K H x d) (h2 : Dp K H y e) (s1 : SeqAt.shaped d = true) (s2 : SeqAt.shaped e = true) (hb : PyData.eqv d e = b) (q : Q (.bl (!b)) H) : rNeD K x y H Q := ⟨d, e, h1, h2, s1, s2, by rw [hb]; exact q⟩
theorem w_allB {K : PySem.W.Frag} {a : Addr} {bs : List Bool} {H : Hp} {Q : VK} (h : H a = some (.lst (bs.map V.bl))) (q : Q (.bl (bs.all id)) H) : rAll K [.ref a] H Q := ⟨a, bs, rfl, .of h, q⟩
theorem w_anyB {K : PySem.W.Frag} {a : Addr} {bs : List Bool} {H : Hp} {Q : VK} (h : H a = some (.lst (bs.map V.bl))) (q : Q (.bl (bs.any id)) H) : rAny K [.ref a] H Q := ⟨a, bs, rfl, .of h, q⟩
theorem w_isiB {K : PySem.W.Frag} {b : Bool} {H : Hp} {Q : VK} (q : Q (.bl true) H) : rIsi K [.bl b, .ty "bool"] H Q := ⟨.bl b, .ty "bool", .type "bool", .type "bool", true, rfl, .ty _, .base (.bl _), kit_ty (by decide +kernel), q⟩
theorem w_gTupS {K : PySem.W.Frag} {n : Nat} {t : TGs} {a : Addr} {xs : List V} {σ : L2.St} {H : Hp} {Q : L2.St → Hp → Prop} (h : SqT K H a xs) (hn : xs.length = n) (q : t xs σ H Q) : gTup K n t (.ref a) σ H Q := ⟨a, xs, rfl, h, hn, q⟩
def rIsNQ : R2 := fun x y H Q => y = .non ∧ Q (.bl (decide (x = .non))) H
def rNotNQ : R2 := fun x y H Q => y = .non ∧ Q (.bl (!decide (x = .non))) H
theorem op_isNQ {X : Cx} : OpR X (compareOp .Is) rIsNQ := op_isN
theorem op_notNQ {X : Cx} : OpR X (compareOp .IsNot) rNotNQ := op_notN
theorem w_isNN {H : Hp} {Q : VK} (q : Q (.bl true) H) : rIsNQ .non .non H Q := ⟨rfl, q⟩
theorem w_isNR {a : Addr} {H : Hp} {Q : VK} (q : Q (.bl false) H) : rIsNQ (.ref a) .non H Q := ⟨rfl, q⟩
theorem w_notNN {H : Hp} {Q : VK} (q : Q (.bl false) H) : rNotNQ .non .non H Q := ⟨rfl, q⟩
theorem w_notNR {a : Addr} {H : Hp} {Q : VK} (q : Q (.bl true) H) : rNotNQ (.ref a) .non H Q := ⟨rfl, q⟩
theorem w_par {i j : Nat} {ta : TA} {D : Ends} {σ : L2.St} {H : Hp} (q : ta σ H fun vs H1 => ∃ v w, vs = [v, w] ∧ D.nx ((σ.set i (some v)).set j (some w)) H1) : tPar i j ta D σ H := q
theorem w_par3 {i j l : Nat} {ta : TA} {D : Ends} {σ : L2.St} {H : Hp} (q : ta σ H fun vs H1 => ∃ u v w, vs = [u, v, w] ∧ D.nx (((σ.set i (some u)).set j (some v)).set l (some w)) H1) : tPar3 i j l ta D σ H := q
theorem w_two {v w : V} {B : V → V → Prop} (q : B v w) : ∃ v' w', [v, w] = [v', w'] ∧ B v' w' := ⟨v, w, rfl, q⟩
theorem w_three {u v w : V} {B : V → V → V → Prop} (q : B u v w) : ∃ u' v' w', [u, v, w] = [u', v', w'] ∧ B u' v' w' := ⟨u, v, w, rfl, q⟩
theorem w_catL {l b : Addr} {xs zs : List V} {H : Hp} {Q : VK} (h1 : H l = some (.lst xs)) (h2 : H b = some (.lst zs)) (hl : xs.length + zs.length ≤ sizeLine) (q : ∀ p H', H p = none → Same H H' → H' p = some (.lst (xs ++ zs)) → Q (.ref p) H') : rCat (.ref l) (.ref b) H Q :=
  ⟨l, b, xs, zs, rfl, rfl, h1, h2, hl, fun p np => q p _ np (fun b x e => by rw [upd_ne (ne_of_none e np)]; exact e) upd_same⟩
end Co

set_option Elab.async false
set_option linter.all false
set_option maxRecDepth 100000
set_option maxHeartbeats 4000000
namespace Co
open PySem PySem.Spec PyProof.Rows L2
/-! ### d.get(k), d.get(k, x) of a dict of the module -/
/-- what stands under a key: a value, or nothing -/
def KGet (K : PySem.W.Frag) (w : World) (a : Addr) (x : Str) (o : Option V) : Prop :=
  ∃ es n, K.lookup a = some ⟨.type "dict", none, .dict es n, #[]⟩ ∧ PySem.W.KeysLit w.params es.toList ∧ (a == sysModules) = false ∧ ((o = none ∧ PySem.W.nsIn K a x = some none) ∨ ∃ v u, o = some v ∧ PySem.W.nsIn K a x = some (some u) ∧ RelV v u)
def tKGet1 (K : PySem.W.Frag) (w : World) (td ty : TE) : TE := fun σ H Q => td σ H fun x H1 => ∃ a, x = .ref a ∧ (∃ z o, KGet K w a z o) ∧ ty σ H1 fun y H2 => ∃ z o, y = .str z ∧ KGet K w a z o ∧ Q (o.getD .non) H2
def tKGet2 (K : PySem.W.Frag) (w : World) (td ty tx : TE) : TE := fun σ H Q => td σ H fun x H1 => ∃ a, x = .ref a ∧ (∃ z o, KGet K w a z o) ∧ ty σ H1 fun y H2 => tx σ H2 fun d H3 => ∃ z o, y = .str z ∧ KGet K w a z o ∧ Q (o.getD d) H3
section
variable {X : Cx} {pins : List (Addr × Obj)} {σ : L2.St} {H : Hp} {s : Shared} {a : Addr}
theorem kget_dict (I : Inv X pins σ H s) {z : Str} {o : Option V} (g : KGet X.K X.w a z o) : s.TypeIs (.ref a) "dict" ∧ (∀ b, Value.ref a = .ref b → ∃ ob, s.heap.get? b = some ob ∧ ob.dict = none) := by
  obtain ⟨es, n, hl, hk, _, _⟩ := g
  have e := I.kIn _ _ hl
  exact ⟨⟨_, e, rfl⟩, fun b q => by cases q; exact ⟨_, e, rfl⟩⟩
theorem kget_val {z : Str} {o : Option V} (g : KGet X.K X.w a z o) : ∃ es n, X.K.lookup a = some ⟨.type "dict", none, .dict es n, #[]⟩ ∧ PySem.W.KeysLit X.w.params es.toList ∧ ((o = none ∧ PySem.findBy Value.isStrOf es z = none) ∨ ∃ v u, o = some v ∧ PySem.findBy Value.isStrOf es z = some u ∧ RelV v u) := by
  obtain ⟨es, n, hl, hk, _, h⟩ := g
  refine ⟨es, n, hl, hk, ?_⟩
  rcases h with ⟨e, h⟩ | ⟨v, u, e, h, r⟩
  · exact .inl ⟨e, PySem.W.find_K hl h⟩
  · exact .inr ⟨v, u, e, PySem.W.find_K hl h, r⟩
theorem kget1 {z : Str} {o : Option V} {t : Tok} {A : Around} {E : Value → Shared → Prop} {Q : Value → Shared → Prop} (I : Inv X pins σ H s) (g : KGet X.K X.w a z o) (h : ∀ w' s', Inv X pins σ H s' → RelV (o.getD .non) w' → Q w' s') :
    wpAny (model X.prog X.w) A (call (.builtin "dict.get") [.ref a, .str z t]) Q E s := by
  obtain ⟨es, n, hl, hk, hv⟩ := kget_val g
  obtain ⟨_, _, _, _, hm, _⟩ := id g
  have M := PySem.W.mapOf_K (prog := X.prog) (w := X.w) I.kIn hl hk
  refine call_meetsIn PySem.F.slot_dict_get M.typeIs PySem.F.entry_dict_get (PySem.F.args_dict_get_2 _ _) (meets_dict_get (strKind X.prog X.w) a (strKind_is X.prog X.w z t) hm) ⟨_, M, h _ _ (I.tok _) ?_⟩
  rcases hv with ⟨rfl, e⟩ | ⟨v, u, rfl, e, r⟩
  · rw [e]; rfl
  · rw [e]; exact r
theorem kget2 {z : Str} {o : Option V} {d : V} {r : Value} {t : Tok} {A : Around} {E : Value → Shared → Prop} {Q : Value → Shared → Prop} (I : Inv X pins σ H s) (g : KGet X.K X.w a z o) (rd : RelV d r) (h : ∀ w' s', Inv X pins σ H s' → RelV (o.getD d) w' → Q w' s') :
    wpAny (model X.prog X.w) A (call (.builtin "dict.get") [.ref a, .str z t, r]) Q E s := by
  obtain ⟨es, n, hl, hk, hv⟩ := kget_val g
  obtain ⟨_, _, _, _, hm, _⟩ := id g
  have M := PySem.W.mapOf_K (prog := X.prog) (w := X.w) I.kIn hl hk
  refine call_meetsIn PySem.F.slot_dict_get M.typeIs PySem.F.entry_dict_get (PySem.F.args_dict_get_3 _ _ _) (meets_dict_get_default (strKind X.prog X.w) a (strKind_is X.prog X.w z t) hm r) ⟨_, M, h _ _ (I.tok _) ?_⟩
  rcases hv with ⟨rfl, e⟩ | ⟨v, u, rfl, e, ru⟩
  · rw [e]; exact rd
  · rw [e]; exact ru
end
section
variable {X : Cx} {o e f : Expr} {apos cpos : Pos} {td ty tx : TE}
theorem pe_kget1 (ho : PE X o td) (he : PE X e ty) (m : M1 X o "get" apos e cpos := by first | exact ⟨rfl, rfl, rfl, rfl⟩ | exact ⟨by rfl, by rfl, by rfl, by rfl⟩) : PE X (.Call (.Attribute o "get" apos) [e] [] cpos) (tKGet1 X.K X.w td ty) := by
  refine ⟨fun pins s σ H Q I h => ?_⟩
  refine wpAny_Call_method m.base m.few m.line PySem.F.plainAttrs_dict PySem.F.slot_dict_get PySem.F.type_dict_get (thn (ho.run pins s σ H _ I h) fun u s1 ⟨x, H1, I1, rx, a, ex, ⟨z0, o0, g0⟩, q1⟩ => ?_)
  subst ex
  obtain rfl : u = Value.ref a := rx
  obtain ⟨t1, t2⟩ := kget_dict I1 g0
  refine ⟨t1, t2, ?_⟩
  rw [m.trees]
  refine Calls.callWith_builtin rfl (Calls.evalArgs_plain (Calls.spliced_cons (thn (he.run pins s1 σ H1 _ I1 q1) fun iv s2 ⟨y, H2, I2, ry, z, ov, ey, g, q2⟩ => Calls.spliced_nil ?_)))
  subst ey
  obtain ⟨t, rfl⟩ := ry
  exact kget1 I2 g fun w' s3 I3 rw' => ⟨_, H2, I3, rw', q2⟩
theorem pe_kget2 (ho : PE X o td) (he : PE X e ty) (hf : PE X f tx) (m : M2 X o "get" apos e f cpos := by first | exact ⟨rfl, rfl, rfl, rfl⟩ | exact ⟨by rfl, by rfl, by rfl, by rfl⟩) : PE X (.Call (.Attribute o "get" apos) [e, f] [] cpos) (tKGet2 X.K X.w td ty tx) := by
  refine ⟨fun pins s σ H Q I h => ?_⟩
  refine wpAny_Call_method m.base m.few m.line PySem.F.plainAttrs_dict PySem.F.slot_dict_get PySem.F.type_dict_get (thn (ho.run pins s σ H _ I h) fun u s1 ⟨x, H1, I1, rx, a, ex, ⟨z0, o0, g0⟩, q1⟩ => ?_)
  subst ex
  obtain rfl : u = Value.ref a := rx
  obtain ⟨t1, t2⟩ := kget_dict I1 g0
  refine ⟨t1, t2, ?_⟩
  rw [m.trees]
  refine Calls.callWith_builtin rfl (Calls.evalArgs_plain (Calls.spliced_cons (thn (he.run pins s1 σ H1 _ I1 q1) fun iv s2 ⟨y, H2, I2, ry, q2⟩ =>
    Calls.spliced_cons (thn (hf.run pins s2 σ H2 _ I2 q2) fun fv s3 ⟨d, H3, I3, rz, z, ov, ey, g, q3⟩ => Calls.spliced_nil ?_))))
  subst ey
  obtain ⟨t, rfl⟩ := ry
  exact kget2 I3 g rz fun w' s4 I4 rw' => ⟨_, H3, I4, rw', q3⟩
end
theorem w_kget1 {K : PySem.W.Frag} {w : World} {td ty : TE} {σ : L2.St} {H : Hp} {Q : VK} (q : td σ H fun x H1 => ∃ a, x = .ref a ∧ (∃ z o, KGet K w a z o) ∧ ty σ H1 fun y H2 => ∃ z o, y = .str z ∧ KGet K w a z o ∧ Q (o.getD .non) H2) : tKGet1 K w td ty σ H Q := q
theorem w_kget2 {K : PySem.W.Frag} {w : World} {td ty tx : TE} {σ : L2.St} {H : Hp} {Q : VK} (q : td σ H fun x H1 => ∃ a, x = .ref a ∧ (∃ z o, KGet K w a z o) ∧ ty σ H1 fun y H2 => tx σ H2 fun d H3 => ∃ z o, y = .str z ∧ KGet K w a z o ∧ Q (o.getD d) H3) : tKGet2 K w td ty tx σ H Q := q
/-! ### a def that a table holds -/
structure StF (K : PySem.W.Frag) (q : Str) (st : Stmt) (ps : List Str) (f : Addr) : Prop where
  ex : ∃ fd, Fun K q q st f fd ∧ Binds K fd ps []
theorem StF.cd {P : Program} {w : World} {K : PySem.W.Frag} {mg : Str → Option Value} {base : Heap} {x : Str} {st : Stmt} {k : Nat} {f : Addr} {N ps : List Str} {sp : Sp} (Z : StF K x st ps f) (S : FnScope N ps (defScope st)) (len : ∀ vs H Q E, sp vs H Q E → vs.length = ps.length)
    (hbody : ∀ (f : Addr) (cdv : Value) (A : Around) (outer : List Env) (s : Shared) (H : Hp) (vs : List V) (Q : VK) (E : XK), Room k (A.deeper (envOfC x (defScope st) s.heap.objs.size f cdv)) → sp vs H Q E →
      ∃ t, PSs (cxOf CX0 P w K mg base N x (defScope st) f cdv A outer s H E).nox (defBody st) t ∧ t { nx := fun _ H' => Q .non H', rt := Q } (start N vs) H) : Held P w K mg base (k + 1) f sp := by
  obtain ⟨fd, F, b⟩ := Z.ex
  exact ⟨⟨fd, ps, F.ok S len (hbody f), F.kp, b⟩⟩
theorem mkStF {K : PySem.W.Frag} {x : Str} {st : Stmt} {ps : List Str} {f : Addr} {oc : Value} {od an : Option Addr} {osl : Array (Option Value)} {kV doc pm cdv ct : Value}
    (l : K.lookup f = some ⟨oc, od, .func (PySem.W.fnOf x x (defArgs st) (defBody st) (defScope st) .none kV doc pm an cdv ct), osl⟩) (c : PySem.W.codeIn K cdv x = true) (k : PySem.W.keepIn K (.ref f) = true)
    (hb : ∀ (kV doc pm : Value) (an : Option Addr) (cdv ct : Value) (us : List Value), us.length = ps.length → bindArgs (PySem.W.fnOf x x (defArgs st) (defBody st) (defScope st) .none kV doc pm an cdv ct) ⟨us, []⟩ = pure (ps.zip us)) : StF K x st ps f :=
  ⟨_, fun_mk (st := st) l c k, (fun_mk (st := st) l c k).binds hb⟩
end Co

set_option Elab.async false
set_option linter.all false
set_option maxRecDepth 100000
set_option maxHeartbeats 4000000
namespace Co
open PySem PySem.Spec PyProof.Rows L2
/-! ### sorted(found) of a set of ints, also of 64 and more -/
section
variable {P : Program} {w : World} {A : Around} {E : Value → Shared → Prop} {s : Shared} {a : Addr}
/-- what sorted leaves: all as it was, and a new list of the members in ascending order -/
structure SortedOut (s : Shared) (S : Int → Bool) (n : Nat) (p : Addr) (ns : List Int) (s' : Shared) : Prop where
  old : ∀ b o, s.heap.get? b = some o → s'.heap.get? b = some o
  gens : s'.gens = s.gens
  os : s'.os = s.os
  new : s.heap.objs.size ≤ p
  row : ∃ (out : Array Value) (c : Nat), s'.heap.get? p = some (seqObj "list" out c) ∧ IntsAre out.toList ns
  asc : ns.Pairwise (· < ·)
  mem : ∀ k, k ∈ ns ↔ S k = true
  len : ns.length = n
theorem sortedSet_any {S : Int → Bool} {n : Nat} {Q : Value → Shared → Prop} (R : SetR w s.heap a S n) (hh : A.handled = none) (hz : n ≤ sizeLine) (hQ : ∀ s' p ns, SortedOut s S n p ns s' → Q (.ref p) s') :
    wpAny (model P w) A (call (.builtin "sorted") [.ref a]) Q E s := by
  obtain ⟨o, es, ep, t, at1, exact1, dat, good, nodup, memb, room, fits, size, ris, led⟩ := R
  refine Calls.call_function_entry kind_sorted plain_sorted entry_sorted (args_sorted1 _) ?_
  unfold Builtin.«sorted»
  refine wpAny_bind (m := checkCount "sorted" 1 1 _) (wpAny_pure (wpAny_bind (collect_set (A := A.in1) hh ⟨o, at1, exact1.1, dat⟩ fits room ris led ?_)))
  intro s1 vs keep1 _ gens1 os1 perm1
  have lvs : vs.length = n := by simpa [size] using perm1.length_eq
  have each : ∀ v ∈ vs, ∃ (k : Int) (tk : Tok), v = .int k tk := fun v hv => by
    obtain ⟨e, he, rfl⟩ := List.mem_map.mp (perm1.mem_iff.mp hv)
    obtain ⟨k, tk, h1, _⟩ := good e he
    exact ⟨k, tk, h1⟩
  have keys : (vs.map Builtin.Re.reRawOf).Perm (es.toList.map keyOf) := (perm1.map Builtin.Re.reRawOf).trans (.of_eq (by rw [List.map_map]; rfl))
  have areInts : IntsAre vs (vs.map Builtin.Re.reRawOf) := ints_of vs each
  have hv : vs.length ≤ sizeLine := by omega
  refine wpAny_bind (wpAny_newList ?_ hv)
  have there : (s1.heap.push (seqObj "list" vs.toArray 0)).get? s1.heap.objs.size = some (seqObj "list" vs.toArray 0) := Heap.get?_push_size _ rfl
  refine wpAny_bind (wpAny_holding (wpAny_call_entry slot_list_sort ⟨_, there, rfl⟩ entry_list_sort (list_sort_treeAny there areInts hv ?_) (args_list_sort _)))
  intro out ns arow aperm asc
  have all := aperm.trans keys
  refine ⟨_, rfl, wpAny_pure ⟨_, rfl, hQ _ _ ns ⟨fun b u e => ?_, gens1, os1, ‹_›, ?_, lt_of_le_nodup ns asc (all.nodup_iff.mpr nodup), fun k => by rw [all.mem_iff, memb k], by simpa [size] using all.length_eq⟩⟩⟩
  · have q := keep1 b u e
    have lt := Heap.lt_size q
    show (sortedHeap (s1.heap.push (seqObj "list" vs.toArray 0)) s1.heap.objs.size vs out).get? b = some u
    rw [sortedHeap_old (Nat.ne_of_lt lt) (by rw [size_push']; exact Nat.lt_succ_of_lt lt)]
    exact Heap.get?_push_of_some _ q
  · obtain ⟨c, hc⟩ := sortedHeap_at (vs := vs) (out := out) there
    exact ⟨out, c, hc, arow⟩
end
def rSortedB (w : World) : List V → Hp → VK → Prop := fun vs H Q => ∃ (a : Addr) (S : Int → Bool) (n : Nat), vs = [V.ref a] ∧ H a = some (SetO w a S n) ∧ n ≤ 1000 ∧
  ∀ (ns : List Int) (p : Addr) (H' : Hp), ns.Pairwise (· < ·) → (∀ k : Int, k ∈ ns ↔ S k = true) → ns.length = n → H p = none → Same H H' → H' p = some (.lst (ns.map V.int)) → Q (.ref p) H'
theorem cr_sortedB {X : Cx} (hc : X.calm = true) : CallR X (.builtin "sorted") (rSortedB X.w) := by
  intro pins s σ H vs us Q I r h
  obtain ⟨a, S, n, rfl, ha, hn, q⟩ := h
  have small : n ≤ sizeLine := Nat.le_trans hn (by decide)
  rw [Vals.ref1 r]
  refine sortedSet_any (setO_get I ha) (I.ok.hd hc) small fun s' p ns z => ?_
  have free : H p = none := I.hok.fresh z.new
  obtain ⟨out, c, at1, row⟩ := z.row
  have ok1 : ObjOk X.prog X.w (upd H p (.lst (ns.map V.int))) s'.heap p (.lst (ns.map V.int)) := ⟨by rw [List.length_map, z.len]; exact small, out.toList, c, vals_of_ints row, at1⟩
  have J : Inv X pins σ (upd H p (.lst (ns.map V.int))) { s with heap := s'.heap, gens := s'.gens, drawn := s'.drawn, toks := s'.toks } :=
    I.call (ch := []) (Un.laid z.old z.new free) (I.hok.laid z.old z.new ok1) (by rw [z.gens]; exact I.bare) (fun _ z => nomatch z)
  have same : s' = { s with heap := s'.heap, gens := s'.gens, drawn := s'.drawn, toks := s'.toks } := by
    have o := z.os
    cases s'; cases s; cases o; rfl
  rw [same]
  exact ⟨.ref p, _, J, rfl, q ns p _ z.asc z.mem z.len free (Same.new free) upd_same⟩
theorem w_sortedB {w : World} {a : Addr} {S : Int → Bool} {n : Nat} {H : Hp} {Q : VK} (h : H a = some (SetO w a S n)) (hn : n ≤ 1000) (q : ∀ (ns : List Int) (p : Addr) H', ns.Pairwise (· < ·) → (∀ k : Int, k ∈ ns ↔ S k = true) → ns.length = n → H p = none → Same H H' → H' p = some (.lst (ns.map V.int)) → Q (.ref p) H') : rSortedB w [.ref a] H Q :=
  ⟨a, S, n, rfl, h, hn, q⟩
theorem w_sortedOfB {w : World} {D : Addr} {ns : List Int} {c : Nat} {H : Hp} {Q : VK} (h : H D = some (SetO w D (fun j => decide (j ∈ ns)) c)) (hc : c ≤ 1000) (q : ∀ (ms : List Int) (p : Addr) H', ms.Pairwise (· < ·) → (∀ k : Int, k ∈ ms ↔ k ∈ ns) → ms.length = c → H p = none → Same H H' → H' p = some (.lst (ms.map V.int)) → Q (.ref p) H') : rSortedB w [.ref D] H Q :=
  w_sortedB h hc fun ms p H' h1 h2 h3 h4 h5 h6 => q ms p H' h1 (fun k => (h2 k).trans decide_eq_true_iff) h3 h4 h5 h6
/-! ### a list's comprehension of two clauses, over tuples -/
/-- the inner clause's loop -/
def kIn2 (g1 : TG) (tt1 : TT) (te : TE) (vs1 : List Nat) (σ2 : L2.St) (D : Addr) (Nx : Hp → Prop) : It → Hp → Prop := fun J1 H4 => ∃ W1 : Nat → Nat → Hp → Prop, (∃ m, W1 0 m H4) ∧ ∀ j k H, W1 j k H →
  (J1.stop j H ∧ Nx H) ∨ (J1.go j H ∧ ∃ Nx1 : Hp → Prop, (∀ H', Nx1 H' → ∃ k', k' < k ∧ W1 (j + 1) k' H') ∧ ∀ x H', J1.yld j H x H' → g1 x (wipe σ2 vs1) H' fun σ3 H5 => wipe σ3 vs1 = wipe σ2 vs1 ∧ tt1 σ3 H5 fun b H6 =>
    if b = true then te σ3 H6 fun y H7 => ∃ acc, H7 D = some (.lst acc) ∧ acc.length < sizeLine ∧ Nx1 (upd H7 D (.lst (acc ++ [y]))) else Nx1 H6)
/-- the whole, from its first source's iterator on -/
def kLc2 (g : TG) (tt : TT) (wi1 : TI) (g1 : TG) (tt1 : TT) (te : TE) (vs vs1 : List Nat) (σ : L2.St) (Q : VK) : It → Hp → Prop := fun J H1 => ∀ D, H1 D = none → ∃ W : Nat → Nat → Hp → Prop, (∃ m, W 0 m (upd H1 D (.lst []))) ∧ ∀ i m H, W i m H →
  (J.stop i H ∧ Q (.ref D) H) ∨ (J.go i H ∧ ∃ Nx : Hp → Prop, (∀ H', Nx H' → ∃ m', m' < m ∧ W (i + 1) m' H') ∧ ∀ x H', J.yld i H x H' → g x (wipe σ vs) H' fun σ2 H2 => wipe σ2 vs = wipe σ vs ∧ tt σ2 H2 fun b H3 =>
    if b = true then wi1 σ2 H3 (kIn2 g1 tt1 te vs1 σ2 D Nx) else Nx H3)
theorem w_lc2 {wi : TI} {g : TG} {tt : TT} {wi1 : TI} {g1 : TG} {tt1 : TT} {te : TE} {vs vs1 : List Nat} {σ : L2.St} {H : Hp} {Q : VK} (q : wi σ H (kLc2 g tt wi1 g1 tt1 te vs vs1 σ Q)) : tLc2 wi g tt wi1 g1 tt1 te vs vs1 σ H Q := q
theorem w_lc2T {K : PySem.W.Frag} {g : TG} {tt : TT} {wi1 : TI} {g1 : TG} {tt1 : TT} {te : TE} {vs vs1 : List Nat} {σ : L2.St} {H : Hp} {Q : VK} {a : Addr} (xs : List V) (Pv : Addr → Nat → Hp → Prop) (hS : SqT K H a xs) (h0 : ∀ D, H D = none → Pv D 0 (upd H D (.lst []))) (hl : ∀ D i H, Pv D i H → SqT K H a xs)
    (hs : ∀ D i x H, xs[i]? = some x → Pv D i H → g x (wipe σ vs) H fun σ2 H2 => wipe σ2 vs = wipe σ vs ∧ tt σ2 H2 fun b H3 => if b = true then wi1 σ2 H3 (kIn2 g1 tt1 te vs1 σ2 D (Pv D (i + 1))) else Pv D (i + 1) H3)
    (hd : ∀ D H', H D = none → Pv D xs.length H' → Q (.ref D) H') : kIT K (kLc2 g tt wi1 g1 tt1 te vs vs1 σ Q) (.ref a) H := by
  refine ⟨a, rfl, ⟨_, hS⟩, fun D nD => ⟨fun i m H => m = xs.length - i ∧ i ≤ xs.length ∧ Pv D i H, ⟨xs.length, by simp, Nat.zero_le _, h0 D nD⟩, ?_⟩⟩
  rintro i m H' ⟨rfl, hi, p⟩
  rcases Nat.lt_or_ge i xs.length with lt | ge
  · refine .inr ⟨⟨xs, xs[i], hl D i H' p, by simp [lt]⟩, Pv D (i + 1), fun H2 p2 => ⟨xs.length - (i + 1), by omega, rfl, lt, p2⟩, fun v H2 y => ?_⟩
    obtain ⟨rfl, e⟩ : H2 = H' ∧ xs[i]? = some v := ⟨y.1, y.2 xs (hl D i H' p)⟩
    exact hs D i v _ e p
  · obtain rfl : i = xs.length := by omega
    exact .inl ⟨⟨xs, hl D _ H' p, Nat.le_refl _⟩, hd D H' nD p⟩
theorem w_in2T {K : PySem.W.Frag} {g1 : TG} {tt1 : TT} {te : TE} {vs1 : List Nat} {σ2 : L2.St} {D b : Addr} {Nx : Hp → Prop} {H : Hp} (ys : List V) (Pw : Nat → Hp → Prop) (hS : SqT K H b ys) (h0 : Pw 0 H) (hl : ∀ i H, Pw i H → SqT K H b ys)
    (hs : ∀ j y H, ys[j]? = some y → Pw j H → g1 y (wipe σ2 vs1) H fun σ3 H5 => wipe σ3 vs1 = wipe σ2 vs1 ∧ tt1 σ3 H5 fun b H6 =>
      if b = true then te σ3 H6 fun y H7 => ∃ acc, H7 D = some (.lst acc) ∧ acc.length < sizeLine ∧ Pw (j + 1) (upd H7 D (.lst (acc ++ [y]))) else Pw (j + 1) H6)
    (hd : ∀ H, Pw ys.length H → Nx H) : kIT K (kIn2 g1 tt1 te vs1 σ2 D Nx) (.ref b) H := by
  refine ⟨b, rfl, ⟨_, hS⟩, fun i m H => m = ys.length - i ∧ i ≤ ys.length ∧ Pw i H, ⟨ys.length, by simp, Nat.zero_le _, h0⟩, ?_⟩
  rintro i m H' ⟨rfl, hi, p⟩
  rcases Nat.lt_or_ge i ys.length with lt | ge
  · refine .inr ⟨⟨ys, ys[i], hl i H' p, by simp [lt]⟩, Pw (i + 1), fun H2 p2 => ⟨ys.length - (i + 1), by omega, rfl, lt, p2⟩, fun v H2 y => ?_⟩
    obtain ⟨rfl, e⟩ : H2 = H' ∧ ys[i]? = some v := ⟨y.1, y.2 ys (hl i H' p)⟩
    exact hs i v _ e p
  · obtain rfl : i = ys.length := by omega
    exact .inl ⟨⟨ys, hl _ H' p, Nat.le_refl _⟩, hd H' p⟩
theorem pi_tupK {X : Cx} {K' : PySem.W.Frag} {tg l : Expr} {tl : TE} (hK : X.K = K') (hl : PE X l tl) : PI X tg l (iTup K' tl) := by subst hK; exact pi_tup hl
theorem pi_listK {X : Cx} {K' : PySem.W.Frag} {tg l : Expr} {tl : TE} (hK : X.K = K') (hl : PE X l tl) : PI X tg l (iList K' tl) := by subst hK; exact pi_list hl
end Co

set_option Elab.async false
set_option linter.all false
set_option maxRecDepth 100000
set_option maxHeartbeats 4000000
namespace Co
open PySem PySem.Spec PyProof.Rows L2
/-! ### objects of a class: methods, fields, new ones -/
/-- the class with the names of its fields -/
structure Ob (K : PySem.W.Frag) (C : Addr) (fs : List Str) : Prop where
  cl : Cls K C
  na : ∀ f ∈ fs, NoAttr K C f
/-- the method m of C keeps a promise -/
structure Md (P : Program) (w : World) (K : PySem.W.Frag) (mg : Str → Option Value) (base : Heap) (k : Nat) (C : Addr) (m : Str) (sp : Sp) : Prop where
  ex : ∃ (f : Addr) (fd : FuncData) (ps : List Str), FnOk P w K mg base CX0 k f fd ps sp ∧ Meth K C m f ∧ Binds K fd ps []
def tMd (C : Addr) (m : Str) (sp : Sp) (ta : TE) (t : TA) : TE := fun σ H Q => ta σ H fun x H1 => ∃ a dx fs, x = .ref a ∧ H1 a = some (.ins C dx fs) ∧ fs.lookup m = none ∧ t σ H1 fun vs H2 => sp (x :: vs) H2 Q E0
section
variable {X : Cx} {k j : Nat} {m f : Str} {C : Addr} {sp : Sp} {apos pos p : Pos} {o e : Expr} {es : List Expr} {ta : TE} {t : TA}
theorem pe_md {pl : Sem Bool} (c : Cls X.K C) (d : Md X.prog X.w X.K X.mg X.base k C m sp) (hr : Room j X.A) (hk : k ≤ j) (ho : PE X o ta) (ha : PA X (e :: es) t)
    (hst : starEach (e :: es) X.env = (false, eval e X.env) :: starEach es X.env := by rfl) (hpl : (backTo pos (starEach es X.env)).any (·.1) = false := by rfl)
    (ht : eval (.Call (.Attribute o m apos) (e :: es) [] pos) X.env = (do
      let ov ← eval o X.env
      standAt apos.atName
      let (g, first) ← holding [ov] (getMethod ov m pl)
      callWith pos g first (backTo pos (starEach (e :: es) X.env)) (backToKw pos (keywordEach [] X.env))) := by rfl) :
    PE X (.Call (.Attribute o m apos) (e :: es) [] pos) (tMd C m sp ta t) := by
  obtain ⟨f, fd, ps, F, hm, b⟩ := d.ex
  have z := pe_meth (dvs := []) (E := E0) ho c hm F (hr.mono hk) b .nil pass0 ha hst hpl ht
  refine ⟨fun pins s σ H Q I h => z.run pins s σ H Q I ?_⟩
  refine (?_ : tMd C m sp ta t = tMeth C m sp [] E0 ta t) ▸ h
  unfold tMd tMeth
  simp only [List.append_nil]
theorem pe_md0 {pl : Sem Bool} (c : Cls X.K C) (d : Md X.prog X.w X.K X.mg X.base k C m sp) (hr : Room j X.A) (hk : k ≤ j) (ho : PE X o ta)
    (ht : eval (.Call (.Attribute o m apos) [] [] pos) X.env = (do
      let ov ← eval o X.env
      standAt apos.atName
      let (g, first) ← holding [ov] (getMethod ov m pl)
      callWith pos g first (backTo pos (starEach [] X.env)) (backToKw pos (keywordEach [] X.env))) := by rfl) :
    PE X (.Call (.Attribute o m apos) [] [] pos) (tMd C m sp ta tNil) := by
  obtain ⟨f, fd, ps, F, hm, b⟩ := d.ex
  exact pe_meth0 (dvs := []) (E := E0) ho c hm F (hr.mono hk) b .nil pass0 ht
end
/-- the class x makes objects -/
structure Mkr (P : Program) (w : World) (K : PySem.W.Frag) (mg : Str → Option Value) (base : Heap) (k : Nat) (x : Str) (C : Addr) (sp : Sp) : Prop where
  ex : ∃ (f : Addr) (fd : FuncData) (ps : List Str), FnOk P w K mg base CX0 k f fd ps sp ∧ Mk K C f ∧ Binds K fd ps [] ∧ mg x = some (.ref C)
def tMkr (C : Addr) (sp : Sp) (t : TA) : TE := fun σ H Q => t σ H fun vs H1 => ∀ x dx, H1 x = none → H1 dx = none → dx ≠ x → sp (.ref x :: vs) (upd (upd H1 dx (.own x)) x (.ins C dx [])) (fun v H2 => v = .non ∧ Q (.ref x) H2) E0
theorem pe_mkr {X : Cx} {k j : Nat} {x : Str} {C : Addr} {sp : Sp} {pos p : Pos} {e : Expr} {es : List Expr} {t : TA} (c : Mkr X.prog X.w X.K X.mg X.base k x C sp) (hr : Room j X.A) (hk : k + 1 ≤ j) (hg : Gl X x) (ha : PA X (e :: es) t)
    (hdb : (x == ("__debug__" : Str)) = false := by decide) (he : starEach (e :: es) X.env = (false, eval e X.env) :: starEach es X.env := by rfl) (hpl : (backTo pos (starEach es X.env)).any (·.1) = false := by rfl) :
    PE X (.Call (.Name x p) (e :: es) [] pos) (tMkr C sp t) := by
  obtain ⟨f, fd, ps, F, M, b, hm⟩ := c.ex
  have z := pe_make (dvs := []) (E := E0) (pos := pos) (p := p) M F (hr.mono hk) hg hm b .nil pass0 ha hdb he hpl
  refine ⟨fun pins s σ H Q I h => z.run pins s σ H Q I ?_⟩
  refine (?_ : tMkr C sp t = tMake C sp [] E0 t) ▸ h
  unfold tMkr tMake
  simp only [List.append_nil]
/-- a method that stands -/
structure StM (K : PySem.W.Frag) (C : Addr) (m qual : Str) (st : Stmt) (ps : List Str) : Prop where
  ex : ∃ f fd, Fun K m qual st f fd ∧ Binds K fd ps [] ∧ Meth K C m f
theorem StM.md {P : Program} {w : World} {K : PySem.W.Frag} {mg : Str → Option Value} {base : Heap} {C : Addr} {m qual : Str} {st : Stmt} {k : Nat} {N ps : List Str} {sp : Sp} (Z : StM K C m qual st ps) (S : FnScope N ps (defScope st)) (len : ∀ vs H Q E, sp vs H Q E → vs.length = ps.length)
    (hbody : ∀ (f : Addr) (cdv : Value) (A : Around) (outer : List Env) (s : Shared) (H : Hp) (vs : List V) (Q : VK) (E : XK), Room k (A.deeper (envOfC qual (defScope st) s.heap.objs.size f cdv)) → sp vs H Q E →
      ∃ t, PSs (cxOf CX0 P w K mg base N qual (defScope st) f cdv A outer s H E).nox (defBody st) t ∧ t { nx := fun _ H' => Q .non H', rt := Q } (start N vs) H) : Md P w K mg base (k + 1) C m sp := by
  obtain ⟨f, fd, F, b, hm⟩ := Z.ex
  exact ⟨⟨f, fd, ps, F.ok S len (hbody f), hm, b⟩⟩
theorem mkStM {K : PySem.W.Frag} {C : Addr} {m qual : Str} {st : Stmt} {ps : List Str} {f : Addr} {oc : Value} {od an : Option Addr} {osl : Array (Option Value)} {kV doc pm cdv ct : Value}
    (a : PySem.W.findIn K (.ref C) m = some (some (.ref f))) (i : PySem.W.isFn K (.ref f) = true) (l : K.lookup f = some ⟨oc, od, .func (PySem.W.fnOf m qual (defArgs st) (defBody st) (defScope st) .none kV doc pm an cdv ct), osl⟩) (c : PySem.W.codeIn K cdv qual = true) (k : PySem.W.keepIn K (.ref f) = true)
    (hb : ∀ (kV doc pm : Value) (an : Option Addr) (cdv ct : Value) (us : List Value), us.length = ps.length → bindArgs (PySem.W.fnOf m qual (defArgs st) (defBody st) (defScope st) .none kV doc pm an cdv ct) ⟨us, []⟩ = pure (ps.zip us)) : StM K C m qual st ps :=
  ⟨f, _, fun_mk (st := st) l c k, (fun_mk (st := st) l c k).binds hb, a, i, k⟩
/-- the standing __init__ of a class that makes objects -/
structure StI (K : PySem.W.Frag) (mg : Str → Option Value) (x : Str) (C : Addr) (qual : Str) (st : Stmt) (ps : List Str) : Prop where
  ex : ∃ f fd, Fun K "__init__" qual st f fd ∧ Binds K fd ps [] ∧ Mk K C f ∧ mg x = some (.ref C)
theorem StI.mkr {P : Program} {w : World} {K : PySem.W.Frag} {mg : Str → Option Value} {base : Heap} {x : Str} {C : Addr} {qual : Str} {st : Stmt} {k : Nat} {N ps : List Str} {sp : Sp} (Z : StI K mg x C qual st ps) (S : FnScope N ps (defScope st)) (len : ∀ vs H Q E, sp vs H Q E → vs.length = ps.length)
    (hbody : ∀ (f : Addr) (cdv : Value) (A : Around) (outer : List Env) (s : Shared) (H : Hp) (vs : List V) (Q : VK) (E : XK), Room k (A.deeper (envOfC qual (defScope st) s.heap.objs.size f cdv)) → sp vs H Q E →
      ∃ t, PSs (cxOf CX0 P w K mg base N qual (defScope st) f cdv A outer s H E).nox (defBody st) t ∧ t { nx := fun _ H' => Q .non H', rt := Q } (start N vs) H) : Mkr P w K mg base (k + 1) x C sp := by
  obtain ⟨f, fd, F, b, hm, hg⟩ := Z.ex
  exact ⟨⟨f, fd, ps, F.ok S len (hbody f), hm, b, hg⟩⟩
theorem mkStI {K : PySem.W.Frag} {mg : Str → Option Value} {x : Str} {C : Addr} {qual : Str} {st : Stmt} {ps : List Str} {f : Addr} {oc : Value} {od an : Option Addr} {osl : Array (Option Value)} {kV doc pm cdv ct : Value}
    (mx : mg x = some (.ref C)) (mk : PySem.W.makesIn K C = true) (kc : PySem.W.keepIn K (.ref C) = true)
    (a : PySem.W.findIn K (.ref C) "__init__" = some (some (.ref f))) (i : PySem.W.isFn K (.ref f) = true) (l : K.lookup f = some ⟨oc, od, .func (PySem.W.fnOf "__init__" qual (defArgs st) (defBody st) (defScope st) .none kV doc pm an cdv ct), osl⟩) (c : PySem.W.codeIn K cdv qual = true) (k : PySem.W.keepIn K (.ref f) = true)
    (hb : ∀ (kV doc pm : Value) (an : Option Addr) (cdv ct : Value) (us : List Value), us.length = ps.length → bindArgs (PySem.W.fnOf "__init__" qual (defArgs st) (defBody st) (defScope st) .none kV doc pm an cdv ct) ⟨us, []⟩ = pure (ps.zip us)) : StI K mg x C qual st ps :=
  ⟨f, _, fun_mk (st := st) l c k, (fun_mk (st := st) l c k).binds hb, ⟨mk, a, i, kc⟩, mx⟩
/-- a def that stands under another name -/
structure StA (K : PySem.W.Frag) (mg : Str → Option Value) (x q : Str) (st : Stmt) (ps : List Str) : Prop where
  ex : ∃ f fd, Fun K q q st f fd ∧ Binds K fd ps [] ∧ mg x = some (.ref f)
theorem StA.cd {P : Program} {w : World} {K : PySem.W.Frag} {mg : Str → Option Value} {base : Heap} {x q : Str} {st : Stmt} {k : Nat} {N ps : List Str} {sp : Sp} (Z : StA K mg x q st ps) (S : FnScope N ps (defScope st)) (len : ∀ vs H Q E, sp vs H Q E → vs.length = ps.length)
    (hbody : ∀ (f : Addr) (cdv : Value) (A : Around) (outer : List Env) (s : Shared) (H : Hp) (vs : List V) (Q : VK) (E : XK), Room k (A.deeper (envOfC q (defScope st) s.heap.objs.size f cdv)) → sp vs H Q E →
      ∃ t, PSs (cxOf CX0 P w K mg base N q (defScope st) f cdv A outer s H E).nox (defBody st) t ∧ t { nx := fun _ H' => Q .non H', rt := Q } (start N vs) H) : Cd P w K mg base (k + 1) x sp := by
  obtain ⟨f, fd, F, b, hm⟩ := Z.ex
  exact ⟨⟨f, fd, ps, F.ok S len (hbody f), hm, F.kp, b⟩⟩
theorem mkStA {K : PySem.W.Frag} {mg : Str → Option Value} {x q : Str} {st : Stmt} {ps : List Str} {h : Heap} {f : Addr} {oc : Value} {od an : Option Addr} {osl : Array (Option Value)} {kV doc pm cdv ct : Value} (X : K.In h) (G : h.Ns mainGlobals mg)
    (a : PySem.W.nsIn K mainGlobals x = some (some (.ref f))) (l : K.lookup f = some ⟨oc, od, .func (PySem.W.fnOf q q (defArgs st) (defBody st) (defScope st) .none kV doc pm an cdv ct), osl⟩) (c : PySem.W.codeIn K cdv q = true) (k : PySem.W.keepIn K (.ref f) = true)
    (hb : ∀ (kV doc pm : Value) (an : Option Addr) (cdv ct : Value) (us : List Value), us.length = ps.length → bindArgs (PySem.W.fnOf q q (defArgs st) (defBody st) (defScope st) .none kV doc pm an cdv ct) ⟨us, []⟩ = pure (ps.zip us)) : StA K mg x q st ps :=
  ⟨f, _, fun_mk (st := st) l c k, (fun_mk (st := st) l c k).binds hb, PySem.W.mg_of X G a⟩
/-! backward readings -/
def kFld (K : PySem.W.Frag) (f : Str) (Q : VK) : VK := fun x H1 => ∃ a C dx fs v, x = .ref a ∧ H1 a = some (.ins C dx fs) ∧ Cls K C ∧ NoAttr K C f ∧ fs.lookup f = some v ∧ Q v H1
def kFldS (K : PySem.W.Frag) (f : Str) (D : Ends) (σ : L2.St) (y : V) : VK := fun x H2 => ∃ a C dx fs, x = .ref a ∧ H2 a = some (.ins C dx fs) ∧ Cls K C ∧ NoAttr K C f ∧ fs.length < 1000 ∧ D.nx σ (upd H2 a (.ins C dx (putF f y fs)))
def kMd (C : Addr) (m : Str) (t : TA) (σ : L2.St) (k : V → List V → Hp → Prop) : VK := fun x H1 => ∃ a dx fs, x = .ref a ∧ H1 a = some (.ins C dx fs) ∧ fs.lookup m = none ∧ t σ H1 fun vs H2 => k x vs H2
section
variable {K : PySem.W.Frag} {σ : L2.St} {H : Hp} {Q : VK} {D : Ends} {ta tv : TE} {t : TA} {f m : Str} {C a dx : Addr} {fs : List (Str × V)} {F : List Str} {v y : V} {sp : Sp}
theorem w_fld (q : ta σ H (kFld K f Q)) : tFld K ta f σ H Q := q
theorem w_kFld (T : Ob K C F) (h : H a = some (.ins C dx fs)) (hf : f ∈ F) (l : fs.lookup f = some v) (q : Q v H) : kFld K f Q (.ref a) H := ⟨a, C, dx, fs, v, rfl, h, T.cl, T.na f hf, l, q⟩
theorem w_fldS (q : tv σ H fun y H1 => ta σ H1 (kFldS K f D σ y)) : sFld K ta tv f D σ H := q
theorem w_kFldS {fs' : List (Str × V)} (T : Ob K C F) (h : H a = some (.ins C dx fs)) (hf : f ∈ F) (hl : fs.length < 1000) (e : putF f y fs = fs') (q : ∀ H', H' a = some (.ins C dx fs') → But a H H' → D.nx σ H') : kFldS K f D σ y (.ref a) H :=
  ⟨a, C, dx, fs, rfl, h, T.cl, T.na f hf, hl, q _ (by rw [e]; exact upd_same) But.set⟩
theorem w_md (q : ta σ H (kMd C m t σ fun x vs H2 => sp (x :: vs) H2 Q E0)) : tMd C m sp ta t σ H Q := q
theorem w_kMd {k : V → List V → Hp → Prop} (h : H a = some (.ins C dx fs)) (l : fs.lookup m = none) (q : t σ H fun vs H2 => k (.ref a) vs H2) : kMd C m t σ k (.ref a) H := ⟨a, dx, fs, rfl, h, l, q⟩
def kMkr (C : Addr) (sp : Sp) (Q : VK) : List V → Hp → Prop := fun vs H1 => ∀ x dx, H1 x = none → H1 dx = none → dx ≠ x → sp (.ref x :: vs) (upd (upd H1 dx (.own x)) x (.ins C dx [])) (fun v H2 => v = .non ∧ Q (.ref x) H2) E0
theorem w_mkr (q : t σ H (kMkr C sp Q)) : tMkr C sp t σ H Q := q
def kFldA (K : PySem.W.Frag) (f : Str) (tv : TE) (rd : V → V → Hp → VK → Prop) (D : Ends) (σ : L2.St) : VK := fun x H1 => ∃ a C dx fs v, x = .ref a ∧ H1 a = some (.ins C dx fs) ∧ Cls K C ∧ NoAttr K C f ∧ fs.lookup f = some v ∧
  tv σ H1 fun y H2 => rd v y H2 fun z H3 => ∃ dx' fs', H3 a = some (.ins C dx' fs') ∧ fs'.length < 1000 ∧ D.nx σ (upd H3 a (.ins C dx' (putF f z fs')))
theorem w_fldA {rd : V → V → Hp → VK → Prop} (q : ta σ H (kFldA K f tv rd D σ)) : sFldAug K ta tv rd f D σ H := q
end
end Co

set_option Elab.async false
set_option linter.all false
set_option maxRecDepth 100000
set_option maxHeartbeats 4000000
namespace Co
open PySem PySem.Spec PyProof.Rows GenW L2
/-! ### a for loop in a generator -/
section
variable {M : Model} {A : Around} {R : GenEnd} {Y : Protocol} {n : Nat} {s₀ s : Shared} {c : Code} {fs : List Frame} {env : Env} {K : Flow → Sem PySem.Fin} {H : Value → Sem PySem.Fin} {gd : Bool → Bool} {lv : List Value → List Value}
theorem seg_holding {α : Type} {vs : List Value} {m : Sem α} {K : α → Sem PySem.Fin}
    (h : wpAny M (A.over c fs) m (fun a s' => Seg M A R Y n s₀ c (K a) fs s') (fun x s' => Seg M A R Y n s₀ c (H x) fs s') s) :
    Seg M A R Y n s₀ c ((holding vs m).wrap K H gd lv) fs s := seg_wrap (wpAny_holding h)
theorem seg_ForG {tg iter : Expr} {body orelse : List Stmt} {pos : Pos}
    (h : wpAny M (A.over c fs) (eval iter env) (fun x s1 => wpAny M (A.over c fs) (pyIter x) (fun it s2 => ∀ p, Seg M A R Y n s₀ (.forLoop tg it body orelse env) (M.den (.forLoop tg it body orelse env))
      (.ret (fun r => ((match r with | .ok f => (.pure f : Sem Flow) | .error e => .raise e).onRaise (cameBack env)).wrap K H gd lv) none (gd false) (lv []) c p [] :: fs) s2)
      (fun x s' => Seg M A R Y n s₀ c (H x) fs s') s1) (fun x s' => Seg M A R Y n s₀ c (H x) fs s') s)
    (hs : ∀ x, foldedSetIterable iter env x = pure x) : Seg M A R Y n s₀ c ((exec (.For tg iter body orelse pos) env).wrap K H gd lv) fs s := by
  rw [exec_For]
  refine seg_bind_wrap (wpAny_standAt ?_)
  refine seg_bind_wrap (wpAny_mono h (fun x s1 h1 => ?_) fun x s' hx => hx)
  refine seg_bind_wrap (wpAny_of_eq (hs x) ?_)
  refine seg_bind_wrap (wpAny_standAt ?_)
  refine seg_bind_wrap (wpAny_holding (wpAny_mono h1 (fun it s2 h2 => ?_) fun x s' hx => hx))
  exact seg_call h2
/-- what an exception does that leaves the turn -/
abbrev outE (env : Env) : Value → Sem PySem.Fin := fun e => (do noteFrame e env; theTreesLotGoes e : Sem Unit).wrap (fun _ => .raise e) .raise id id
end
section
variable {prog : Program} {w : World} {A : Around} {R : GenEnd} {Y : Protocol} {n : Nat} {s₀ : Shared} {fs : List Frame} {s : Shared} {env : Env}
theorem seg_forLoopG {tg : Expr} {it : Value} {body orelse : List Stmt}
    (h : wpAny (model prog w) (A.over (.forLoop tg it body orelse env) fs) (pyNext it) (fun r s1 => match r with
        | none => Seg (model prog w) A R Y n s₀ (.forLoop tg it body orelse env) (.pure (.again (.block orelse env))) fs s1
        | some v => wpAny (model prog w) (A.over (.forLoop tg it body orelse env) fs) (letOwnedTupleGo tg it v) (fun _ s2 => wpAny (model prog w) (A.over (.forLoop tg it body orelse env) fs) (assign tg env v) (fun _ s3 =>
            Seg (model prog w) A R Y n s₀ (.forLoop tg it body orelse env) ((execs body env).wrap (fun f => match f with
              | .next | .cont => .pure (.again (.forLoop tg it body orelse env))
              | .brk => .pure (.done .next)
              | .ret v => .pure (.done (.ret v))) (outE env) id id) fs s3)
            (fun x s' => Seg (model prog w) A R Y n s₀ (.forLoop tg it body orelse env) (outE env x) fs s') s2)
            (fun x s' => Seg (model prog w) A R Y n s₀ (.forLoop tg it body orelse env) (outE env x) fs s') s1)
      (fun x s' => Seg (model prog w) A R Y n s₀ (.forLoop tg it body orelse env) (outE env x) fs s') s) :
    Seg (model prog w) A R Y n s₀ (.forLoop tg it body orelse env) ((model prog w).den (.forLoop tg it body orelse env)) fs s := by
  show Seg _ A R Y n s₀ _ ((forTurn tg it body orelse env).onRaise (fun x => do noteFrame x env; theTreesLotGoes x)) fs s
  have eo : ∀ x : Value, ((do noteFrame x env; theTreesLotGoes x : Sem Unit).bind fun _ => (Sem.raise x : Sem PySem.Fin)) = outE env x := fun x => Sem.bind_eq_wrap _ _
  rw [Sem.onRaise_eq_wrap]
  unfold forTurn
  refine seg_bind_wrap (wpAny_standAt ?_)
  refine seg_bind_wrap (wpAny_onRaise (wpAny_mono h (fun r s1 h1 => ?_) fun x s' hx => wpAny_standAt ?_))
  · cases r with
    | none =>
      exact h1
    | some v =>
      refine seg_bind_wrap (wpAny_mono h1 (fun _ s2 h2 => ?_) fun x s' hx => ?_)
      · refine seg_bind_wrap (wpAny_mono h2 (fun _ s3 h3 => ?_) fun x s' hx => ?_)
        · rw [Sem.bind_eq_wrap', Sem.wrap_wrap]
          rw [Sem.wrap_congr (execs body env) _ _ (K' := fun f => match f with
            | .next | .cont => .pure (.again (.forLoop tg it body orelse env))
            | .brk => .pure (.done .next)
            | .ret v => .pure (.done (.ret v))) (H' := outE env)
            (fun f => by cases f <;> rfl)
            (fun e => by first | exact eo e | (show ((do noteFrame e env; theTreesLotGoes e : Sem Unit).bind fun _ => (Sem.raise e : Sem PySem.Fin)) = _; exact eo e))]
          exact h3
        · rw [← eo] at hx; exact hx
      · rw [← eo] at hx; exact hx
  · rw [← eo] at hx; exact hx
/-- the end of the loop: its else, which is empty -/
theorem seg_blockNil {tgE : List Stmt} (he : tgE = []) {c : Code} (h : Seg (model prog w) A R Y n s₀ (.block [] env) (leafOf (.ok .next)) fs s) : Seg (model prog w) A R Y n s₀ c (.pure (.again (.block tgE env))) fs s := by
  subst he
  refine seg_again rfl ?_
  exact h
end
/-- W: the invariant by the turn, a measure, and what is out -/
def tGFor (wi : TI) (g : TG) (tb : TGn) : TGn := fun D ys σ H => wi σ H fun J H1 => ∃ W : Nat → Nat → List V → L2.St → Hp → Prop, (∃ m, W 0 m ys σ H1) ∧ ∀ i m ys σ H, W i m ys σ H →
  (J.stop i H ∧ D.nx ys σ H) ∨ (J.go i H ∧ ∃ N : List V → L2.St → Hp → Prop, (∀ ys' σ' H', N ys' σ' H' → ∃ m', m' < m ∧ W (i + 1) m' ys' σ' H') ∧ ∀ x H', J.yld i H x H' → g x σ H' fun σ2 H2 => tb { D with nx := N, ct := N, bk := D.nx } ys σ2 H2)
theorem gs_for {X : Cx} {tg iter : Expr} {body : List Stmt} {wi : TI} {g : TG} {tb : TGn} {pos : Pos} (hp : PassesOwn (model X.prog X.w) X.A X.env X.xe) (hc : X.calm = true) (hi : PI X tg iter wi) (hg : PG X tg g) (hb : GSs X body tb)
    (hs : ∀ x, foldedSetIterable iter X.env x = pure x := by intro _; rfl) : GS X (.For tg iter body [] pos) (tGFor wi g tb) := by
  refine ⟨fun A S ip R n ys s₀ c fs K J gd lv s σ H D gc hn k hI ht => ?_⟩
  refine seg_ForG ?_ hs
  rw [gc.over]
  obtain ⟨acc, cc, r, I⟩ := hI
  refine wpAny_mono (hi.run _ s σ H _ I ht) (fun v s1 h1 => wpAny_mono h1 (fun itv s2 h2 p => ?_) fun x s' hx => k.exc n s₀ x s' hx) fun x s' hx => k.exc n s₀ x s' hx
  obtain ⟨it, fp, tn, J', H2, e, I2, T, st2, f2, W, ⟨m0, w0⟩, turn⟩ := h2
  subst e
  have gl := fun (kk : Result → Sem PySem.Fin) => gc_loop (k := kk) (c' := .forLoop tg (.ref it) body [] X.env) (l := lv []) (kp := []) (p := p) gc rfl rfl
  have stat : ∀ {acc' : Array Value} {c' : Nat} {H' : Hp}, (∀ b ∈ fp, H' b = none) → ∀ b ∈ fp, FpOk X ((S, lstObj acc' c') :: ip) H' b := fun {acc' c' H'} hn b hb => by
    obtain ⟨_, g1, g2, g3, g4, g5⟩ := f2 b hb
    refine ⟨hn b hb, g1, g2, g3, g4, fun q hq => ?_⟩
    rcases List.mem_append.mp hq with hq | hq
    · exact g5 q (List.mem_append_left _ hq)
    · rcases List.mem_cons.mp hq with rfl | hq
      · exact g5 (S, lstObj acc cc) (List.mem_append_right _ List.mem_cons_self)
      · exact g5 q (List.mem_append_right _ (List.mem_cons_of_mem _ hq))
  have nS : ∀ b ∈ fp, b ≠ S := fun b hb => ((f2 b hb).2.2.2.2.2 (S, lstObj acc cc) (List.mem_append_right _ List.mem_cons_self)).symm
  have loop : ∀ (m i n : Nat) (ys : List V) (s₀ s : Shared) (σ : L2.St) (H : Hp), n + ys.length = sizeLine → W i m ys σ H → GI X S ip ys σ H s → tn i s.heap → (∀ b ∈ fp, H b = none) →
      Seg (model X.prog X.w) A R (GY X S) n s₀ (.forLoop tg (.ref it) body [] X.env) ((model X.prog X.w).den (.forLoop tg (.ref it) body [] X.env))
        (.ret (fun r => ((match r with | .ok f => (.pure f : Sem Flow) | .error e => .raise e).onRaise (cameBack X.env)).wrap K J gd lv) none (gd false) (lv []) c p [] :: fs) s := by
    intro m
    induction m using Nat.strongRecOn with
    | ind m ih =>
      intro i n ys s₀ s σ H hn w hI st fr
      have ee : ∀ (n : Nat) (s₀ : Shared) (x : Value) (s' : Shared), X.xe x s' → Seg (model X.prog X.w) A R (GY X S) n s₀ (.forLoop tg (.ref it) body [] X.env) (outE X.env x)
          (.ret (fun r => ((match r with | .ok f => (.pure f : Sem Flow) | .error e => .raise e).onRaise (cameBack X.env)).wrap K J gd lv) none (gd false) (lv []) c p [] :: fs) s' := fun n s₀ x s' hx => by
        refine seg_wrap ?_
        rw [(gl _).over]
        refine wpAny_bind (wpAny_mono (hp x s' hx) (fun _ s'' hcb => wpAny_theTreesLotGoes ?_) fun y s'' hcb => ?_)
        · exact seg_leaf (.error x) (seg_cameBack gc k hcb)
        · exact seg_leaf (.error y) (seg_cameBack gc k hcb)
      refine seg_forLoopG ?_
      rw [(gl _).over]
      obtain ⟨acc, cc, r, I⟩ := hI
      rcases turn i m ys σ H w with ⟨stop, qn⟩ | ⟨go, N, hN, step⟩
      · refine wpAny_mono (T.done X rfl rfl rfl hc i _ s σ H X.xe I (stat fr) st stop) (fun r' s4 h4 => ?_) fun x s' hx => ee n s₀ x s' hx
        obtain ⟨hr, I4⟩ := h4
        subst hr
        exact seg_blockNil rfl (seg_leaf (.ok .next) (k.ok n ys s₀ s4 .next hn ⟨σ, H, ⟨acc, cc, r, I4⟩, qn⟩))
      · refine wpAny_mono (T.item X rfl rfl rfl hc i _ s σ H X.xe I (stat fr) st go) (fun r' s4 h4 => ?_) fun x s' hx => ee n s₀ x s' hx
        obtain ⟨u, hr, h4⟩ := h4
        subst hr
        refine wpAny_mono h4 (fun _ s5 h5 => ?_) fun x s' hx => ee n s₀ x s' hx
        obtain ⟨x, H5, I5, r5, y5, st5, fr5⟩ := h5
        have I5' := I5.pinned (stat fr5) (T.obj _ _ st5)
        refine wpAny_mono (hg.run _ s5 σ H5 x u _ I5' r5 (step x H5 y5)) (fun _ s6 h6 => ?_) fun x s' hx => ee n s₀ x s' hx
        obtain ⟨σ6, H6, I6, q6⟩ := h6
        have gb : GC X S (ip ++ pinsAt fp s5.heap) A (.forLoop tg (.ref it) body [] X.env) (.ret (fun r => ((match r with | .ok f => (.pure f : Sem Flow) | .error e => .raise e).onRaise (cameBack X.env)).wrap K J gd lv) none (gd false) (lv []) c p [] :: fs) id :=
          { gl _ with ip := fun q hq => (by
              rcases List.mem_append.mp hq with hq | hq
              · exact gc.ip q hq
              · exact nS _ (of_pinsAt hq).1) }
        have unp : ∀ {ys' : List V} {σ' : L2.St} {H' : Hp} {s' : Shared}, GI X S (ip ++ pinsAt fp s5.heap) ys' σ' H' s' → GI X S ip ys' σ' H' s' ∧ tn (i + 1) s'.heap ∧ ∀ b ∈ fp, H' b = none := fun {ys' σ' H' s'} h => by
          obtain ⟨a', c', r', I'⟩ := h
          have I2' : Inv X (((S, lstObj a' c') :: ip) ++ pinsAt fp s5.heap) σ' H' s' := I'
          refine ⟨⟨a', c', r', I2'.unpinned⟩, T.keep _ _ _ st5 fun b hb o e => (I2'.pin (b, o) (List.mem_append_right _ (List.mem_append_right _ (mem_pinsAt hb e)))).1, fun b hb => ?_⟩
          obtain ⟨o, e, d⟩ := T.obj _ _ st5 b hb
          exact (I2'.pin (b, o) (List.mem_append_right _ (List.mem_append_right _ (mem_pinsAt hb e)))).2.1
        refine hb.run A S (ip ++ pinsAt fp s5.heap) R n ys s₀ _ _ _ _ id id s6 σ6 H6 { D with nx := N, ct := N, bk := D.nx } gb hn ⟨fun n' ys' s₀' s7 f hn' hs => ?_, fun n' s₀' x s7 hx => ee n' s₀' x s7 hx⟩ ⟨acc, cc, r, I6⟩ q6
        cases f with
        | next =>
          obtain ⟨σ7, H7, I7, n7⟩ := hs
          obtain ⟨m', hm, w7⟩ := hN ys' σ7 H7 n7
          obtain ⟨g7, t7, f7⟩ := unp I7
          exact seg_again rfl (ih m' hm (i + 1) n' ys' s₀' s7 σ7 H7 hn' w7 g7 t7 f7)
        | cont =>
          obtain ⟨σ7, H7, I7, n7⟩ := hs
          obtain ⟨m', hm, w7⟩ := hN ys' σ7 H7 n7
          obtain ⟨g7, t7, f7⟩ := unp I7
          exact seg_again rfl (ih m' hm (i + 1) n' ys' s₀' s7 σ7 H7 hn' w7 g7 t7 f7)
        | brk =>
          obtain ⟨σ7, H7, I7, n7⟩ := hs
          exact seg_leaf (.ok .next) (k.ok n' ys' s₀' s7 .next hn' ⟨σ7, H7, (unp I7).1, n7⟩)
        | ret v =>
          obtain ⟨v7, σ7, H7, I7, r7, n7⟩ := hs
          exact seg_leaf (.ok (.ret v)) (k.ok n' ys' s₀' s7 (.ret v) hn' ⟨v7, σ7, H7, (unp I7).1, r7, n7⟩)
  exact loop m0 0 n ys s₀ s2 σ H2 hn w0 ⟨acc, cc, r, I2⟩ st2 fun b hb => (f2 b hb).1
end Co

set_option Elab.async false
set_option linter.all false
set_option maxRecDepth 100000
set_option maxHeartbeats 4000000
namespace Co
open PySem PySem.Spec PyProof.Rows GenW L2
/-! ### calls by name, of defs and of generator defs -/
abbrev kvE (ks : List Str) : Prop := True
structure CdK (P : Program) (w : World) (K : PySem.W.Frag) (mg : Str → Option Value) (base : Heap) (k : Nat) (x : Str) (n : Nat) (ks : List Str) (sp : Sp) : Prop where
  ex : ∃ (f : Addr) (fd : FuncData) (ps : List Str), FnOk P w K mg base CX0 k f fd ps sp ∧ mg x = some (.ref f) ∧ PySem.W.keepIn K (.ref f) = true ∧ KBn K fd ps n ks (fun us ws => us ++ ws) (fun vs zs => vs ++ zs)
structure GCdK (P : Program) (w : World) (K : PySem.W.Frag) (mg : Str → Option Value) (base : Heap) (k : Nat) (x : Str) (n : Nat) (ks : List Str) (sp : SpG) : Prop where
  ex : ∃ (f : Addr) (fd : FuncData) (ps : List Str), GFn P w K mg base k f fd ps sp ∧ mg x = some (.ref f) ∧ PySem.W.keepIn K (.ref f) = true ∧ KBn K fd ps n ks (fun us ws => us ++ ws) (fun vs zs => vs ++ zs)
def tCK (n m : Nat) (sp : Sp) (t tk : TA) : TE := fun σ H Q => t σ H fun vs H1 => tk σ H1 fun zs H2 => vs.length = n ∧ zs.length = m ∧ sp (vs ++ zs) H2 Q E0
def tGK (n m : Nat) (sp : SpG) (t tk : TA) : TGen := fun σ H cont => t σ H fun vs H1 => tk σ H1 fun zs H2 => vs.length = n ∧ zs.length = m ∧ sp (vs ++ zs) H2 cont E0
section
variable {X : Cx} {k j n : Nat} {x : Str} {ks : List Str} {p pos : Pos} {e : Expr} {es : List Expr} {kws : List Keyword} {t tk : TA}
theorem pe_cdK {sp : Sp} (c : CdK X.prog X.w X.K X.mg X.base k x n ks sp) (hr : Room j X.A) (hk : k ≤ j) (hg : Gl X x) (ha : PA X (e :: es) t) (hkw : PK X kws tk)
    (hall : (backToKw pos (keywordEach kws X.env)).all (·.1.isSome) = true := by rfl) (hks : (backToKw pos (keywordEach kws X.env)).filterMap (·.1) = ks := by rfl)
    (hdb : (x == ("__debug__" : Str)) = false := by decide) (he : starEach (e :: es) X.env = (false, eval e X.env) :: starEach es X.env := by rfl)
    (hpl : ((backTo pos (starEach (e :: es) X.env)).any (·.1) || (backToKw pos (keywordEach kws X.env)).any (·.1.isNone)) = false := by rfl) :
    PE X (.Call (.Name x p) (e :: es) kws pos) (tCK n ks.length sp t tk) := by
  obtain ⟨f, fd, ps, F, hm, kp, b⟩ := c.ex
  exact pe_callN (E := E0) F (hr.mono hk) hg hm kp b pass0 ha hkw hall hks hdb he hpl
theorem run_gfnK {f : Addr} {fd : FuncData} {ps : List Str} {sp : SpG} {pins : List (Addr × Obj)} {σ : L2.St} {H : Hp} {s : Shared} {us ws : List Value} {vs zs : List V} {cont : List V → Hp → Prop} {E : XK} {E1 : Value → Shared → Prop} (F : GFn X.prog X.w X.K X.mg X.base k f fd ps sp) (hr : Room k X.A)
    (hb : KBn X.K fd ps n ks (fun us ws => us ++ ws) (fun vs zs => vs ++ zs)) (I : Inv X pins σ H s) (r : Vals vs us) (rz : Vals zs ws) (l1 : vs.length = n) (l2 : zs.length = ks.length) (h : sp (vs ++ zs) H cont E) :
    wpAny (model X.prog X.w) X.A (call (.ref f) us (ks.zip ws)) (fun u s' => ∃ H1 sc ex, Inv X pins σ H1 sc ∧ ExOk X pins ex ∧ GMade X.prog X.w k X.stack H1 sc ex cont E u s') E1 s := by
  refine wpAny_call (codeAny_mono (F.run X.A X.stack s H ⟨us, ks.zip ws⟩ (us ++ ws) (vs ++ zs) cont E hr I.env0 (hb.to s us ws I.kIn (r.length.symm.trans l1) (rz.length.symm.trans l2)) (hb.rel r rz) h) fun r s' hq => ?_)
  cases r with
  | error e => exact False.elim hq
  | ok fl =>
    cases fl with
    | ret u => exact ⟨H, s, [], I, .nil, hq⟩
    | next => exact False.elim hq
    | brk => exact False.elim hq
    | cont => exact False.elim hq
theorem pgen_cdK {sp : SpG} (c : GCdK X.prog X.w X.K X.mg X.base k x n ks sp) (hr : Room k X.A) (hg : Gl X x) (ha : PA X (e :: es) t) (hkw : PK X kws tk)
    (hall : (backToKw pos (keywordEach kws X.env)).all (·.1.isSome) = true := by rfl) (hks : (backToKw pos (keywordEach kws X.env)).filterMap (·.1) = ks := by rfl)
    (hdb : (x == ("__debug__" : Str)) = false := by decide) (he : starEach (e :: es) X.env = (false, eval e X.env) :: starEach es X.env := by rfl)
    (hpl : ((backTo pos (starEach (e :: es) X.env)).any (·.1) || (backToKw pos (keywordEach kws X.env)).any (·.1.isNone)) = false := by rfl) :
    PGen X k (.Call (.Name x p) (e :: es) kws pos) (tGK n ks.length sp t tk) E0 := by
  obtain ⟨f, fd, ps, F, hm, kp, b⟩ := c.ex
  refine ⟨fun pins s σ H cont I h => ?_⟩
  refine wpAny_Call_Name_kw (ld_glob I hg hm ?_ hdb)
  refine PySem.W.callWith_KW (h₀ := X.base) I.ok.mod.kin kp hall (thn (ha.run pos pins s σ H _ I h) fun us s1 ⟨vs, H1, I1, r, q⟩ => ?_) hpl he
  refine thn (hkw.run pos pins s1 σ H1 _ I1 q) fun ws s2 ⟨zs, H2, I2, rz, l1, l2, q2⟩ => ⟨I2.kIn, ?_⟩
  rw [hks]
  exact run_gfnK F hr b I2 r rz l1 l2 q2
theorem passE0 : Passes (CX X.prog X.w) X E0 := fun pins σ H s e s' I h => by
  obtain ⟨a, B, H', cls, d, _, _, _, _, _, _, _, w⟩ := h
  exact w.elim
theorem noStopE0 {K : PySem.W.Frag} : NoStop K E0 := fun cls d H h => h.elim
end
/-- a def with keyword-only parameters that stands -/
structure StK (K : PySem.W.Frag) (mg : Str → Option Value) (x : Str) (st : Stmt) (ps : List Str) (n : Nat) (ks : List Str) : Prop where
  ex : ∃ f fd, Fun K x x st f fd ∧ KBn K fd ps n ks (fun us ws => us ++ ws) (fun vs zs => vs ++ zs) ∧ mg x = some (.ref f)
theorem StK.cd {P : Program} {w : World} {K : PySem.W.Frag} {mg : Str → Option Value} {base : Heap} {x : Str} {st : Stmt} {k n : Nat} {ks N ps : List Str} {sp : Sp} (Z : StK K mg x st ps n ks) (S : FnScope N ps (defScope st)) (len : ∀ vs H Q E, sp vs H Q E → vs.length = ps.length)
    (hbody : ∀ (f : Addr) (cdv : Value) (A : Around) (outer : List Env) (s : Shared) (H : Hp) (vs : List V) (Q : VK) (E : XK), Room k (A.deeper (envOfC x (defScope st) s.heap.objs.size f cdv)) → sp vs H Q E →
      ∃ t, PSs (cxOf CX0 P w K mg base N x (defScope st) f cdv A outer s H E).nox (defBody st) t ∧ t { nx := fun _ H' => Q .non H', rt := Q } (start N vs) H) : CdK P w K mg base (k + 1) x n ks sp := by
  obtain ⟨f, fd, F, b, hm⟩ := Z.ex
  exact ⟨⟨f, fd, ps, F.ok S len (hbody f), hm, F.kp, b⟩⟩
theorem StK.gcd {P : Program} {w : World} {K : PySem.W.Frag} {mg : Str → Option Value} {base : Heap} {x : Str} {st : Stmt} {k n : Nat} {ks N ps : List Str} {sp : SpG} (Z : StK K mg x st ps n ks) (S : GScope N ps (defScope st)) (len : ∀ vs H Q E, sp vs H Q E → vs.length = ps.length)
    (hbody : ∀ (f : Addr) (cdv : Value) (A : Around) (outer : List Env) (s : Shared) (H : Hp) (vs : List V) (Q : List V → Hp → Prop) (E : XK) (pn : List (Addr × Obj)), Room k (A.deeper (envOfC x (defScope st) s.heap.objs.size f cdv)) → sp vs H Q E →
      ∃ t, GSs (gcxOf P w K mg base N x (defScope st) f cdv A outer s H E pn) (defBody st) t ∧ t { nx := fun ys _ H' => Q ys H', rt := fun ys v H' => v = .non ∧ Q ys H' } [] (start N vs) H) : GCdK P w K mg base (k + 1) x n ks sp := by
  obtain ⟨f, fd, F, b, hm⟩ := Z.ex
  obtain ⟨oc, od, kV, doc, pm, an, cdv, ct, osl, rfl, lk, hcd⟩ := F.ex
  exact ⟨⟨f, _, ps, gfn_of lk hcd S len (hbody f cdv), hm, F.kp, b⟩⟩
theorem mkStK {K : PySem.W.Frag} {mg : Str → Option Value} {x : Str} {st : Stmt} {ps ks : List Str} {n : Nat} {h : Heap} {f : Addr} {oc : Value} {od an : Option Addr} {osl : Array (Option Value)} {kV doc pm cdv ct : Value} (X : K.In h) (G : h.Ns mainGlobals mg)
    (a : PySem.W.nsIn K mainGlobals x = some (some (.ref f))) (l : K.lookup f = some ⟨oc, od, .func (PySem.W.fnOf x x (defArgs st) (defBody st) (defScope st) .none kV doc pm an cdv ct), osl⟩) (c : PySem.W.codeIn K cdv x = true) (k : PySem.W.keepIn K (.ref f) = true)
    (hb : ∀ (kV doc pm : Value) (an : Option Addr) (cdv ct : Value) (us ws : List Value), us.length = n → ws.length = ks.length → bindArgs (PySem.W.fnOf x x (defArgs st) (defBody st) (defScope st) .none kV doc pm an cdv ct) ⟨us, ks.zip ws⟩ = pure (ps.zip (us ++ ws))) : StK K mg x st ps n ks :=
  ⟨f, _, fun_mk (st := st) l c k, ⟨fun s us ws _ h1 h2 => .of_eq (hb kV doc pm an cdv ct us ws h1 h2), fun r rz => r.append rz⟩, PySem.W.mg_of X G a⟩
/-! readings -/
theorem w_cK {n m : Nat} {sp : Sp} {t tk : TA} {σ : L2.St} {H : Hp} {Q : VK} (q : t σ H fun vs H1 => tk σ H1 fun zs H2 => vs.length = n ∧ zs.length = m ∧ sp (vs ++ zs) H2 Q E0) : tCK n m sp t tk σ H Q := q
theorem w_gK {n m : Nat} {sp : SpG} {t tk : TA} {σ : L2.St} {H : Hp} {Q : List V → Hp → Prop} (q : t σ H fun vs H1 => tk σ H1 fun zs H2 => vs.length = n ∧ zs.length = m ∧ sp (vs ++ zs) H2 Q E0) : tGK n m sp t tk σ H Q := q
theorem w_listG {tg : TGen} {σ : L2.St} {H : Hp} {Q : VK} (q : tg σ H fun out H2 => ∀ p, H2 p = none → Q (.ref p) (upd H2 p (.lst out))) : tListG tg σ H Q := q
section
variable {D : GEnds} {ys : List V} {σ : L2.St} {H : Hp} {t u : TGn} {tp : TS} {te : TE}
theorem w_gThen (q : t { D with nx := fun ys' σ' H' => u D ys' σ' H' } ys σ H) : tGThen t u D ys σ H := q
theorem w_gPlain (q : tp { nx := D.nx ys, rt := D.rt ys, bk := D.bk ys, ct := D.ct ys } σ H) : tPlain tp D ys σ H := q
theorem w_g0 (q : D.nx ys σ H) : tG0 D ys σ H := q
theorem w_gYield (h : ys.length < sizeLine) (q : te σ H fun x H1 => D.nx (ys ++ [x]) σ H1) : tGYield te D ys σ H := ⟨h, q⟩
end
end Co
namespace Co
open PySem PySem.Spec PyProof.Rows GenW L2
section
variable {wi : TI} {g : TG} {tb : TGn} {D : GEnds} {ys : List V} {σ : L2.St} {H : Hp}
def kForG (g : TG) (tb : TGn) (D : GEnds) (ys : List V) (σ : L2.St) : It → Hp → Prop := fun J H1 => ∃ W : Nat → Nat → List V → L2.St → Hp → Prop, (∃ m, W 0 m ys σ H1) ∧ ∀ i m ys σ H, W i m ys σ H →
  (J.stop i H ∧ D.nx ys σ H) ∨ (J.go i H ∧ ∃ N : List V → L2.St → Hp → Prop, (∀ ys' σ' H', N ys' σ' H' → ∃ m', m' < m ∧ W (i + 1) m' ys' σ' H') ∧ ∀ x H', J.yld i H x H' → g x σ H' fun σ2 H2 => tb { D with nx := N, ct := N, bk := D.nx } ys σ2 H2)
theorem w_forG (q : wi σ H (kForG g tb D ys σ)) : tGFor wi g tb D ys σ H := q
theorem w_forGR {j : Int} (n : Nat) (Pv : Nat → List V → L2.St → Hp → Prop) (hn : j.toNat = n) (hj : n < 4611686018427387904 ∧ -4611686018427387904 ≤ j) (h0 : Pv 0 ys σ H)
    (hs : ∀ i ys σ H, i < n → Pv i ys σ H → g (.int (i : Int)) σ H fun σ2 H2 => tb { D with nx := Pv (i + 1), ct := Pv (i + 1), bk := D.nx } ys σ2 H2) (hd : ∀ ys σ H, Pv n ys σ H → D.nx ys σ H) : kR1 (kForG g tb D ys σ) [.int j] H := by
  refine ⟨j, rfl, by show -4611686018427387904 ≤ j; omega, by show j < 4611686018427387904; omega, ?_⟩
  subst hn
  refine ⟨fun i m ys σ H => m = j.toNat - i ∧ i ≤ j.toNat ∧ Pv i ys σ H, ⟨j.toNat, by simp, Nat.zero_le _, h0⟩, ?_⟩
  rintro i m ys σ H ⟨rfl, hi, p⟩
  by_cases hlt : i < j.toNat
  · refine .inr ⟨hlt, Pv (i + 1), fun ys' σ' H' p' => ⟨j.toNat - (i + 1), by omega, rfl, hlt, p'⟩, fun x H' y => ?_⟩
    obtain ⟨e, y⟩ := y
    subst e y
    rw [Int.zero_add]
    exact hs i ys σ _ hlt p
  · have e : i = j.toNat := by omega
    subst e
    exact .inl ⟨Nat.le_refl _, hd ys σ H p⟩
end
end Co

set_option Elab.async false
set_option linter.all false
set_option maxRecDepth 100000
set_option maxHeartbeats 4000000
namespace Co
open PySem PySem.Spec PyProof.Rows L2
/-! ### words as eight hexadecimal signs -/
/-- the code of a hexadecimal sign -/
def hxd (n : Nat) : Nat := (Nat.digitChar (n % 16)).toNat
/-- the last k hexadecimal signs of a number -/
def hxs : Nat → Nat → List Nat
  | 0, _ => []
  | k + 1, n => hxd (n / 16 ^ k) :: hxs k n
theorem hxs_len (n : Nat) : ∀ k, (hxs k n).length = k
  | 0 => rfl
  | k + 1 => by show (hxs k n).length + 1 = _; rw [hxs_len n k]
theorem hxs_back : ∀ k n, hxs (k + 1) n = hxs k (n / 16) ++ [hxd n]
  | 0, n => by simp [hxs]
  | k + 1, n => by
    rw [show hxs (k + 1 + 1) n = hxd (n / 16 ^ (k + 1)) :: hxs (k + 1) n from rfl, hxs_back k n, show hxs (k + 1) (n / 16) = hxd (n / 16 / 16 ^ k) :: hxs k (n / 16) from rfl, Nat.div_div_eq_div_mul, Nat.pow_succ, Nat.mul_comm (16 ^ k) 16]
    rfl
theorem hxs_zero : ∀ k, hxs k 0 = List.replicate k 48
  | 0 => rfl
  | k + 1 => by rw [show hxs (k + 1) 0 = hxd (0 / 16 ^ k) :: hxs k 0 from rfl, hxs_zero k, Nat.zero_div, List.replicate_succ]; rfl
theorem hxs_digits : ∀ k n, n < 16 ^ k → 1 ≤ k → (Nat.toDigits 16 n).length ≤ k ∧ List.replicate (k - (Nat.toDigits 16 n).length) 48 ++ (Nat.toDigits 16 n).map Char.toNat = hxs k n
  | 0, _, _, h => by omega
  | k + 1, n, hn, _ => by
    rw [Nat.toDigits_eq_if (by decide)]
    by_cases h : n < 16
    · rw [if_pos h]
      refine ⟨by simp, ?_⟩
      rw [hxs_back, Nat.div_eq_of_lt h, hxs_zero]
      show List.replicate (k + 1 - 1) 48 ++ [(Nat.digitChar n).toNat] = _
      rw [Nat.add_sub_cancel]
      unfold hxd
      rw [Nat.mod_eq_of_lt h]
    · rw [if_neg h]
      have hk : 1 ≤ k := by
        rcases k with _ | k
        · exact absurd (by simpa using hn) h
        · omega
      have hn' : n / 16 < 16 ^ k := by rw [Nat.pow_succ] at hn; omega
      obtain ⟨l, e⟩ := hxs_digits k (n / 16) hn' hk
      refine ⟨by rw [List.length_append]; simpa using l, ?_⟩
      rw [hxs_back, ← e, List.length_append, List.map_append, List.append_assoc]
      congr 2
      simp
def hexT (n : Nat) : Str := ⟨(hxs 8 n).toArray⟩
def spec08x : Str := ⟨#[48, 56, 120]⟩
def f08x : Builtin.Float.FormatSpec := { fill := 48, align := 61, width := some 8, type := some 120 }
section
variable {prog : Program} {w : World} {A : Around} {E : Value → Shared → Prop} {s : Shared} {a : Int} {t : Tok} {Q : Value → Shared → Prop}
theorem hex_text (h0 : 0 ≤ a) (h1 : a < 4294967296) : intField' f08x (decide (a < 0)) [] ((Nat.toDigits 16 a.natAbs).map fun c => (if (120 : Nat) == 88 then c.toUpper else c).toNat) [] 4 = hexT a.toNat := by
  have hneg : decide (a < 0) = false := decide_eq_false (by omega)
  have hl := tDigits_len_ge 16 a.natAbs
  have hd : ((Nat.toDigits 16 a.natAbs).map fun c => (if (120 : Nat) == 88 then c.toUpper else c).toNat).isEmpty = false := by
    cases h : Nat.toDigits 16 a.natAbs with
    | nil => rw [h] at hl; simp at hl
    | cons _ _ => rfl
  rw [hneg, intField'_zero_nonneg f08x _ 4 rfl rfl hd rfl rfl, List.length_map]
  have e : a.natAbs = a.toNat := by omega
  have := (hxs_digits 8 a.toNat (by omega) (by decide)).2
  rw [e]
  exact congrArg (fun z : List Nat => (⟨z.toArray⟩ : Str)) this
theorem field_hex (h0 : 0 ≤ a) (h1 : a < 4294967296) (h : ∀ t' k, Q (.str (hexT a.toNat) t') { s with toks := k }) : wpAny (model prog w) A (formatField (.int a t) spec08x) Q E s := by
  refine PySem.W.KXf.field_int (spec' := spec08x) rfl (by decide +kernel) (by decide +kernel) (fun u => ?_) h
  apply PySem.W.KPc.meets_of
  intro prog w A s Q E h
  unfold Builtin.«int.__format__»
  refine wpAny_bind (wpAny_of_eq (a := (_, _)) rfl ?_)
  refine wpAny_bind (wpAny_of_eq (a := _) rfl ?_)
  kxf_if
  refine wpAny_bind (wpAny_typeNameOf (T := "str") (typeIs_str _ _ _) (by decide) fun _ => ?_)
  refine wpAny_bind (wpAny_of_eq (a := some _) rfl ?_)
  kxf_if
  kxf_if
  refine wpAny_bind (wpAny_typeNameOfCut_int ?_)
  rw [show Builtin.Float.parseFormatSpec spec08x.cps.toList "int" 62 = .ok f08x by rfl]
  (repeat kxf_if)
  exact PySem.W.KXf.ret_text (hex_text h0 h1) (Nat.le_trans (Nat.le_of_eq (congrArg PySem.Str.length (hex_text h0 h1))) (by show (hxs 8 a.toNat).toArray.size ≤ _; rw [List.size_toArray, hxs_len]; decide)) h
end
section
variable {X : Cx}
/-- {x:08x} of a word -/
def tHex (te : TE) : TE := fun σ H Q => te σ H fun x H1 => ∃ i : Int, x = .int i ∧ 0 ≤ i ∧ i < 4294967296 ∧ Q (.str (hexT i.toNat)) H1
theorem pe_hex {e : Expr} {te : TE} {j : Nat} {p1 p2 p3 : Pos} (he : PE X e te) : PE X (.FormattedValue e (-1) (some (.JoinedStr [.Constant (.str spec08x) j p1] p2)) p3) (tHex te) := by
  refine ⟨fun pins s σ H Q I h => ?_⟩
  refine wpAny_FormattedValue_spec (thn (he.run pins s σ H _ I h) fun v s1 hv => ?_)
  obtain ⟨x, H1, I1, r1, i, rfl, h0, h1, q⟩ := hv
  obtain ⟨t, rfl⟩ := r1
  refine thn ((pe_joined1 (pe_str (x := spec08x) (j := j) (pos := p1)) (pos := p2)).run pins s1 σ H1 (fun x H' => x = .str spec08x ∧ H' = H1) I1 ⟨rfl, rfl⟩) fun r s2 hr => ?_
  obtain ⟨y, H2, I2, r2, rfl, rfl⟩ := hr
  obtain ⟨u, rfl⟩ := r2
  exact ⟨_, u, rfl, field_hex h0 h1 fun t' k => ⟨.str (hexT i.toNat), H2, I2.tok _, ⟨t', rfl⟩, q⟩⟩
theorem w_hex {te : TE} {σ : L2.St} {H : Hp} {Q : VK} (q : te σ H fun x H1 => ∃ i : Int, x = .int i ∧ 0 ≤ i ∧ i < 4294967296 ∧ Q (.str (hexT i.toNat)) H1) : tHex te σ H Q := q
end

/-! ### texts that are put together -/
def kFmt (Q : VK) : VK := fun x H1 => (∃ y : Str, x = .str y ∧ y.length ≤ sizeLine ∧ Q (.str y) H1) ∨ ∃ i : Int, x = .int i ∧ i.natAbs.log2 < 1920 ∧ Q (.str (toString i)) H1
/-- an int as a text -/
def dcT (i : Int) : Str := toString i
theorem dcT_len {i : Int} (h : i.natAbs < 4294967296) : (dcT i).length ≤ 11 := by
  have e := int_text_length_le10 (a := i) (k := 10) (by decide) (by omega)
  unfold dcT
  rw [PySem.ofString_length]
  omega
theorem log_small {i : Int} (h : i.natAbs < 4294967296) : i.natAbs.log2 < 1920 := by
  rcases Nat.eq_zero_or_pos i.natAbs with e | e
  · rw [e]; decide
  · exact Nat.lt_trans ((Nat.log2_lt (by omega)).mpr (show i.natAbs < 2 ^ 32 by omega)) (by decide)
def tJ (ts : List TE) : TE := fun σ H Q => tJs ts Str.empty σ H fun out H1 => Q (.str out) H1
theorem pe_J {X : Cx} {v1 v2 : Expr} {rest : List Expr} {ts : List TE} {pos : Pos} (h : PJ X (v1 :: v2 :: rest) ts) : PE X (.JoinedStr (v1 :: v2 :: rest) pos) (tJ ts) := pe_joined h
def kJs (acc : Str) (ts : List TE) (σ : L2.St) (Q : Str → Hp → Prop) : VK := fun x H1 => ∃ y : Str, x = .str y ∧ (acc ++ y).length ≤ sizeLine ∧ tJs ts (acc ++ y) σ H1 Q
def rStrQ : List V → Hp → VK → Prop := fun xs H Q => ∃ i, xs = [.int i] ∧ i.natAbs.log2 < 1920 ∧ Q (.str (toString i)) H
theorem call_strQ {X : Cx} : CallR X (.type "str") rStrQ := call_str_int
def rJoinQ (K : PySem.W.Frag) : V → List V → Hp → VK → Prop := fun x xs H Q => ∃ a p, ∃ ys : List Str, x = .str a ∧ xs = [.ref p] ∧ (SqL K H p (ys.map V.str) ∨ SqT K H p (ys.map V.str)) ∧
    (ys.map (·.length)).sum + ys.length * a.length ≤ 16777216 ∧ Q (.str (Txt.join a ys)) H
theorem mt_joinQ {X : Cx} : MtR X "str.join" (rJoinQ X.K) := mt_join
theorem cat_len (a b : Str) : (a ++ b).length = a.length + b.length := by
  show (a ++ b).cps.size = a.cps.size + b.cps.size
  rw [Str.cps_append, Array.size_append]
section
variable {te : TE} {σ : L2.St} {H : Hp} {Q : VK}
theorem w_fmt (q : te σ H (kFmt Q)) : tFmt te σ H Q := q
theorem w_kFmtS {y : Str} (h : y.length ≤ sizeLine) (q : Q (.str y) H) : kFmt Q (.str y) H := .inl ⟨y, rfl, h, q⟩
theorem w_kFmtI {i : Int} (h : i.natAbs < 4294967296) (q : Q (.str (dcT i)) H) : kFmt Q (.int i) H := .inr ⟨i, rfl, log_small h, q⟩
theorem w_J {ts : List TE} (q : tJs ts Str.empty σ H fun out H1 => Q (.str out) H1) : tJ ts σ H Q := q
theorem w_Js {t : TE} {ts : List TE} {acc : Str} {R : Str → Hp → Prop} (q : t σ H (kJs acc ts σ R)) : tJs (t :: ts) acc σ H R := q
theorem w_Js0 {acc : Str} {R : Str → Hp → Prop} (q : R acc H) : tJs [] acc σ H R := q
theorem w_kJs {ts : List TE} {acc y : Str} {R : Str → Hp → Prop} (h : (acc ++ y).length ≤ sizeLine) (q : tJs ts (acc ++ y) σ H R) : kJs acc ts σ R (.str y) H := ⟨y, rfl, h, q⟩
theorem w_strI {i : Int} (h : i.natAbs < 4294967296) (q : Q (.str (dcT i)) H) : rStrQ [.int i] H Q := ⟨i, rfl, log_small h, q⟩
theorem w_joinL {K : PySem.W.Frag} {a : Str} {p : Addr} (ys : List Str) (h : SqL K H p (ys.map V.str)) (hz : (ys.map (·.length)).sum + ys.length * a.length ≤ 16777216) (q : Q (.str (Txt.join a ys)) H) : rJoinQ K (.str a) [.ref p] H Q := ⟨a, p, ys, rfl, rfl, .inl h, hz, q⟩
end
section
variable {g : TG} {tb : TS} {D : Ends} {σ : L2.St} {H : Hp}
theorem w_forR2 {j : Int} (n : Nat) (Pv : Nat → L2.St → Hp → Prop) (hn : (j - 1).toNat = n) (hj : n < 4611686018427387903 ∧ -4611686018427387904 ≤ j) (h0 : Pv 0 σ H)
    (hs : ∀ i σ H, i < n → Pv i σ H → g (.int (1 + (i : Int))) σ H fun σ2 H2 => tb { D with nx := Pv (i + 1), ct := Pv (i + 1), bk := D.nx } σ2 H2) (hd : ∀ σ H, Pv n σ H → D.nx σ H) : kR2 (kFor g tb D σ) [.int 1, .int j] H := by
  refine ⟨1, j, rfl, ⟨by decide, by decide, by show -4611686018427387904 ≤ j; omega, by show j < 4611686018427387904; omega⟩, ?_⟩
  subst hn
  exact for_range (lo := 1) (n := (j - 1).toNat) Pv h0 (fun i σ H hi p => hs i σ H hi p) hd
end
end Co

set_option Elab.async false
set_option linter.all false
set_option maxRecDepth 100000
set_option maxHeartbeats 4000000
namespace Co
open PySem PySem.Spec PyProof.Rows L2
/-! ### sorted(rows) of pairs of an int and a text -/
/-- the int that a pair begins with -/
def kF (H : Hp) : V → Int
  | .ref t => match H t with
    | some (.tup (.int i :: _)) => i
    | _ => 0
  | _ => 0
abbrev shp : Nat → Bool := fun i => i == 1
theorem tups_ex {h : Heap} : ∀ {vs : List Value}, (∀ v ∈ vs, ∃ f, TupOf h shp v f) → ∃ fs, TupsOf h shp vs fs
  | [], _ => ⟨[], .nil⟩
  | v :: vs, h => by
    obtain ⟨f, hf⟩ := h v List.mem_cons_self
    obtain ⟨fs, hr⟩ := tups_ex fun u hu => h u (List.mem_cons_of_mem _ hu)
    exact ⟨f :: fs, .cons hf hr⟩
def rSortedT (K : PySem.W.Frag) : List V → Hp → VK → Prop := fun vs H Q => ∃ a xs, vs = [V.ref a] ∧ SqL K H a xs ∧ (∀ x ∈ xs, ∃ t i z, x = V.ref t ∧ H t = some (.tup [.int i, .str z])) ∧
  ∀ ys p, ys.Perm xs → (ys.map (kF H)).Pairwise (· ≤ ·) → H p = none → Q (.ref p) (upd H p (.lst ys))
theorem cr_sortedT {X : Cx} : CallR X (.builtin "sorted") (rSortedT X.K) := by
  intro pins s σ H vs us Q I r h
  obtain ⟨a, xs, rfl, hs, hx, q⟩ := h
  obtain ⟨its, rv, hl, hz⟩ := I.list hs
  obtain ⟨u, rfl, ru⟩ := vals1 r
  obtain rfl : u = Value.ref a := ru
  obtain ⟨e1, e2⟩ := refs_back rv fun x m => by
    obtain ⟨t, _, _, e, _⟩ := hx x m
    exact ⟨t, e⟩
  have each : ∀ v ∈ its, ∃ t i z o t1 t2 n, v = Value.ref t ∧ H t = some (.tup [.int i, .str z]) ∧ s.heap.get? t = some o ∧ o.cls = .type "tuple" ∧ o.data = .seq #[.int i t1, .str z t2] n := fun v hv => by
    obtain ⟨t, rfl⟩ := e2 v hv
    have hm : V.ref t ∈ xs := by rw [e1]; exact List.mem_map.mpr ⟨_, hv, rfl⟩
    obtain ⟨t', i, z, e, ht⟩ := hx _ hm
    cases e
    obtain ⟨_, its2, r2, o, ho, hc, n, hd⟩ := I.hok _ _ ht
    obtain ⟨u1, u2, rfl, ri, rj⟩ := vals2 r2
    obtain ⟨t1, rfl⟩ := ri
    obtain ⟨t2, rfl⟩ := rj
    exact ⟨t, i, z, o, t1, t2, n, rfl, ht, ho, hc, hd⟩
  have key : ∀ v ∈ its, ∃ y, G.tupKeyC s.heap shp v = some [Sum.inl (kF H (backV v)), Sum.inr y] := fun v hv => by
    obtain ⟨t, i, z, o, t1, t2, n, rfl, ht, ho, hc, hd⟩ := each v hv
    refine ⟨z.cps.toList, ?_⟩
    have ek : kF H (backV (.ref t)) = i := by
      show (match H t with | some (.tup (.int i :: _)) => i | _ => 0) = i
      rw [ht]
    rw [ek]
    unfold G.tupKeyC G.isTupObj
    simp only [ho, hc]
    rw [if_pos (by decide)]
    unfold tupKey
    simp only [ho, hd]
    rfl
  obtain ⟨fs, ht⟩ := tups_ex (h := s.heap) (vs := its) fun v hv => by
    obtain ⟨t, i, z, o, t1, t2, n, rfl, ht, ho, hc, hd⟩ := each v hv
    exact ⟨.int i t1, t, o, _, n, rfl, ho, hc, hd, rfl, fun _ => ⟨_, _, rfl⟩, fun e => absurd e (by decide)⟩
  refine G.sorted_tups (shape := shp) hl.isList ht (fun v hv => by obtain ⟨y, e⟩ := key v hv; exact ⟨_, e⟩) (by rw [← rv.length]; exact hz) fun st' hp hst _ => ?_
  have mem : ∀ p, p ∈ (arrOf st').toList → p.1 = p.2 ∧ p.1 ∈ its := fun p hp' => by
    have h2 : p ∈ (pairsOf its).toList := (Array.perm_iff_toList_perm.mp hp).mem_iff.mp hp'
    rw [pairsOf_toList] at h2
    exact mem_zip_self h2
  have sz : (arrOf st').size = its.length := by rw [hp.size_eq, pairsOf_size]
  obtain ⟨ep, he'⟩ := sortedAll_at s.heap its ((arrOf st').map (·.2))
  have ol : ((arrOf st').map (·.2)).toList = (arrOf st').toList.map (·.2) := Array.toList_map
  have om : ∀ u ∈ (arrOf st').toList.map (·.2), ∃ a, u = Value.ref a := fun u hu => by
    obtain ⟨p, hp', rfl⟩ := List.mem_map.mp hu
    obtain ⟨e, m⟩ := mem p hp'
    exact e2 _ (e ▸ m)
  have pm : (((arrOf st').toList.map (·.2)).map backV).Perm xs := by
    rw [e1]
    refine List.Perm.map _ ?_
    have := (Array.perm_iff_toList_perm.mp hp).map (·.2)
    rw [pairsOf_toList] at this
    have ez : (its.zip its).map (·.2) = its := by rw [List.map_snd_zip]; omega
    rw [ez] at this
    exact this
  have hlen : (((arrOf st').toList.map (·.2)).map backV).length ≤ sizeLine := by rw [pm.length_eq]; exact hz
  refine ⟨.ref _, upd H (s.heap.objs.size + 1) (.lst (((arrOf st').toList.map (·.2)).map backV)), I.laid (t' := s.toks) (fun _ _ => sortedAll_old) (Nat.le_succ _) ⟨hlen, ((arrOf st').map (·.2)).toList, ep, by rw [ol]; exact vals_back om, by rw [Array.toArray_toList]; exact he'⟩, rfl, q _ _ pm ?_ (I.hok.fresh (Nat.le_succ _))⟩
  rw [List.pairwise_iff_getElem]
  intro i j hi hj hij
  simp only [List.length_map, Array.length_toList] at hi hj
  have hK : ∀ k (hk : k < (arrOf st').size), ∃ y, KK (G.tupKindC s.heap shp) (arrOf st') k = [Sum.inl (kF H (backV (arrOf st')[k].2)), Sum.inr y] := fun k hk => by
    obtain ⟨e, m⟩ := mem (arrOf st')[k] (by simp)
    obtain ⟨y, ey⟩ := key _ m
    refine ⟨y, ?_⟩
    unfold KK
    rw [Array.getElem?_eq_getElem hk]
    show ((G.tupKeyC s.heap shp (arrOf st')[k].1).getD _) = _
    rw [ey, e]
    rfl
  obtain ⟨y1, k1⟩ := hK i hi
  obtain ⟨y2, k2⟩ := hK j hj
  have o := hst i j (Nat.le_of_lt hij) (by rw [pairsOf_size, ← sz]; exact hj)
  rw [k1, k2] at o
  have o2 := (lex_false.mp o).1
  have o3 : decide (kF H (backV (arrOf st')[j].2) < kF H (backV (arrOf st')[i].2)) = false := o2
  have o4 := of_decide_eq_false o3
  simp only [List.getElem_map, Array.getElem_toList]
  omega
end Co
namespace Co
open PySem PySem.Spec PyProof.Rows L2
/-! ### rows.count(row) of rows that are data: some number -/
def rCntD (K : PySem.W.Frag) : V → List V → Hp → VK → Prop := fun x xs H Q => ∃ (p : Addr) (ys : List V) (z : V) (d : PyData), x = .ref p ∧ xs = [z] ∧ SqL K H p ys ∧ (∀ y ∈ ys, ∃ e, Dp K H y e ∧ e.canLay0 = true) ∧ Dp K H z d ∧ d.canLay0 = true ∧ d.depth ≤ 8 ∧ ∀ n : Nat, Q (.int n) H
theorem vals_mem : ∀ {xs : List V} {us : List Value}, Vals xs us → ∀ u ∈ us, ∃ x ∈ xs, RelV x u
  | _, _, .nil, u, h => by cases h
  | x :: xs, _ :: us, .cons r t, u, h => by
    rcases List.mem_cons.mp h with rfl | h
    · exact ⟨x, List.mem_cons_self, r⟩
    · obtain ⟨y, hy, e⟩ := vals_mem t u h
      exact ⟨y, List.mem_cons_of_mem _ hy, e⟩
open Classical in
theorem mt_lcountD {X : Cx} (hu : X.A.units + 64 < cLine) : MtR X "list.count" (rCntD X.K) := by
  intro pins s σ H x xs v us Q I rx rxs h
  obtain ⟨p, ys, z, d, rfl, rfl, hs, hy, hz, cd, dd, q⟩ := h
  cases rx
  obtain ⟨u, rfl, ru⟩ := rxs.one
  obtain ⟨its, rv, ⟨⟨cls, dd', data, sl⟩, n, ho, hc, hdn, hd⟩, hlen⟩ := I.list hs
  simp only at hc hd
  subst hc hd
  obtain ⟨bs, r2⟩ := Dp.reads I d z u hz ru
  have ev : ∀ y ∈ its.toArray, ∃ b, SeqAt.EqAt X.A.in1 s y u b := fun y hm => by
    obtain ⟨y', hy', ry⟩ := vals_mem rv y (by simpa using hm)
    obtain ⟨e, he, ce⟩ := hy y' hy'
    obtain ⟨as, r1⟩ := Dp.reads I e y' y he ry
    exact ⟨_, SeqAt.eqAt_reads e d X.A.in1 s y u as bs r1 r2 ce cd (by show X.A.units + 1 + _ < cLine; omega)⟩
  let f : Value → Bool := fun y => if h : ∃ b, SeqAt.EqAt X.A.in1 s y u b then h.choose else false
  refine call_meets PySem.F.slot_list_count ⟨_, ho, rfl⟩ PySem.F.entry_list_count (PySem.F.args_list_count_2 _ _)
    (SeqAt.list_countAt p its.toArray n dd' sl u f) ⟨ho, fun y hm => ?_, ?_⟩
  · have h := ev y hm
    show SeqAt.EqAt _ _ y u (f y)
    have e : f y = h.choose := dif_pos h
    rw [e]
    exact h.choose_spec
  · exact ⟨.int (its.toArray.toList.countP f : Nat), H, I.tok _, ⟨s.toks, rfl⟩, q _⟩
theorem w_cntD {K : PySem.W.Frag} {p : Addr} {ys : List V} {z : V} {d : PyData} {H : Hp} {Q : VK} (h : SqL K H p ys) (hy : ∀ y ∈ ys, ∃ e, Dp K H y e ∧ e.canLay0 = true) (hz : Dp K H z d) (cd : d.canLay0 = true) (dd : d.depth ≤ 8) (q : ∀ n : Nat, Q (.int n) H) : rCntD K (.ref p) [z] H Q := ⟨p, ys, z, d, rfl, rfl, h, hy, hz, cd, dd, q⟩
theorem w_sortedT {K : PySem.W.Frag} {a : Addr} {xs : List V} {H : Hp} {Q : VK} (h : SqL K H a xs) (hx : ∀ x ∈ xs, ∃ t i z, x = V.ref t ∧ H t = some (.tup [.int i, .str z])) (q : ∀ ys p H', ys.Perm xs → (ys.map (kF H)).Pairwise (· ≤ ·) → H p = none → Same H H' → H' p = some (.lst ys) → Q (.ref p) H') : rSortedT K [.ref a] H Q :=
  ⟨a, xs, rfl, h, hx, fun ys p h1 h2 h3 => q ys p _ h1 h2 h3 (Same.new h3) upd_same⟩
theorem w_brk {D : Ends} {σ : L2.St} {H : Hp} (q : D.bk σ H) : tBreak D σ H := q
end Co

set_option Elab.async false
set_option linter.all false
set_option maxRecDepth 100000
set_option maxHeartbeats 4000000
namespace Co
open PySem PySem.Spec PyProof.Rows L2
theorem mt_lcountDK {X : Cx} {K' : PySem.W.Frag} (hK : X.K = K') (hu : X.A.units + 64 < cLine) : MtR X "list.count" (rCntD K') := by subst hK; exact mt_lcountD hu
theorem pe_bmK {X : Cx} {K' : PySem.W.Frag} {o e : Expr} {es : List Expr} {to : TE} {t : TA} {name : Str} {apos cpos : Pos} {T id : String} {r : V → List V → Hp → VK → Prop} (hK : X.K = K') (pa : PlainAttrs T) (slot : Slot T name id) (hty : typeOf (.builtin id) = pure (.type "method_descriptor")) (hm : MtR X id r) (ho : PE X o to) (ha : PA X (e :: es) t)
    (hbase : attributeBase o name X.env (eval o X.env) = eval o X.env := by rfl)
    (hfew : ((backTo cpos (starEach (e :: es) X.env)).all (fun x => !x.1) && (backToKw cpos (keywordEach [] X.env)).all (fun x => x.1.isSome)
      && decide ((e :: es).length + ([] : List Keyword).length + (if ([] : List Keyword).isEmpty then 0 else 1) < 30)) = true := by rfl)
    (hline : (apos.endLine == cpos.line) = true := by rfl) (hs : starEach (e :: es) X.env = (false, eval e X.env) :: starEach es X.env := by rfl) (hplain : (backTo cpos (starEach es X.env)).any (·.1) = false := by rfl) :
    PE X (.Call (.Attribute o name apos) (e :: es) [] cpos) (tBM K' T r to t) := by subst hK; exact pe_bm pa slot hty hm ho ha hbase hfew hline hs hplain
/-! ### texts whose signs are all signs; lists of texts as data -/
theorem sO_cat {a b : Str} (h1 : PyData.strOk a = true) (h2 : PyData.strOk b = true) : PyData.strOk (a ++ b) = true := by
  unfold PyData.strOk at *
  rw [Str.cps_append, Array.all_append, h1, h2]
  rfl
theorem sO_char (c : Char) : c.toNat < 0x110000 := by
  rcases c.valid with h | h
  · have : c.toNat < 0xd800 := h
    omega
  · exact h.2
theorem sO_list {l : List Nat} (h : ∀ x ∈ l, x < 0x110000) : PyData.strOk ⟨l.toArray⟩ = true := by
  unfold PyData.strOk
  rw [List.all_toArray, List.all_eq_true]
  exact fun x hx => decide_eq_true (h x hx)
theorem sO_ofString (s : String) : PyData.strOk (s : Str) = true := by
  rw [show ((s : Str)) = ⟨(s.toList.map Char.toNat).toArray⟩ from Str.ofString_eq_toList s]
  refine sO_list fun x hx => ?_
  obtain ⟨c, _, rfl⟩ := List.mem_map.mp hx
  exact sO_char c
theorem sO_dc (i : Int) : PyData.strOk (dcT i) = true := sO_ofString _
theorem hxs_ok : ∀ k n, ∀ x ∈ hxs k n, x < 0x110000
  | 0, _, x, h => by cases h
  | k + 1, n, x, h => by
    rcases List.mem_cons.mp h with rfl | h
    · exact sO_char _
    · exact hxs_ok k n x h
theorem sO_hex (n : Nat) : PyData.strOk (hexT n) = true := sO_list (hxs_ok 8 n)
theorem sO_join (a : Str) (ha : PyData.strOk a = true) : ∀ ys : List Str, (∀ y ∈ ys, PyData.strOk y = true) → PyData.strOk (Txt.join a ys) = true := by
  intro ys
  rw [TL.join_eq]
  induction ys with
  | nil => intro _; rw [Str.join]; exact sO_list (l := []) (fun x h => by cases h)
  | cons x r ih =>
    intro h
    cases r with
    | nil => rw [Str.join]; exact h x List.mem_cons_self
    | cons y r =>
      show PyData.strOk (x ++ a ++ Str.join a (y :: r)) = true
      exact sO_cat (sO_cat (h x List.mem_cons_self) ha) (ih fun z hz => h z (List.mem_cons_of_mem _ hz))
theorem lay_strs : ∀ xs : List Str, (∀ x ∈ xs, PyData.strOk x = true) → PyData.canLayAll0 (xs.map .str) = true ∧ PyData.depthAll (xs.map .str) = 0
  | [], _ => by simp [PyData.canLayAll0, PyData.depthAll]
  | x :: r, h => by
    have := lay_strs r fun y hy => h y (List.mem_cons_of_mem _ hy)
    simp [PyData.canLayAll0, PyData.depthAll, PyData.canLay0, PyData.depth, this.1, this.2, h x List.mem_cons_self]
theorem dpStrs {K : PySem.W.Frag} {H : Hp} : ∀ xs : List Str, DpAll K H (xs.map V.str) (xs.map .str)
  | [] => .nil
  | x :: r => .cons (.str x) (dpStrs r)
theorem strs_shaped {xs : List Str} (h : ∀ x ∈ xs, PyData.strOk x = true) : SeqAt.shaped (.list (xs.map .str)) = true := by
  have l := lay_strs xs h
  simp only [SeqAt.shaped, PyData.canLay0, PyData.depth, l.1, l.2, Bool.true_and, decide_eq_true_eq]
  decide
theorem ints_shaped (xs : List Int) : SeqAt.shaped (.list (xs.map .int)) = true := by
  have l := lay_ints xs
  simp only [SeqAt.shaped, PyData.canLay0, PyData.depth, l.1, l.2, Bool.true_and, decide_eq_true_eq]
  decide
/-- a list against the empty one -/
theorem w_neE0 {K : PySem.W.Frag} {p q : Addr} {xs : List V} {ds : List PyData} {H : Hp} {Q : VK} (h1 : SqL K H p xs) (hd : DpAll K H xs ds) (h2 : SqL K H q []) (s : SeqAt.shaped (.list ds) = true) (k : Q (.bl (!decide (xs = []))) H) : rNeD K (.ref p) (.ref q) H Q :=
  ⟨.list ds, .list [], .lst h1 hd, .lst h2 .nil, s, by decide, by
    cases hd with
    | nil => exact k
    | cons _ _ => exact k⟩
end Co

set_option Elab.async false
set_option linter.all false
set_option maxRecDepth 100000
set_option maxHeartbeats 4000000
namespace Co
open PySem PySem.Spec PyProof.Rows L2 RZ
/-! ### x in (a, b) of data; == and != of data inside a comprehension -/
def rInDT (K : PySem.W.Frag) : R2 := fun x y H Q => ∃ d ds, Dp K H x d ∧ Dp K H y (.tuple ds) ∧ SeqAt.shaped d = true ∧ SeqAt.shaped (.tuple ds) = true ∧ Q (.bl (ds.any fun z => PyData.eqv z d)) H
theorem room_in {A : Around} {xs : List PyData} {d : PyData} (sd : SeqAt.shaped d = true) (hu : A.units + 65 < cLine) : A.units + 1 + min (PyData.depthAll xs) d.depth < cLine := by
  have : d.depth ≤ 64 := by
    unfold SeqAt.shaped at sd
    simp only [Bool.and_eq_true, decide_eq_true_eq] at sd
    exact sd.2
  have := Nat.min_le_right (PyData.depthAll xs) d.depth
  omega
theorem op_inDT {X : Cx} (hu : X.A.units + 65 < cLine) : OpR X (compareOp .In) (rInDT X.K) := by
  intro pins s σ H x y v u Q I rx ry h
  obtain ⟨d, ds, hd, he, sd, se, q⟩ := h
  obtain ⟨as, r1⟩ := Dp.reads I d x v hd rx
  obtain ⟨bs, r2⟩ := Dp.reads I (.tuple ds) y u he ry
  exact SeqAt.in_tuple_reads r2 r1 (SeqAt.canLay_of_shaped se) (SeqAt.canLay_of_shaped sd) (room_in sd hu) ⟨.bl _, H, I, rfl, q⟩
theorem op_eqDK {X : Cx} {K' : PySem.W.Frag} (hK : X.K = K') (hu : X.A.units + 64 < cLine) : OpR X (compareOp .Eq) (rEqD K') := by subst hK; exact op_eqD hu
theorem op_neDK {X : Cx} {K' : PySem.W.Frag} (hK : X.K = K') (hu : X.A.units + 64 < cLine) : OpR X (compareOp .NotEq) (rNeD K') := by subst hK; exact op_neD hu
theorem hu65 {A : Around} {k : Nat} (hr : Room k A) : A.units + 65 < cLine := by have := hr.un; omega
/-! ### extend, dict.get with two arguments, sorted and list of a dict -/
theorem w_extend {p b : Addr} {xs zs : List V} {H : Hp} {Q : VK} (h : H p = some (.lst xs)) (hb : H b = some (.lst zs)) (hl : xs.length + zs.length ≤ sizeLine) (q : ∀ H', H' p = some (.lst (xs ++ zs)) → But p H H' → Q .non H') : rExtend (.ref p) [.ref b] H Q := ⟨p, b, xs, zs, rfl, rfl, h, hb, hl, q _ upd_same But.set⟩
def kI (i : Int) : Key := Sum.inl i
theorem w_dget2 {td ty tx : TE} {σ : L2.St} {H : Hp} {Q : VK} (q : td σ H fun x H1 => ∃ a, x = .ref a ∧ IsD H1 a ∧ ty σ H1 fun y H2 => tx σ H2 fun z H3 => ∃ o, DGet H3 a y o ∧ Q (o.getD z) H3) : tDGet2 td ty tx σ H Q := q
theorem DGet.i {H : Hp} {a : Addr} {kvs : List (Key × V)} {k : Int} (e : H a = some (.dK kvs)) : DGet H a (.int k) (valV kvs (kI k)) := DGet.k (k := kI k) e
def rSortedDI : List V → Hp → VK → Prop := fun xs H Q => ∃ (a : Addr) (kvs : List (Key × V)) (ks : List Int), xs = [.ref a] ∧ Rd H a (.dK kvs) ∧ kvs.map (·.1) = ks.map Sum.inl ∧ ks.length < 64 ∧ ∀ (ys : List Int) (p : Addr), ys.Perm ks → ys.Pairwise (· ≤ ·) → H p = none → Q (.ref p) (upd H p (.lst (ys.map V.int)))
theorem cr_sortedDI {X : Cx} (hc : X.calm = true) : CallR X (.builtin "sorted") rSortedDI := call_sortedDI hc
theorem w_sortedDI {a : Addr} {kvs : List (Key × V)} (ks : List Int) {H : Hp} {Q : VK} (h : H a = some (.dK kvs)) (e : kvs.map (·.1) = ks.map Sum.inl) (hl : ks.length < 64) (q : ∀ (ys : List Int) p H', ys.Perm ks → ys.Pairwise (· ≤ ·) → H p = none → Same H H' → H' p = some (.lst (ys.map V.int)) → Q (.ref p) H') : rSortedDI [.ref a] H Q :=
  ⟨a, kvs, ks, rfl, .inl h, e, hl, fun ys p h1 h2 h3 => q ys p _ h1 h2 h3 (Same.new h3) upd_same⟩
def rListDK : List V → Hp → VK → Prop := fun xs H Q => ∃ (a : Addr) (kvs : List (Key × V)), xs = [.ref a] ∧ Rd H a (.dK kvs) ∧ ∀ p, H p = none → Q (.ref p) (upd H p (.lst (kvs.map fun kv => kV kv.1)))
theorem cr_listDK {X : Cx} (hc : X.calm = true) : CallR X (.type "list") rListDK := call_listD hc
theorem w_listDK {a : Addr} {kvs : List (Key × V)} {H : Hp} {Q : VK} (h : H a = some (.dK kvs)) (q : ∀ p H', H p = none → Same H H' → H' p = some (.lst (kvs.map fun kv => kV kv.1)) → Q (.ref p) H') : rListDK [.ref a] H Q :=
  ⟨a, kvs, rfl, .inl h, fun p np => q p _ np (Same.new np) upd_same⟩
theorem w_kDPi {p : Addr} {kvs kvs' : List (Key × V)} {z : Int} {v : V} {D : Ends} {σ : L2.St} {H : Hp} (h : H p = some (.dK kvs)) (hl : kvs.length < 1000) (e : putK kvs (kI z) v = kvs') (q : ∀ H', H' p = some (.dK kvs') → But p H H' → D.nx σ H') : ∃ a H4, V.ref p = .ref a ∧ DPut H a (.int z) v H4 ∧ D.nx σ H4 :=
  ⟨p, _, rfl, DPut.k (k := kI z) h (Nat.lt_of_lt_of_le hl (by decide)), q _ (by rw [e]; exact upd_same) But.set⟩
theorem w_kDGi {p : Addr} {kvs : List (Key × V)} {z : Int} {v : V} {H : Hp} {Q : VK} (h : H p = some (.dK kvs)) (e : valV kvs (kI z) = some v) (q : Q v H) : ∃ a v, V.ref p = .ref a ∧ DGet H a (.int z) (some v) ∧ Q v H := ⟨p, v, rfl, by have := DGet.i (k := z) h; rw [e] at this; exact this, q⟩
/-! ### comprehensions over range with a step, over zip of two tuples -/
def kR3 (R : It → Hp → Prop) : List V → Hp → Prop := fun vs H1 => ∃ (i j c : Int) (n : Nat), vs = [.int i, .int j, .int c] ∧ RgC i j c n ∧ R (Itc i c n) H1
theorem w_rng3 {ta : TA} {σ : L2.St} {H : Hp} {R : It → Hp → Prop} (q : ta σ H (kR3 R)) : iRng3 ta σ H R := q
theorem rg4 (n : Nat) (hn : n < 1000000) : RgC 0 (4 * (n : Int)) 4 n := by
  have e : Builtin.Range.rangeSize 0 (4 * (n : Int)) 4 = n := by
    unfold Builtin.Range.rangeSize
    rw [if_pos (by decide)]
    split <;> omega
  have f : ∀ x : Int, -1000000000 ≤ x → x ≤ 1000000000 → Builtin.Range.rangeFitsLong x = true := fun x h1 h2 => by
    unfold Builtin.Range.rangeFitsLong
    rw [Bool.and_eq_true, decide_eq_true_iff, decide_eq_true_iff]
    exact ⟨by omega, by omega⟩
  refine ⟨by decide, by decide, ?_, e⟩
  unfold Builtin.Range.small
  rw [e]
  rw [f 0 (by decide) (by decide), f (4 * (n : Int)) (by omega) (by omega), f 4 (by decide) (by decide), f (n : Int) (by omega) (by omega), if_pos (by decide), f (4 * (n : Int) + (4 - 1)) (by omega) (by omega)]
  simp
theorem w_lcC {g : TG} {tt : TT} {te : TE} {vs : List Nat} {σ : L2.St} {H : Hp} {Q : VK} {i j c : Int} (n : Nat) (Pv : Addr → Nat → Hp → Prop) (hn : RgC i j c n) (h0 : ∀ D, H D = none → Pv D 0 (upd H D (.lst [])))
    (hs : ∀ D k H, k < n → Pv D k H → g (.int (i + (k : Nat) * c)) (wipe σ vs) H fun σ2 H2 => wipe σ2 vs = wipe σ vs ∧ tt σ2 H2 fun b H3 =>
      if b = true then te σ2 H3 fun y H4 => ∃ acc, H4 D = some (.lst acc) ∧ acc.length < sizeLine ∧ Pv D (k + 1) (upd H4 D (.lst (acc ++ [y]))) else Pv D (k + 1) H3) (hd : ∀ D H', H D = none → Pv D n H' → Q (.ref D) H') : kR3 (kLc g tt te vs σ Q) [.int i, .int j, .int c] H := by
  refine ⟨i, j, c, n, rfl, hn, fun D nD => ⟨fun k m H => m = n - k ∧ k ≤ n ∧ Pv D k H, ⟨n, rfl, Nat.zero_le _, h0 D nD⟩, ?_⟩⟩
  rintro k m H' ⟨rfl, hk, p⟩
  rcases Nat.lt_or_ge k n with lt | ge
  · refine .inr ⟨lt, Pv D (k + 1), fun H2 p2 => ⟨n - (k + 1), by omega, rfl, lt, p2⟩, fun v H2 y => ?_⟩
    obtain ⟨rfl, rfl⟩ := y
    exact hs D k _ lt p
  · obtain rfl : k = n := by omega
    exact .inl ⟨Nat.le_refl _, hd D H' nD p⟩
def kZA (K : PySem.W.Frag) (R : It → Hp → Prop) : List V → Hp → Prop := fun vs H1 => ∃ a b xs ys, vs = [.ref a, .ref b] ∧ ((SqL K H1 a xs ∧ SqL K H1 b ys ∧ R (Itz K a b) H1) ∨ (SqT K H1 a xs ∧ SqT K H1 b ys ∧ R (ItzT K a b) H1))
theorem w_zA {K : PySem.W.Frag} {ta : TA} {σ : L2.St} {H : Hp} {R : It → Hp → Prop} (q : ta σ H (kZA K R)) : iZipA K ta σ H R := q
theorem w_lcZT {K : PySem.W.Frag} {g : TG} {tt : TT} {te : TE} {vs : List Nat} {σ : L2.St} {H : Hp} {Q : VK} {a b : Addr} (xs ys : List V) (Pv : Addr → Nat → Hp → Prop) (hx : SqT K H a xs) (hy : SqT K H b ys) (hl : xs.length = ys.length) (h0 : ∀ D, H D = none → Pv D 0 (upd H D (.lst []))) (hq : ∀ D i H, Pv D i H → SqT K H a xs ∧ SqT K H b ys)
    (hs : ∀ D i x y T H H', xs[i]? = some x → ys[i]? = some y → Pv D i H → H T = none → Same H H' → H' T = some (.tup [x, y]) → g (.ref T) (wipe σ vs) H' fun σ2 H2 => wipe σ2 vs = wipe σ vs ∧ tt σ2 H2 fun b H3 =>
      if b = true then te σ2 H3 fun y H4 => ∃ acc, H4 D = some (.lst acc) ∧ acc.length < sizeLine ∧ Pv D (i + 1) (upd H4 D (.lst (acc ++ [y]))) else Pv D (i + 1) H3) (hd : ∀ D H', H D = none → Pv D xs.length H' → Q (.ref D) H') : kZA K (kLc g tt te vs σ Q) [.ref a, .ref b] H := by
  refine ⟨a, b, xs, ys, rfl, .inr ⟨hx, hy, fun D nD => ⟨fun i m H => m = xs.length - i ∧ i ≤ xs.length ∧ Pv D i H, ⟨xs.length, rfl, Nat.zero_le _, h0 D nD⟩, ?_⟩⟩⟩
  rintro i m H' ⟨rfl, hi, p⟩
  obtain ⟨qx, qy⟩ := hq D i H' p
  rcases Nat.lt_or_ge i xs.length with lt | ge
  · have e1 : xs[i]? = some xs[i] := List.getElem?_eq_getElem lt
    have lt2 : i < ys.length := by omega
    have e2 : ys[i]? = some ys[i] := List.getElem?_eq_getElem lt2
    refine .inr ⟨⟨xs, ys, _, _, qx, qy, e1, e2⟩, Pv D (i + 1), fun H2 p2 => ⟨xs.length - (i + 1), by omega, rfl, lt, p2⟩, fun v H2 y => ?_⟩
    obtain ⟨T, x', y', rfl, nT, rfl, f1, f2⟩ := y
    exact hs D i x' y' T H' _ (f1 xs qx) (f2 ys qy) p nT (Same.new nT) upd_same
  · obtain rfl : i = xs.length := by omega
    exact .inl ⟨⟨xs, ys, qx, qy, .inl (Nat.le_refl _)⟩, hd D H' nD p⟩
end Co
namespace Co
open PySem PySem.Spec PyProof.Rows L2 RZ
/-- text in d, of a dict of the module -/
def rInKG (K : PySem.W.Frag) (w : World) : R2 := fun x y H Q => ∃ z o d, x = .str z ∧ y = .ref d ∧ KGet K w d z o ∧ Q (.bl o.isSome) H
theorem op_inKG {X : Cx} : OpR X (compareOp .In) (rInKG X.K X.w) := by
  intro pins s σ H x y v u Q I rx ry h
  obtain ⟨z, o, d, rfl, rfl, ⟨es, n, hl, hk, hm, hv⟩, q⟩ := h
  rcases hv with ⟨rfl, e⟩ | ⟨v', u', rfl, e, _⟩
  · exact op_in_kd ⟨hl, hk, hm⟩ pins s σ H _ _ v u Q I rx ry ⟨z, none, rfl, rfl, e, q⟩
  · exact op_in_kd ⟨hl, hk, hm⟩ pins s σ H _ _ v u Q I rx ry ⟨z, some u', rfl, rfl, e, q⟩
theorem w_inKG {K : PySem.W.Frag} {w : World} {z : Str} {o : Option V} {d : Addr} {H : Hp} {Q : VK} (g : KGet K w d z o) (q : Q (.bl o.isSome) H) : rInKG K w (.str z) (.ref d) H Q := ⟨z, o, d, rfl, rfl, g, q⟩
end Co
namespace Co
open PySem PySem.Spec PyProof.Rows L2 RZ
theorem w_dnewK {σ : L2.St} {H : Hp} {Q : VK} (q : ∀ p H', H p = none → Same H H' → H' p = some (.dK []) → Q (.ref p) H') : tDNewK σ H Q := fun p np => q p _ np (Same.new np) upd_same
end Co

set_option Elab.async false
set_option linter.all false
set_option maxRecDepth 100000
set_option maxHeartbeats 4000000
open PySem PySem.Spec PyProof.Rows L2 Co
namespace Co
open He
/-- what is named, by levels -/
def lvl (g : Addr → Option Obj) : Nat → List Addr → List Addr
  | 0, as => as
  | n + 1, as => as ++ lvl g n (as.flatMap fun a => match g a with
    | some o => refsD o
    | none => [])
def frN (g : Addr → Option Obj) (n : Nat) : PySem.W.Frag := frG g (lvl g n [mainGlobals])
/-- a def: where it stands, its names, its statement -/
structure Fx where
  at_ : PySem.W.Frag → Addr
  name : Str
  qual : Str
  st : Stmt
def fxObs (K : PySem.W.Frag) (d : Fx) : FnV := match K.lookup (d.at_ K) with
  | some ⟨_, _, .func fd, _⟩ => some (fd.name, fd.qualname, fd.params, fd.body, fd.scope, fd.globals, fd.closure, fd.defaults, fd.builtins)
  | _ => none
def Fx.val (d : Fx) : FnV := some (d.name, d.qual, defArgs d.st, .stmts (defBody d.st), defScope d.st, mainGlobals, [], .none, builtinsNs)
def Fx.ok (K : PySem.W.Frag) (d : Fx) : Bool := PySem.W.keepIn K (.ref (d.at_ K)) && (match K.lookup (d.at_ K) with
  | some ⟨_, _, .func fd, _⟩ => PySem.W.codeIn K fd.code d.qual
  | _ => false)
theorem fx_ok {K : PySem.W.Frag} {d : Fx} (e : fxObs K d = d.val) (c : d.ok K = true) : ∃ fd, Fun K d.name d.qual d.st (d.at_ K) fd := by
  obtain ⟨kp, c2⟩ := ba c
  unfold fxObs at e
  cases q : K.lookup (d.at_ K) with
  | none =>
    rw [q] at c2
    cases c2
  | some o =>
    obtain ⟨oc, od, dt, osl⟩ := o
    rw [q] at c2 e
    cases dt with
    | func fd =>
      obtain ⟨n1, n2, n3, n4, n5, n6, n7, n8, n9, n10, n11, n12, n13, n14, n15⟩ := fd
      have e2 : (some (n1, n2, n3, n4, n5, n6, n7, n8, n15) : FnV) = some (d.name, d.qual, defArgs d.st, .stmts (defBody d.st), defScope d.st, mainGlobals, [], .none, builtinsNs) := e
      simp only [Option.some.injEq, Prod.mk.injEq] at e2
      obtain ⟨h1, h2, h3, h4, h5, h6, h7, h8, h9⟩ := e2
      subst h1 h2 h3 h4 h5 h6 h7 h8 h9
      exact ⟨_, fun_mk (st := d.st) q c2 kp⟩
    | _ => cases c2
/-! ### the Hook -/
abbrev AlZ : Type := Bool × List FnV × List (Option (List (Option (Str × Int))))
def obsZ (cks : List (PySem.W.Frag → Bool)) (fn : List Fx) (ts : List Tab) (K : PySem.W.Frag) : AlZ := ((cks.all fun f => f K) && fn.all fun d => d.ok K, fn.map (fxObs K), ts.map fun t => dicW K (t.1 K))
def valZ (fn : List Fx) (ts : List Tab) (w : World) : AlZ := (true, fn.map Fx.val, ts.map fun t => some (keysIn w.params t.2))
def SaysZ (cks : List (PySem.W.Frag → Bool)) (fn : List Fx) (ts : List Tab) (w : World) (K : PySem.W.Frag) : Prop := obsZ cks fn ts K = valZ fn ts w
def obsZG (n : Nat) (cks : List (PySem.W.Frag → Bool)) (fn : List Fx) (ts : List Tab) (g : Addr → Option Obj) : AlZ := obsZ cks fn ts (frN g n)
def hookZ (n : Nat) (cks : List (PySem.W.Frag → Bool)) (fn : List Fx) (ts : List Tab) : PySem.W.Hook where
  α := AlZ
  obs := fun s => obsZG n cks fn ts s.heap.get?
  val := fun w => valZ fn ts w
  says := fun w h => ∃ K : PySem.W.Frag, K.In h ∧ SaysZ cks fn ts w K
  of := fun _ _ e => ⟨_, frG_in, e⟩
  keeps := fun _ _ _ ⟨K, hK, c⟩ k => ⟨K, PySem.W.Frag.In.keeps hK k, c⟩
theorem obsZG_eq {n : Nat} {cks : List (PySem.W.Frag → Bool)} {fn : List Fx} {ts : List Tab} {g : Addr → Option Obj} {s : Shared} (h : ∀ a, g a = s.heap.get? a) : obsZG n cks fn ts g = (hookZ n cks fn ts).obs s := by
  have e : g = s.heap.get? := funext h
  rw [e] <;> rfl
section
variable {cks : List (PySem.W.Frag → Bool)} {fn : List Fx} {ts : List Tab} {w : World} {K : PySem.W.Frag}
theorem SaysZ.q (c : SaysZ cks fn ts w K) (i : Nat) {f : PySem.W.Frag → Bool} (h : cks[i]? = some f := by rfl) : f K = true := by
  have c1 := (ba (show ((cks.all fun f => f K) && fn.all fun d => d.ok K) = true from congrArg (fun z : AlZ => z.1) c)).1
  exact List.all_eq_true.mp c1 f (List.mem_of_getElem? h)
theorem SaysZ.f (c : SaysZ cks fn ts w K) (i : Nat) {a : PySem.W.Frag → Addr} {n q : Str} {st : Stmt} (h : fn[i]? = some ⟨a, n, q, st⟩ := by rfl) : ∃ fd, Fun K n q st (a K) fd := by
  have c2 := (ba (show ((cks.all fun f => f K) && fn.all fun d => d.ok K) = true from congrArg (fun z : AlZ => z.1) c)).2
  have e : fn.map (fxObs K) = fn.map Fx.val := congrArg (fun z : AlZ => z.2.1) c
  have e2 : (fn.map (fxObs K))[i]? = (fn.map Fx.val)[i]? := by rw [e]
  rw [List.getElem?_map, List.getElem?_map, h] at e2
  exact fx_ok (d := ⟨a, n, q, st⟩) (Option.some.inj e2) (List.all_eq_true.mp c2 _ (List.mem_of_getElem? h))
theorem SaysZ.t (c : SaysZ cks fn ts w K) (i : Nat) {a : PySem.W.Frag → Addr} {ks : List Str} (h : ts[i]? = some (a, ks) := by rfl) : ∃ es n, K.lookup (a K) = some ⟨.type "dict", none, .dict es n, #[]⟩ ∧ PySem.W.KeysLit w.params es.toList ∧ (a K == sysModules) = false := by
  have e : ts.map (fun t => dicW K (t.1 K)) = ts.map fun t => some (keysIn w.params t.2) := congrArg (fun z : AlZ => z.2.2) c
  have e2 : (ts.map fun t => dicW K (t.1 K))[i]? = (ts.map fun t => some (keysIn w.params t.2))[i]? := by rw [e]
  rw [List.getElem?_map, List.getElem?_map, h] at e2
  obtain ⟨es, n, h1, h2, h3⟩ := dicW_ok (Option.some.inj e2)
  exact ⟨es, n, h1, h2, h3⟩
end
/-! ### facts -/
section
variable {K : PySem.W.Frag} {h : Heap} {mg : Str → Option Value}
def nsZ (K : PySem.W.Frag) (a : Addr) (x : Str) (v : Option Value) : Bool := eqO (PySem.W.nsIn K a x) (some v)
theorem zNs {a : Addr} {x : Str} {v : Option Value} (c : nsZ K a x v = true) : PySem.W.nsIn K a x = some v := eqO_ok c
def gloZ (x : Str) (K : PySem.W.Frag) : Bool := (Fa.glo x).ok K
theorem zGlo {x : Str} (c : gloZ x K = true) : PySem.W.nsIn K mainGlobals x = some (some (.ref (ga K x))) := eqO_ok c
theorem zInt (X : K.In h) (G : h.Ns mainGlobals mg) {x : Str} {i : Int} (c : (Fa.int x i).ok K = true) : GV mg x (.int i) := by
  obtain ⟨t, e⟩ := int_ok X G c
  exact ⟨_, e, ⟨_, rfl⟩⟩
theorem zStrG (X : K.In h) (G : h.Ns mainGlobals mg) {x z : Str} (c : (Fa.str x z).ok K = true) : GV mg x (.str z) := by
  obtain ⟨t, e⟩ := str_ok X G c
  exact ⟨_, e, ⟨_, rfl⟩⟩
theorem zFree (X : K.In h) (G : h.Ns mainGlobals mg) {x : Str} (c : (Fa.free x).ok K = true) : mg x = none := free_ok X G c
def strZ (K : PySem.W.Frag) (a : Addr) (k z : Str) : Bool := match PySem.W.nsIn K a k with
  | some (some (.str y _)) => decide (y = z)
  | _ => false
theorem zStr {a : Addr} {k z : Str} (c : strZ K a k z = true) : ∃ t, PySem.W.nsIn K a k = some (some (.str z t)) := by
  unfold strZ at c
  cases e : PySem.W.nsIn K a k with
  | none =>
    rw [e] at c
    cases c
  | some o =>
    rw [e] at c
    cases o with
    | none => cases c
    | some v =>
      cases v with
      | str y t =>
        have ej : y = z := of_decide_eq_true c
        subst ej
        exact ⟨t, rfl⟩
      | _ => cases c
def tupZ (K : PySem.W.Frag) (a : Addr) (vs : List V) : Bool := match K.lookup a with
  | some ⟨.type c, none, .seq its _, _⟩ => decide (c = "tuple") && (decide (its.size ≤ sizeLine) && relAll vs its.toList)
  | _ => false
theorem zTup {a : Addr} {vs : List V} (c : tupZ K a vs = true) : ∃ it n sl, K.lookup a = some ⟨.type "tuple", none, .seq it n, sl⟩ ∧ it.size ≤ sizeLine ∧ Vals vs it.toList := by
  unfold tupZ at c
  cases q : K.lookup a with
  | none =>
    rw [q] at c
    cases c
  | some o =>
    obtain ⟨oc, od, dt, osl⟩ := o
    rw [q] at c
    cases oc with
    | type c' =>
      cases od with
      | none =>
        cases dt with
        | seq its n =>
          obtain ⟨h1, h2⟩ := ba (show (decide (c' = "tuple") && (decide (its.size ≤ sizeLine) && relAll vs its.toList)) = true from c)
          obtain ⟨h3, h4⟩ := ba h2
          have e1 : c' = "tuple" := of_decide_eq_true h1
          subst e1
          exact ⟨its, n, osl, rfl, of_decide_eq_true h3, relAll_ok h4⟩
        | _ => cases c
      | some d => cases dt <;> cases c
    | _ => cases od <;> cases dt <;> cases c
/-- a tuple's item, an object -/
def itA (K : PySem.W.Frag) (a : Addr) (i : Nat) : Addr := match K.lookup a with
  | some ⟨_, _, .seq its _, _⟩ => (match its.toList[i]? with
    | some (.ref b) => b
    | _ => 0)
  | _ => 0
theorem meth1 {C : Addr} {m : Str} {f : Addr} (M : Meth K C m f) : PySem.W.findIn K (.ref C) m = some (some (.ref f)) := M.at_
theorem meth2 {C : Addr} {m : Str} {f : Addr} (M : Meth K C m f) : PySem.W.isFn K (.ref f) = true := M.fn
/-! ### defs -/
section
variable {x q : Str} {st : Stmt} {ps : List Str} {f : Addr}
theorem zS1 (X : K.In h) (G : h.Ns mainGlobals mg) (a : PySem.W.nsIn K mainGlobals x = some (some (.ref f))) (F : ∃ fd, Fun K x x st f fd)
    (hb : ∀ (kV doc pm : Value) (an : Option Addr) (cdv ct : Value) (us : List Value), us.length = ps.length → bindArgs (PySem.W.fnOf x x (defArgs st) (defBody st) (defScope st) .none kV doc pm an cdv ct) ⟨us, []⟩ = pure (ps.zip us)) : St1 K mg x st ps := by
  obtain ⟨fd, F⟩ := F
  exact ⟨f, fd, F, F.binds hb, PySem.W.mg_of X G a⟩
theorem zSF (F : ∃ fd, Fun K q q st f fd)
    (hb : ∀ (kV doc pm : Value) (an : Option Addr) (cdv ct : Value) (us : List Value), us.length = ps.length → bindArgs (PySem.W.fnOf q q (defArgs st) (defBody st) (defScope st) .none kV doc pm an cdv ct) ⟨us, []⟩ = pure (ps.zip us)) : StF K q st ps f := by
  obtain ⟨fd, F⟩ := F
  exact ⟨fd, F, F.binds hb⟩
theorem zSA (X : K.In h) (G : h.Ns mainGlobals mg) (a : PySem.W.nsIn K mainGlobals x = some (some (.ref f))) (F : ∃ fd, Fun K q q st f fd)
    (hb : ∀ (kV doc pm : Value) (an : Option Addr) (cdv ct : Value) (us : List Value), us.length = ps.length → bindArgs (PySem.W.fnOf q q (defArgs st) (defBody st) (defScope st) .none kV doc pm an cdv ct) ⟨us, []⟩ = pure (ps.zip us)) : StA K mg x q st ps := by
  obtain ⟨fd, F⟩ := F
  exact ⟨f, fd, F, F.binds hb, PySem.W.mg_of X G a⟩
theorem zSK {ks : List Str} {n : Nat} (X : K.In h) (G : h.Ns mainGlobals mg) (a : PySem.W.nsIn K mainGlobals x = some (some (.ref f))) (F : ∃ fd, Fun K x x st f fd)
    (hb : ∀ (kV doc pm : Value) (an : Option Addr) (cdv ct : Value) (us ws : List Value), us.length = n → ws.length = ks.length → bindArgs (PySem.W.fnOf x x (defArgs st) (defBody st) (defScope st) .none kV doc pm an cdv ct) ⟨us, ks.zip ws⟩ = pure (ps.zip (us ++ ws))) : StK K mg x st ps n ks := by
  obtain ⟨fd, F⟩ := F
  have F' := F
  obtain ⟨oc, od, kV, doc, pm, an, cdv, ct, osl, rfl, lk, hcd⟩ := F.ex
  exact ⟨f, _, F', ⟨fun s us ws _ h1 h2 => .of_eq (hb kV doc pm an cdv ct us ws h1 h2), fun r rz => r.append rz⟩, PySem.W.mg_of X G a⟩
theorem zSM {C : Addr} {m : Str} (a : PySem.W.findIn K (.ref C) m = some (some (.ref f))) (i : PySem.W.isFn K (.ref f) = true) (F : ∃ fd, Fun K m q st f fd)
    (hb : ∀ (kV doc pm : Value) (an : Option Addr) (cdv ct : Value) (us : List Value), us.length = ps.length → bindArgs (PySem.W.fnOf m q (defArgs st) (defBody st) (defScope st) .none kV doc pm an cdv ct) ⟨us, []⟩ = pure (ps.zip us)) : StM K C m q st ps := by
  obtain ⟨fd, F⟩ := F
  exact ⟨f, fd, F, F.binds hb, a, i, F.kp⟩
theorem zSI {C : Addr} (mx : mg x = some (.ref C)) (M : Mk K C f) (F : ∃ fd, Fun K "__init__" q st f fd)
    (hb : ∀ (kV doc pm : Value) (an : Option Addr) (cdv ct : Value) (us : List Value), us.length = ps.length → bindArgs (PySem.W.fnOf "__init__" q (defArgs st) (defBody st) (defScope st) .none kV doc pm an cdv ct) ⟨us, []⟩ = pure (ps.zip us)) : StI K mg x C q st ps := by
  obtain ⟨fd, F⟩ := F
  exact ⟨f, fd, F, F.binds hb, M, mx⟩
end
end
end Co
namespace Co
open PySem PySem.Spec PyProof.Rows L2
/-- walk_ofG, K given by the head -/
theorem walk_ofZ {l : PySem.W.OpenLaw} {n : Nat} {q : Program} {loose : List Str} {XP : (Str → Option Value) → Heap → Prop} {YP : World → Heap → Prop} {d : DefRec} {x : Str}
    (hn : l.most = some n) (hn2 : n ≤ sizeLine) (hdf : d.params.defaults = [])
    (F : ∀ (w : World) (mg : Str → Option Value) (fa : Addr) (h : Heap), YP w h → h.Ns mainGlobals mg → mg d.name = some (.ref fa) →
      ∃ (K : PySem.W.Frag) (fd : FuncData) (sp : Sp), K.In h ∧ (∀ (s : Shared) (u : Value), BindsTo s fd ⟨[u], []⟩ [(x, u)]) ∧
        (∀ (H : Hp) (a : Addr) (ns : List Int), ns.length ≤ n → Only H → SqL K H a (ns.map V.int) → sp [.ref a] H (fun v _ => v = .bl true) E0) ∧
        ∀ base : Heap, K.In base → base.Ns mainGlobals mg → RunG l.prog w K mg base fa fd x sp) :
    PySem.W.WalkO q loose XP YP l.row.toRowW d [] (fun f vs => PySem.call f vs) := by
  refine Att.attach_call hn hdf fun w _ s1 mg mb fa o pm cd doc a vs ns G Y _ _ _ hmg hobj hints hlen hg => ?_
  obtain ⟨K, fd, sp, KX, hb, hsp, hF⟩ := F w mg fa _ Y G.T.g hmg
  exact law_callG KX G.T.g G.T.b G.T.builtins G.T.nolimit hg hobj hints (Nat.le_trans hlen hn2) hF hb fun H hO hS => hsp H a ns hlen hO hS
end Co
namespace Co
open He HandSHeadRun PySem.W PySem.Calls
section
variable {p q : Program} {cks : List (PySem.W.Frag → Bool)} {fn : List Fx} {ts : List Tab} {n M : Nat} {loose : List PySem.Str} {r : PySem.W.OpenRow} {w : World}
noncomputable def KT (n : Nat) (s : PySem.W.SharedT) : PySem.W.Frag := frN (getT s) n
/-- what holds behind the top -/
noncomputable abbrev lookZ (r : PySem.W.OpenRow) (w : World) (s : PySem.W.SharedT) : Bool := looksF r.prog (boot_heap w.params) s.abs
/-- the run's state, looked at -/
noncomputable def lookEnd {α : Type} (r : PySem.W.OpenRow) (M : Nat) (w : World) (os : OsState) (f : PySem.W.SharedT → α) (v : α) : Prop := (endF (stepQ (denQ tabQ) r.prog w) M r.prog w os).map f = some v
theorem runZ
    (e1 : ∀ os, lookEnd r M w os (fun s => (lookZ r w s, seenQ q loose (PySem.importedModules r.prog.main.body) (fun s => PySem.W.xlAt q [] s && PySem.W.recOk r.toRowW.records s) s.abs)) (true, PySem.W.openGood q loose))
    (e2 : ∀ os, lookEnd r M w os (fun s => cks.all fun f => f (KT n s)) true)
    (e3 : ∀ os, lookEnd r M w os (fun s => (fn.all (fun d => d.ok (KT n s)), fn.map (fxObs (KT n s)), ts.map fun t => dicW (KT n s) (t.1 (KT n s)))) (true, fn.map Fx.val, ts.map fun t => some (keysIn w.params t.2))) :
    RunEq r q (hookZ n cks fn ts) (fun s => obsZG n cks fn ts (getT s)) M loose w := by
  intro os
  have h1 := e1 os
  have h2 := e2 os
  have h3 := e3 os
  unfold lookEnd at h1 h2 h3
  cases q : endF (stepQ (denQ tabQ) r.prog w) M r.prog w os with
  | none =>
    rw [q] at h1
    cases h1
  | some s =>
    rw [q] at h1 h2 h3
    obtain ⟨h11, h12⟩ := Prod.mk.inj (Option.some.inj h1)
    have h2' := Option.some.inj h2
    obtain ⟨h31, h3'⟩ := Prod.mk.inj (Option.some.inj h3)
    obtain ⟨h32, h33⟩ := Prod.mk.inj h3'
    show some (_, _, _) = some (_, _, _)
    refine congrArg some (Prod.ext h11 (Prod.ext h12 (Prod.ext ?_ (Prod.ext h32 h33))))
    show ((cks.all fun f => f (KT n s)) && fn.all fun d => d.ok (KT n s)) = true
    have h2'' : (cks.all fun f => f (KT n s)) = true := h2'
    have h31' : (fn.all fun d => d.ok (KT n s)) = true := h31
    rw [h2'', h31']
    rfl
end
end Co

set_option Elab.async false
set_option linter.all false
set_option maxRecDepth 100000
set_option maxHeartbeats 4000000
/-! an own error: its `__init__` says super().__init__(f"..") and keeps one field, a whole number -/
namespace PySem
namespace OwnE
open PySem.W PySem.Calls PyProof.Rows PySem.HandSPX
/-- the params and the body of `def __init__(self, FLD): super().__init__(f"A{FLD}B"); self.FLD = FLD` -/
structure Ps where
  a1 : Pos
  a2 : Pos
  s1 : Pos
  s2 : Pos
  s3 : Pos
  s4 : Pos
  s5 : Pos
  j0 : Pos
  j1 : Pos
  j2 : Pos
  j3 : Pos
  j4 : Pos
  f1 : Pos
  f2 : Pos
  f3 : Pos
  f4 : Pos
def pk : Ps := ⟨⟨43, 17, 43, 21⟩, ⟨43, 23, 43, 27⟩, ⟨44, 8, 44, 13⟩, ⟨44, 8, 44, 15⟩, ⟨44, 8, 44, 24⟩, ⟨44, 8, 44, 60⟩, ⟨44, 8, 44, 60⟩, ⟨44, 25, 44, 59⟩, ⟨44, 27, 44, 32⟩, ⟨44, 33, 44, 37⟩, ⟨44, 32, 44, 38⟩, ⟨44, 38, 44, 58⟩, ⟨45, 8, 45, 12⟩, ⟨45, 8, 45, 17⟩, ⟨45, 20, 45, 24⟩, ⟨45, 8, 45, 24⟩⟩
def iA (p : Ps) : Arguments := { posonlyargs := [], args := [{ arg := "self", annotation := none, pos := p.a1 }, { arg := "line", annotation := none, pos := p.a2 }], vararg := none, kwonlyargs := [], kw_defaults := [], kwarg := none, defaults := [] }
def iJ (p : Ps) : Expr := .JoinedStr [.Constant (.str "line ") 0 p.j1, .FormattedValue (.Name "line" p.j2) (-1) none p.j3, .Constant (.str " cannot be assembled") 0 p.j4] p.j0
def iB (p : Ps) : List Stmt :=
  [.Expr (.Call (.Attribute (.Call (.Name "super" p.s1) [] [] p.s2) "__init__" p.s3) [iJ p] [] p.s4) p.s5, .Assign [.Attribute (.Name "self" p.f1) "line" p.f2] (.Name "line" p.f3) p.f4]
def iS : Scope := { kind := .function, names := [(PySem.Str.ofString "self", .local), (PySem.Str.ofString "line", .local), (PySem.Str.ofString "__class__", .free), (PySem.Str.ofString "super", .globalImplicit)], isGenerator := false, isCoroutine := false, more := [] }
/-- what the top has written of the class at C and of its `__init__` at fI -/
structure Txt (prog : Program) (K : Frag) (mg : Str → Option Value) (C fI : Addr) : Prop where
  gC : mg "AssemblyError" = some (.ref C)
  cls : ∃ nm q N bs bm sn sub ab col dd k0 k1 k2 k3 k5, K.lookup C = some (excClassObj nm q C N bs bm true sn sub ab col dd k0 k1 k2 k3 k5 "ValueError.__new__") ∧ refsVE bm = true
  sa : findIn K (.ref C) "__setattr__" = some (some (.builtin "object.__setattr__"))
  ga : findIn K (.ref C) "__getattribute__" = some (some (.builtin "BaseException.__getattribute__"))
  gg : findIn K (.ref C) "__getattr__" = some none
  noN : findIn K (.ref C) "line" = some none
  iC : findIn K (.ref C) "__init__" = some (some (.ref fI))
  tC : typeIn K (.ref fI) = some (.type "function")
  kC : keepIn K (.ref C) = true
  exC : subIn K (.ref C) (.type "BaseException") = some true
  exV : subIn K (.ref C) (.type "ValueError") = some true
  tyC : typeIn K (.ref C) = some (.type "type")
  hdC : hasDictIn K C = true
  te : exmOne K (.ref C) (.ref C) = some true
  init : excInitIn K C [.type "ValueError", .type "Exception", .type "BaseException", .type "object"] "ValueError.__new__" = true
  sup : ks_superIn K C C "__init__" = some (some (.builtin "ValueError.__init__"))
  self : mroIn K C (.ref C) = some true
  third : nsIn K cStatics "thirdparty.any" = some none
  noS : mg "super" = none
  top : (prog.main.scope.names.lookup ("super" : Str)).isSome = false
  fn : ∃ (q : Str) (oc : Value) (od : Option Addr) (doc pm : Value) (an : Option Addr) (cda cc : Addr) (ct : Value) (osl : Array (Option Value)) (ccl cl : Value) (cdd cld : Option Addr) (vs : Array Value) (ccs csl : Array (Option Value)) (file : Str) (tf : Tok),
    K.lookup fI = some ⟨oc, od, .func (ksFn "__init__" q (iA pk) (iB pk) iS .none .none doc pm an (.ref cda) ct cc), osl⟩ ∧ codeIn K (.ref cda) q = true ∧
    K.lookup cda = some ⟨ccl, cdd, .fields vs, ccs⟩ ∧ vs[2]? = some (.str file tf) ∧ ((prog.main.file : Str) == file) = true ∧
    K.lookup cc = some ⟨cl, cld, .cell (some (.ref C)), csl⟩
/-- a made error -/
structure Made (h h' : Heap) (e C d : Addr) (v : Value) : Prop where
  keep : ∀ b o, h.get? b = some o → h'.get? b = some o
  new : h.objs.size ≤ e
  obj : ∃ oe vs, h'.get? e = some oe ∧ oe.cls = .ref C ∧ oe.dict = some d ∧ oe.data = .fields vs ∧ vs[1]? = some .none
  dbig : h.objs.size ≤ d
  dne : d ≠ e
  ns : h'.Ns1 d (fun y => if y = "line" then some v else none)
section
variable {prog : Program} {w : World} {A : Around} {R : Result → Shared → Prop} {s : Shared} {K : Frag} {mg : Str → Option Value} {C fI : Addr}
theorem ld_local {M : Model} {env : Env} {x : Str} {pos : Pos} {v : Value} {m : Str → Option Value} {E : Value → Shared → Prop} {s : Shared} {Q : Value → Shared → Prop} (hk : env.scope.kind = .function) (hl : env.kindOf x = some .local) (hn : s.heap.Ns env.locals m) (hv : m x = some v) (hd : (x == ("__debug__" : Str)) = false) (h : Q v s) :
    wpAny M A (eval (.Name x pos) env) Q E s := wpAny_Name (wpAny_loadName_local hk hl hn hv h) hd
/-- the text of the error -/
theorem eval_J {env : Env} {n : Int} {tn : Tok} {m : Str → Option Value} {E : Value → Shared → Prop} {s : Shared} {Q : Value → Shared → Prop} (hk : env.scope.kind = .function) (hl : env.kindOf "line" = some .local) (hn : s.heap.Ns env.locals m) (hv : m "line" = some (.int n tn)) (hd : n.natAbs < 4294967296)
    (q : ∀ y t k, Q (.str y t) { s with toks := k }) : wpAny (model prog w) A (eval (iJ pk) env) Q E s := by
  have z : (Co.dcT n).length ≤ 11 := Co.dcT_len hd
  have e1 : (("line " : Str)).length = 5 := by decide +kernel
  have e2 : ((" cannot be assembled" : Str)).length = 20 := by decide +kernel
  have e0 : Str.empty.length = 0 := rfl
  have sz : sizeLine = 16777216 := sizeLine_eq
  refine wpAny_JoinedStr (wpAny_Constant_str ⟨_, _, rfl, by rw [Co.cat_len, e0, e1, sz]; decide, ?_⟩)
  refine wpAny_FormattedValue_plain (ld_local hk hl hn hv (by decide) (wpAny_formatField_int (Co.log_small hd) ⟨_, _, rfl, ?_, ?_⟩))
  · rw [Co.cat_len, Co.cat_len, e0, e1, sz]
    exact Nat.le_trans (Nat.add_le_add_left z _) (by decide)
  refine wpAny_Constant_str ⟨_, _, rfl, ?_, ?_, q _ _ _⟩
  · rw [Co.cat_len, Co.cat_len, Co.cat_len, e0, e1, e2, sz]
    exact Nat.le_trans (Nat.add_le_add_right (Nat.add_le_add_left z _) _) (by decide)
  · rw [Co.cat_len, Co.cat_len, Co.cat_len, e0, e1, e2, sz]
    exact Nat.le_trans (Nat.add_le_add_right (Nat.add_le_add_left z _) _) (by decide)
/-- what `__init__` leaves of a fresh error at e -/
theorem init_run (T : Txt prog K mg C fI) {base h₀ : Heap} {e t0 : Addr} {n : Int} {tn : Tok} (md : L2.Mod K mg base) (kb : ∀ b o, base.get? b = some o → h₀.get? b = some o) (hroom : A.depth < recursionLimit) (hlim : s.heap.NoLimit)
    (k0 : ∀ b o, h₀.get? b = some o → s.heap.get? b = some o) (hsz : h₀.objs.size ≤ s.heap.objs.size) (he : s.heap.get? e = some (excO C t0)) (hne : h₀.get? e = none) (hd : n.natAbs < 4294967296)
    (hq : ∀ h' tk dx t1, (∀ b o, h₀.get? b = some o → h'.get? b = some o) → h'.get? e = some { cls := .ref C, dict := some dx, data := .fields #[.ref t1, .none, .none, .none, .bool false, .none] } → h₀.objs.size ≤ dx → dx ≠ e →
      h'.Ns1 dx (fun y => if y = "line" then some (.int n tn) else none) → R (.ok (.ret .none)) { s with heap := h', toks := tk }) :
    codeAny (model prog w) A (.call (.ref fI) ⟨[.ref e, .int n tn], []⟩) R s := by
  obtain ⟨q, oc, od, doc, pm, an, cda, cc, ct, osl, ccl, cl, cdd, cld, vs, ccs, csl, file, tf, ho, hcd, hco, hvs, hfile, hcell⟩ := T.fn
  obtain ⟨nm, qn, N, bs, bm, sn, sub, ab, col, dd, k0', k1', k2', k3', k5', hC, hbm⟩ := T.cls
  have hcl : clsIn K C = some { name := nm, bases := bs, mro := .ref C :: bm, ns := N, qualname := qn, hasDict := true, slotNames := sn, subclasses := sub, abstract := ab, collection := col, hasDel := false } := by unfold clsIn; rw [hC] <;> rfl
  have X₀ : K.In h₀ := md.kin.keeps kb
  have X : K.In s.heap := X₀.keeps k0
  refine ks_codeAny_call_defAt (binds := [("self", .ref e), ("line", .int n tn)]) hroom (X _ _ ho) rfl hlim (codeRec_of X hcd) rfl (BindsTo.of_eq (by first | rfl | with_unfolding_all rfl)) (show ∀ x ∈ iS.names, x.2 ≠ NameKind.cell by decide) (by first | decide | (intro x hx; simp only [List.mem_cons, List.not_mem_nil, or_false] at hx; rcases hx with rfl | rfl <;> first | rfl | decide)) (fun h1 hns k1 => ?_)
  have F : Fr h₀ s.heap.objs.size h1 (fun x => List.lookup x [("line", .int n tn), ("self", .ref e)]) := ⟨hns, fun b o z => k1 b o (k0 b o z), hsz⟩
  have elt : e < s.heap.objs.size := Heap.lt_size he
  have N1 : News h₀ s.heap.objs.size h1 [(e, excObj C t0 none .none)] := by
    intro y hy
    obtain rfl := List.mem_singleton.mp hy
    exact ⟨k1 _ _ he, Nat.ne_of_lt elt, hne⟩
  show wpAt _ _ _ (execs (iB pk) (ksEnv q iS s.heap.objs.size fI (.ref cda) cc)) _ _ _
  refine ks_wpAt_execs_cons (ks_wpAt_Expr_any (ks_wpAt_MethodCall ?_))
  obtain ⟨hp, g, d, tk, os⟩ := s
  obtain ⟨mb, hb1, hb2⟩ := md.blt
  have kb1 : ∀ b o, base.get? b = some o → h1.get? b = some o := fun b o z => F.keep b o (kb b o z)
  have X1 : K.In h1 := X₀.keeps F.keep
  have I1 : InstAt h1 e (excO C t0) C none := ⟨k1 _ _ he, rfl, rfl, trivial⟩
  obtain ⟨oC, hC1⟩ : ∃ oC, K.lookup C = some oC ∧ oC.data = .cls { name := nm, bases := bs, mro := .ref C :: bm, ns := N, qualname := qn, hasDict := true, slotNames := sn, subclasses := sub, abstract := ab, collection := col, hasDel := false } := ⟨_, hC, rfl⟩
  refine ks_wpAt_super_base (env := ksEnv q iS hp.objs.size fI (.ref cda) cc) rfl rfl rfl rfl (X1 _ _ ho) rfl (ar := { arg := "self", annotation := none, pos := pk.a1 }) rfl rfl (X1 _ _ hco) rfl hvs hfile T.top ?_
  refine ks_loadName_global rfl rfl (loadGlobal_builtin (env := ksEnv q iS hp.objs.size fI (.ref cda) cc) (md.glob.keeps kb1) T.noS (hb1.keeps kb1) ((hb2 "super" (by decide)).trans (by kernel_rfl)) ⟨rfl, ?_⟩)
  refine wpAny_loadName_free rfl rfl rfl ⟨_, X1 _ _ hcell, rfl⟩ ?_
  refine wpAny_loadName_local rfl rfl F.ns (by rfl) ?_
  refine ks_wpAny_isType_cls (X1 _ _ hC1.1) hC1.2 ⟨rfl, ?_⟩
  refine ks_wpAny_call_super (X1 _ _ hC1.1) hC1.2 I1.at_ I1.cls (fun c z => by cases z) (looks_mroIn X1 T.self) (fun h2 e2 k2 => ?_)
  obtain ⟨F2, N2, l2⟩ := ks_newsPush (s := ⟨h1, g, d, tk, os⟩) F N1 rfl e2 k2
  have I2 : InstAt h2 e (excO C t0) C none := ⟨k2 _ _ I1.at_, rfl, rfl, trivial⟩
  refine kxs_method (x := e) (C := C) (D := C) (s := ⟨h2, g, d, _, os⟩) kxs_ValueError F2 X₀ N2 (List.mem_cons_self ..) I2 T.third T.sup T.exV (by decide) (fun q3 h3 F3 N3 l3 => ?_)
  refine kxs_callWith1 N3 (List.mem_cons_self ..) (spliced_more (eval_J (m := fun x => List.lookup x [("line", .int n tn), ("self", .ref e)]) rfl rfl F3.ns (by rfl) hd (fun y t k => spliced_none ⟨kxs_at N3 (List.mem_cons_self ..), ?_⟩)))
  have q3e : q3 ≠ e := Nat.ne_of_gt (l3 (e, excObj C t0 none .none) (List.mem_cons_of_mem _ (List.mem_cons_self ..)))
  have soe : h1.objs.size ≠ e := Nat.ne_of_gt (Heap.lt_size (k1 _ _ he))
  refine kxs_call (s := ⟨h3, g, d, _, os⟩) F3 X₀ N3 PySem.F.excBase_ValueError T.init (List.mem_cons_self ..) (.tail q3e (.tail soe (.head fun _ z => nomatch z))) (by rw [sizeLine_eq]; exact (by decide : 1 ≤ 16777216)) (fun t4 h4 F4 N4 l4 => ?_)
  have he4 : h4.get? e = some (excO C t4) := (N4 (e, excObj C t4 none .none) (by simp)).1
  have X4 : K.In h4 := X₀.keeps F4.keep
  show wpAt _ _ _ (execs [_] _) _ _ _
  refine wpAt_of_wpAny (wpAny_execs_cons (plainObj_wpAny_Assign_Attribute ?_))
  refine ld_local (m := fun x => List.lookup x [("line", .int n tn), ("self", .ref e)]) rfl rfl F4.ns (by rfl) (by decide) (ld_local (m := fun x => List.lookup x [("line", .int n tn), ("self", .ref e)]) rfl rfl F4.ns (by rfl) (by decide) ?_)
  refine set_plain X4 (ox := excO C t4) (od := none) ⟨he4, rfl, rfl, trivial⟩ T.sa ?_
  refine exc_osa X4 he4 hcl (show refsVE (.ref C :: bm) = true from hbm) rfl T.noN (fun h5 tk5 dx k5 dn dne hx5 hn5 => ?_)
  have hsz4 : h₀.objs.size ≤ h4.objs.size := Nat.le_trans F4.above (Nat.le_of_lt F4.ns.lt)
  exact wpAny_execs_nil (hq h5 tk5 dx t4 (fun b o z => k5 b o (fun y => by rw [y, hne] at z; cases z) (F4.keep b o z)) hx5 (Nat.le_trans hsz4 dn) dne hn5)
theorem made (T : Txt prog K mg C fI) {base : Heap} {n : Int} {tn : Tok} (md : L2.Mod K mg base) (kb : ∀ b o, base.get? b = some o → s.heap.get? b = some o) (hlim : s.heap.NoLimit) (hroom : A.depth + 1 < recursionLimit) (hd : n.natAbs < 4294967296)
    (hq : ∀ h' tk e d, Made s.heap h' e C d (.int n tn) → R (.ok (.ret (.ref e))) { s with heap := h', toks := tk }) :
    codeAny (model prog w) A (.call (.ref C) ⟨[.int n tn], []⟩) R s := by
  obtain ⟨nm, q, N, bs, bm, sn, sub, ab, col, dd, k0, k1, k2, k3, k5, hC, hbm⟩ := T.cls
  have X : K.In s.heap := md.kin.keeps kb
  obtain ⟨hp, g, dr, tk, os⟩ := s
  have k : ∀ b o, (hp.push (kdv_tup [.int n tn])).get? b = some o → ((hp.push (kdv_tup [.int n tn])).push (excO C hp.objs.size)).get? b = some o := fun b o e => Heap.get?_push_of_some _ e
  have kh : ∀ b o, hp.get? b = some o → (hp.push (kdv_tup [.int n tn])).get? b = some o := fun b o e => Heap.get?_push_of_some _ e
  have hget : ((hp.push (kdv_tup [.int n tn])).push (excO C hp.objs.size)).get? (hp.objs.size + 1) = some (excO C hp.objs.size) := by heap_get
  have s0 : (hp.push (kdv_tup [.int n tn])).objs.size = hp.objs.size + 1 := Heap.size_push ..
  have hne : (hp.push (kdv_tup [.int n tn])).get? (hp.objs.size + 1) = none := by
    cases z : (hp.push (kdv_tup [.int n tn])).get? (hp.objs.size + 1) with
    | none => rfl
    | some o => exact absurd (Heap.lt_size z) (by rw [s0]; exact Nat.lt_irrefl _)
  refine call_own F.excBase_ValueError (fun X => refsVE_contains X bm hbm) (X _ _ hC) (looks_findIn X T.iC) (fun self => bind_fn X self T.tC) (by rw [sizeLine_eq]; exact (by decide : 1 ≤ 16777216)) ?_
  refine init_run (s := ⟨(hp.push (kdv_tup [.int n tn])).push (excO C hp.objs.size), g, dr, tk, os⟩) (h₀ := hp.push (kdv_tup [.int n tn])) T md (fun b o z => kh b o (kb b o z)) ?_ ((hlim.keeps kh).keeps k) k (by show _ ≤ ((hp.push _).push _).objs.size; rw [Heap.size_push (h := hp.push _)]; exact Nat.le_succ _) hget hne hd (fun h' tk' dx t1 k' hx dn dne hns => ?_)
  · show A.depth + 1 < recursionLimit
    exact hroom
  · refine ⟨rfl, hq h' tk' (hp.objs.size + 1) dx ⟨fun b o e => k' b o (kh b o e), Nat.le_succ _, ⟨_, _, hx, rfl, rfl, rfl, rfl⟩, ?_, dne, hns⟩⟩
    rw [s0] at dn
    exact Nat.le_trans (Nat.le_succ _) dn
end
end OwnE
end PySem
namespace Co
open PySem PySem.Spec PyProof.Rows L2
theorem relO_one {f : Str} {v : V} {u : Value} (r : RelV v u) (g : Str) : RelO (List.lookup g [(f, v)]) (if g = f then some u else none) := by
  by_cases h : g = f
  · subst h
    rw [if_pos rfl]
    have z : List.lookup g [(g, v)] = some v := by simp [List.lookup]
    rw [z]
    exact r
  · rw [if_neg h]
    have z : (g == f) = false := by simpa using h
    have z2 : List.lookup g [(f, v)] = none := by simp [List.lookup, z]
    rw [z2]
    trivial
section
variable {X : Cx} {C fI : Addr}
/-- AssemblyError(e) -/
def tMkAs (C : Addr) (ta : TA) : L2.St → Hp → XK → Prop := fun σ H Q => ta σ H fun vs H1 => ∃ n : Int, vs = [.int n] ∧ n.natAbs < 4294967296 ∧ ∀ d, H1 d = none → Q (.ref C) (some d) (upd H1 d (.xd [(("line" : Str), .int n)]))
theorem pmk_as {a : Expr} {ta : TA} {p pos : Pos} {k : Nat} (T : OwnE.Txt X.prog X.K X.mg C fI) (hr : Room k X.A) (ha : PA X [a] ta) (hg : Gl X "AssemblyError" := by rfl)
    (he : starEach (a :: []) X.env = (false, eval a X.env) :: starEach [] X.env := by rfl) (hpl : (backTo pos (starEach [] X.env)).any (·.1) = false := by rfl) :
    PMk X (.Call (.Name "AssemblyError" p) [a] [] pos) (tMkAs C ta) := by
  intro pins s σ H Q I h
  refine wpAny_Call_Name_kw (ld_glob I hg T.gC ?_)
  refine PySem.W.callWith_K (h₀ := X.base) I.ok.mod.kin T.kC (thn (ha.run pos pins s σ H _ I h) fun us s1 hh => ?_) he hpl
  obtain ⟨vs, H1, I1, r1, n, ev, hn, q1⟩ := hh
  subst ev
  refine ⟨I1.kIn, ?_⟩
  cases r1 with
  | cons rv rn =>
    rename_i v' us'
    cases rn
    obtain ⟨tn, rfl⟩ := rv
    show wpAny _ _ (call (.ref C) [.int n tn]) _ _ _
    have hlim := I1.nolimit
    have hbk := I1.bk
    obtain ⟨hp, g, dr, tk, os⟩ := s1
    refine wpAny_call (OwnE.made T I1.ok.mod hbk hlim (by have := hr.dp; omega) hn fun h' tk' e d M => ?_)
    show MkP X pins σ Q (.ref e) ⟨h', g, dr, tk', os⟩
    obtain ⟨oe, fv, hoe, hc, hd, hdat, h1⟩ := M.obj
    have hns := M.ns
    obtain ⟨G', g1, g2⟩ := restrict h' fun b => decide (b ≠ e)
    have gk : ∀ b, b ≠ e → G'.get? b = h'.get? b := fun b hb => g1 b (decide_eq_true hb)
    have ge : G'.get? e = none := g2 e (by simp)
    have old : ∀ b o, hp.get? b = some o → G'.get? b = some o := fun b o q => (gk b (Nat.ne_of_lt (Nat.lt_of_lt_of_le (Heap.lt_size q) M.new))).trans (M.keep b o q)
    have ob : ObjOk X.prog X.w (upd H1 d (.xd [(("line" : Str), .int n)])) G' d (.xd [(("line" : Str), .int n)]) :=
      ⟨_, hns.at (fun o q => (gk d M.dne).trans q), fun f => relO_one (v := .int n) (u := .int n tn) ⟨tn, rfl⟩ f⟩
    have J : Inv X pins σ (upd H1 d (.xd [(("line" : Str), .int n)])) ⟨G', g, dr, tk', os⟩ := I1.laid (t' := tk') old M.dbig ob
    refine ⟨e, oe, fv, ⟨G', g, dr, tk', os⟩, _, .ref C, some d, rfl, J, fun b o q => ?_, ge, hoe, ⟨hc, hd⟩, hdat, h1, ?_, rfl, I1.bare, raises_own T.exC T.tyC, q1 d (I1.hok.fresh M.dbig)⟩
    · by_cases hb : b = e
      · have q' : G'.get? b = some o := q
        rw [hb, ge] at q'; cases q'
      · exact (gk b hb).symm.trans q
    · rw [upd_ne (Ne.symm M.dne)]
      exact I1.hok.fresh M.new
/-- raise AssemblyError(e) -/
def tRaiseAs (C : Addr) (W : WX) (ta : TA) : TS := fun _ σ H => tMkAs C ta σ H fun cls d H' => W cls d σ H'
theorem ps_raiseAs {a : Expr} {ta : TA} {W : WX} {p pos pos2 : Pos} {k : Nat} (hc : X.calm = true) (T : OwnE.Txt X.prog X.K X.mg C fI) (hr : Room k X.A) (tk : Takes X W) (ha : PA X [a] ta) (hg : Gl X "AssemblyError" := by rfl)
    (he : starEach (a :: []) X.env = (false, eval a X.env) :: starEach [] X.env := by rfl) (hpl : (backTo pos (starEach [] X.env)).any (·.1) = false := by rfl) :
    PS X (.Raise (some (.Call (.Name "AssemblyError" p) [a] [] pos)) none pos2) (tRaiseAs C W ta) := ps_raise hc tk (pmk_as T hr ha hg he hpl)
/-- error.line, error the exception that the suite holds (at a; its class cls, its dict d) -/
def tLineAs (C : Addr) (a : Addr) (cls : Value) (d : Option Addr) (te : TE) : TE := fun σ H Q => te σ H fun x H1 => x = .ref a ∧ cls = .ref C ∧ ∃ (dd : Addr) (v : V), d = some dd ∧ H1 dd = some (.xd [(("line" : Str), v)]) ∧ Q v H1
theorem pe_lineAs {a : Addr} {oe : Obj} {cls : Value} {d : Option Addr} {pn : List (Addr × Obj)} {e : Expr} {te : TE} {pos : Pos} (T : OwnE.Txt X.prog X.K X.mg C fI) (hz : Zc cls d oe) (hf : ∃ vs, oe.data = .fields vs) (he : PE (X.suite a ((a, oe) :: pn)) e te)
    (hb : attributeBase e "line" X.env (eval e X.env) = eval e X.env := by rfl) :
    PE (X.suite a ((a, oe) :: pn)) (.Attribute e "line" pos) (tLineAs C a cls d te) := by
  refine ⟨fun pins s σ H Q I h => ?_⟩
  refine attr_of hb (thn (he.run pins s σ H _ I h) fun u s1 hh => ?_)
  obtain ⟨x, H1, I1, rx, ex, ec, dd, v, ed, ea, q⟩ := hh
  subst ex
  obtain rfl : u = Value.ref a := rx
  subst ec
  subst ed
  obtain ⟨ha, _⟩ := I1.pin (a, oe) (List.mem_append_left _ List.mem_cons_self)
  obtain ⟨vs, hd⟩ := hf
  have hx : ObjOk X.prog X.w H1 s1.heap dd (.xd [(("line" : Str), v)]) := I1.hok dd _ ea
  obtain ⟨mA, hns, hr⟩ := hx
  obtain ⟨od, ho, hl⟩ := lookIn_ns hns
  have l : List.lookup ("line" : Str) [(("line" : Str), v)] = some v := by simp [List.lookup]
  obtain ⟨u, hu, ru⟩ := RelO.some_of (v := v) (o := mA "line") (by rw [← l]; exact hr "line")
  have J : PySem.W.InstAt s1.heap a oe C (some od) := ⟨ha, hz.1, by unfold PySem.W.notCls; rw [hd] <;> rfl, by rw [hz.2]; exact ho⟩
  exact HandSPX.exc_get I1.kIn J T.ga T.gg T.exC (PySem.W.findObj_own T.hdC T.noN rfl (by rw [hl, hu])) (handed_of ru) ⟨v, H1, I1.tok _, ru, q⟩
end
end Co

set_option Elab.async false
set_option linter.all false
set_option maxRecDepth 100000
set_option maxHeartbeats 4000000
namespace Co
open PySem PySem.Spec PyProof.Rows L2 TL
/-! ### texts as lists of signs: blanks at the ends, first and last signs, numbers -/
abbrev SS (l : List Nat) : Str := ⟨l.toArray⟩
def blk (c : Nat) : Bool := c == 32
def trimB (l : List Nat) : List Nat := (l.reverse.dropWhile blk).reverse
def trim (l : List Nat) : List Nat := trimB (l.dropWhile blk)
theorem drop_tw (p : Nat → Bool) : ∀ l : List Nat, l.drop (l.takeWhile p).length = l.dropWhile p
  | [] => rfl
  | c :: r => by
    rw [List.takeWhile_cons, List.dropWhile_cons]
    split
    · exact drop_tw p r
    · rfl
theorem take_tw (p : Nat → Bool) (l : List Nat) : l.take (l.length - (l.reverse.takeWhile p).length) = (l.reverse.dropWhile p).reverse := by
  rw [← drop_tw p l.reverse, List.drop_reverse, List.reverse_reverse]
theorem has_blk (c : Nat) : ((" " : Str)).cps.contains c = blk c := by
  have e : ((" " : Str)).cps = #[32] := by decide +kernel
  rw [e]
  unfold blk
  simp [eq_comm]
  rfl
theorem tl_strip (x : Str) : tl (Txt.stripChars x (" " : Str)) = trim (tl x) := by
  have hf : (((" " : Str)).cps.contains : Nat → Bool) = blk := funext has_blk
  have e : ∀ l : List Nat, ((l.drop (l.takeWhile blk).length).take (l.length - ((l.drop (l.takeWhile blk).length).reverse.takeWhile blk).length - (l.takeWhile blk).length)) = trim l := fun l => by
    unfold trim trimB
    rw [← drop_tw blk l, ← take_tw, List.length_drop]
    congr 1
    omega
  have e2 : tl (stripped blk true true x) = trim (tl x) := by
    unfold stripped
    rw [tl_strSub, ← e (tl x)]
    unfold stripLo stripHi
    rw [if_pos rfl, if_pos rfl, len_tl]
  unfold Txt.stripChars Txt.stripBy
  rw [hf]
  split
  · rename_i h
    unfold stripSame at h
    simp only [Bool.and_eq_true, beq_iff_eq] at h
    rw [← e2]
    unfold stripped
    rw [h.2, h.1, tl_strSub, List.drop_zero, len_tl, Nat.sub_zero, List.take_length]
  · exact e2
theorem dw_all {l m : List Nat} (h : ∀ c ∈ l, c = 32) : (l ++ m).dropWhile blk = m.dropWhile blk := by
  induction l with
  | nil => rfl
  | cons c r ih =>
    have hc : blk c = true := beq_iff_eq.mpr (h c List.mem_cons_self)
    rw [List.cons_append, List.dropWhile_cons, if_pos hc]
    exact ih fun d hd => h d (List.mem_cons_of_mem _ hd)
theorem dw_no {m : List Nat} (h : ∀ c, m.head? = some c → c ≠ 32) : m.dropWhile blk = m := by
  cases m with
  | nil => rfl
  | cons c r =>
    have hc : ¬ blk c = true := fun z => h c rfl (beq_iff_eq.mp z)
    rw [List.dropWhile_cons, if_neg hc]
theorem head_app {m b : List Nat} (hm : m ≠ []) : (m ++ b).head? = m.head? := by
  cases m with
  | nil => exact absurd rfl hm
  | cons c r => rfl
theorem trim_of {a m b : List Nat} (ha : ∀ c ∈ a, c = 32) (hb : ∀ c ∈ b, c = 32) (hm : m ≠ []) (h1 : ∀ c, m.head? = some c → c ≠ 32) (h2 : ∀ c, m.getLast? = some c → c ≠ 32) : trim (a ++ (m ++ b)) = m := by
  unfold trim trimB
  have e1 : (m ++ b).dropWhile blk = m ++ b := dw_no (fun c h => h1 c (by rw [head_app hm] at h; exact h))
  rw [dw_all ha, e1, List.reverse_append, dw_all (fun c hc => hb c (List.mem_reverse.mp hc)), dw_no (fun c h => h2 c (by rw [← List.head?_reverse]; exact h)), List.reverse_reverse]
theorem starts1 (x : Str) (c : Nat) : Txt.startswith x (SS [c]) = decide ((tl x).head? = some c) := by
  unfold Txt.startswith Builtin.Str.subAt
  obtain ⟨⟨l⟩⟩ := x
  cases l with
  | nil => rfl
  | cons d r =>
    have e : (decide (0 + (SS [c]).length ≤ (Str.mk ⟨d :: r⟩).length)) = true := decide_eq_true (by show 0 + 1 ≤ (d :: r).length; simp)
    rw [e, Bool.true_and]
    show (((⟨d :: r⟩ : Array Nat).extract 0 (0 + 1)) == #[c]) = decide ((d :: r).head? = some c)
    have : ((⟨d :: r⟩ : Array Nat).extract 0 (0 + 1)) = #[d] := by
      apply Array.ext'
      simp
    rw [this]
    by_cases h : d = c
    · subst h; simp
    · have h2 : ¬ (d :: r).head? = some c := fun z => h (Option.some.inj z)
      rw [decide_eq_false h2]
      simp [h]
theorem ends1 (x : Str) (c : Nat) : Txt.endswith x (SS [c]) = decide ((tl x).getLast? = some c) := by
  unfold Txt.endswith Builtin.Str.subAt
  obtain ⟨⟨l⟩⟩ := x
  rcases List.eq_nil_or_concat l with rfl | ⟨r, d, rfl⟩
  · rfl
  · have hl : (Str.mk ⟨r.concat d⟩).length = r.length + 1 := by show (r.concat d).length = _; simp
    have e : (decide (0 + (SS [c]).length ≤ (Str.mk ⟨r.concat d⟩).length)) = true := decide_eq_true (by rw [hl]; show 0 + 1 ≤ _; omega)
    rw [e, Bool.true_and, hl]
    show (((⟨r.concat d⟩ : Array Nat).extract (r.length + 1 - 1) (r.length + 1 - 1 + 1)) == #[c]) = decide ((r.concat d).getLast? = some c)
    have : ((⟨r.concat d⟩ : Array Nat).extract (r.length + 1 - 1) (r.length + 1 - 1 + 1)) = #[d] := by
      apply Array.ext'
      simp
    rw [this]
    by_cases h : d = c
    · subst h; simp
    · have h2 : ¬ (r.concat d).getLast? = some c := fun z => h (by simpa using z)
      rw [decide_eq_false h2]
      simp [h]
theorem tl_cut1 (x : Str) : tl (cutS x (some 1) none) = (tl x).drop 1 := by
  unfold cutS HT.sIx
  show ((tl x).drop (min 1 x.length)).take (x.length - min 1 x.length) = _
  rw [len_tl]
  cases tl x with
  | nil => rfl
  | cons c r => simp
theorem tl_cutL (x : Str) : tl (cutS x none (some (-1))) = (tl x).dropLast := by
  unfold cutS HT.sIx
  show ((tl x).drop 0).take ((-1 + (x.length : Int)).toNat - 0) = _
  rw [len_tl, List.drop_zero, List.dropLast_eq_take]
  congr 1
  omega
/-! ### numbers as texts -/
theorem e_minus : ("-" : Str) = SS [45] := by decide +kernel
def digA (t : Str) : Str := if Txt.startswith t ("-" : Str) = true then cutS t (some 1) none else t
def isDg (c : Nat) : Bool := decide (c ∈ ("0123456789" : Str).cps.toList)
theorem isDg_iff (c : Nat) : isDg c = true ↔ 48 ≤ c ∧ c ≤ 57 := by
  have e : ("0123456789" : Str).cps.toList = [48, 49, 50, 51, 52, 53, 54, 55, 56, 57] := by decide +kernel
  unfold isDg
  rw [decide_eq_true_iff, e]
  simp only [List.mem_cons, List.not_mem_nil, or_false]
  omega
def numT (t : Str) : Option Int :=
  if digA t = ("" : Str) ∨ 11 < t.length ∨ ((tl (digA t)).all isDg) = false then none
  else match PySem.intText? t with
    | some n => if dcT n = t then some n else none
    | none => none
theorem val_lt : ∀ (cs : List Nat) (a : Nat), PySem.NumText.AllDigits cs → cs.foldl (fun acc c => acc * 10 + (c - 48)) a < (a + 1) * 10 ^ cs.length
  | [], a, _ => by simp
  | c :: r, a, h => by
    have hc := h.head
    have ih := val_lt r (a * 10 + (c - 48)) h.tail
    rw [List.foldl_cons, List.length_cons, Nat.pow_succ]
    refine Nat.lt_of_lt_of_le ih ?_
    have e : (a + 1) * (10 ^ r.length * 10) = ((a + 1) * 10) * 10 ^ r.length := by rw [Nat.mul_comm (10 ^ r.length) 10, Nat.mul_assoc]
    rw [e]
    exact Nat.mul_le_mul_right _ (by omega)
theorem val_small {cs : List Nat} (h : PySem.NumText.AllDigits cs) (hl : cs.length ≤ 11) : PySem.NumText.digitsVal cs < 100000000000 := by
  have := val_lt cs 0 h
  have p : 10 ^ cs.length ≤ 10 ^ 11 := Nat.pow_le_pow_right (by decide) hl
  show cs.foldl _ 0 < _
  omega
theorem log_n {m : Nat} (h : m < 100000000000) : m.log2 < 1920 := by
  rcases Nat.eq_zero_or_pos m with rfl | e
  · decide
  · exact Nat.lt_trans ((Nat.log2_lt (by omega)).mpr (show m < 2 ^ 37 by omega)) (by decide)
theorem tl_e {x : Str} (h : x ≠ ("" : Str)) : tl x ≠ [] := fun z => h (ext_tl (by rw [z]; rfl))
theorem all_dg {l : List Nat} (h : l.all isDg = true) : PySem.NumText.AllDigits l := fun c hc => (isDg_iff c).mp (List.all_eq_true.mp h c hc)
/-- what such a text is read as -/
theorem num_ok {t : Str} (h1 : digA t ≠ ("" : Str)) (h2 : t.length ≤ 11) (h3 : (tl (digA t)).all isDg = true) : ∃ n, PySem.intText? t = some n ∧ n.natAbs.log2 < 1920 := by
  unfold digA at h1 h3
  have hl : (tl t).length ≤ 11 := by rw [← len_tl]; exact h2
  rw [e_minus, starts1] at h1 h3
  by_cases hs : (tl t).head? = some 45
  · rw [if_pos (decide_eq_true hs)] at h1 h3
    rw [tl_cut1] at h3
    have n1 := tl_e h1
    rw [tl_cut1] at n1
    obtain ⟨cs, e⟩ : ∃ cs, tl t = 45 :: cs := by
      cases z : tl t with
      | nil => rw [z] at hs; cases hs
      | cons d r => rw [z] at hs; cases hs; exact ⟨r, rfl⟩
    rw [e] at h3 n1 hl
    refine ⟨_, PySem.intText_neg e (all_dg h3) n1 (by rw [len_tl, e]; exact Nat.le_trans hl (by decide)), ?_⟩
    rw [Int.natAbs_neg, Int.natAbs_natCast]
    exact log_n (val_small (all_dg h3) (by have := hl; rw [List.length_cons] at this; omega))
  · rw [if_neg (by rw [decide_eq_false hs]; decide)] at h1 h3
    refine ⟨_, PySem.intText_digits (all_dg h3) (tl_e h1) (by rw [len_tl]; exact Nat.le_trans hl (by decide)), ?_⟩
    rw [Int.natAbs_natCast]
    exact log_n (val_small (all_dg h3) hl)
theorem tl_dcN (m : Nat) : tl (dcT (m : Int)) = numL m := tl_num m
theorem tl_dcM (m : Nat) : tl (dcT (-((m + 1 : Nat) : Int))) = 45 :: numL (m + 1) := by
  have e : toString (-((m + 1 : Nat) : Int)) = "-" ++ toString ((m + 1 : Nat) : Int) := rfl
  show tl (Str.ofString (toString (-((m + 1 : Nat) : Int)))) = _
  rw [e, tl_ofString, String.toList_append, List.map_append, ← tl_ofString (toString ((m + 1 : Nat) : Int)), tl_num]
  rfl
theorem dc_head (m : Nat) : (numL m).head? ≠ some 45 := fun h => by
  cases z : numL m with
  | nil => exact numL_ne m z
  | cons c r =>
    rw [z] at h
    cases h
    have := numL_digits m 45 (by rw [z]; exact List.mem_cons_self)
    omega
theorem dg_num (m : Nat) : (numL m).all isDg = true := List.all_eq_true.mpr fun c hc => (isDg_iff c).mpr (numL_digits m c hc)
theorem ne_num {x : Str} {m : Nat} (h : tl x = numL m) : x ≠ ("" : Str) := fun z => numL_ne m (by rw [← h, z]; rfl)
theorem numT_dc {n : Int} (h : n.natAbs < 4294967296) : numT (dcT n) = some n := by
  have hl := dcT_len h
  rcases Int.eq_nat_or_neg n with ⟨m, rfl | rfl⟩
  · have e := tl_dcN m
    have ed : digA (dcT (m : Int)) = dcT (m : Int) := by
      unfold digA
      rw [e_minus, starts1, e, decide_eq_false (dc_head m)]
      rfl
    unfold numT
    rw [ed, if_neg (by
      rintro (z | z | z)
      · exact ne_num e z
      · omega
      · rw [e, dg_num] at z; cases z)]
    have ei := PySem.intText_digits (x := dcT (m : Int)) (by rw [show (dcT (m : Int)).cps.toList = numL m from e]; exact numL_digits m) (by rw [show (dcT (m : Int)).cps.toList = numL m from e]; exact numL_ne m) (by omega)
    rw [show (dcT (m : Int)).cps.toList = numL m from e, numL_val] at ei
    rw [ei]
    exact if_pos rfl
  · cases m with
    | zero => show numT (dcT 0) = some 0; decide +kernel
    | succ m =>
    have e := tl_dcM m
    have ec : tl (cutS (dcT (-((m + 1 : Nat) : Int))) (some 1) none) = numL (m + 1) := by rw [tl_cut1, e]; rfl
    have ed : digA (dcT (-((m + 1 : Nat) : Int))) = cutS (dcT (-((m + 1 : Nat) : Int))) (some 1) none := by
      unfold digA
      rw [e_minus, starts1, e]
      rfl
    unfold numT
    rw [ed, ec, if_neg (by
      rintro (z | z | z)
      · exact ne_num ec z
      · omega
      · rw [dg_num] at z; cases z)]
    have ei := PySem.intText_neg (x := dcT (-((m + 1 : Nat) : Int))) e (numL_digits (m + 1)) (numL_ne (m + 1)) (by omega)
    rw [numL_val] at ei
    rw [ei]
    exact if_pos rfl
/-! ### rules of texts, by name -/
theorem w_isiN {K : PySem.W.Frag} {H : Hp} {Q : VK} (q : Q (.bl false) H) : rIsi K [.non, .ty "int"] H Q := ⟨.non, .ty "int", .type "NoneType", .type "int", false, rfl, .ty _, .base .non, kit_ty (by decide +kernel), q⟩
theorem w_isiS {K : PySem.W.Frag} {z : Str} {H : Hp} {Q : VK} (q : Q (.bl true) H) : rIsi K [.str z, .ty "str"] H Q := ⟨.str z, .ty "str", .type "str", .type "str", true, rfl, .ty _, .base (.str _), kit_ty (by decide +kernel), q⟩
def rStripQ : V → List V → Hp → VK → Prop := fun x xs H Q => ∃ a b, x = .str a ∧ xs = [.str b] ∧ a.length ≤ sizeLine ∧ Q (.str (Txt.stripChars a b)) H
theorem mt_stripQ {X : Cx} : MtR X "str.strip" rStripQ := mt_stripChars
theorem w_stripQ {a b : Str} {H : Hp} {Q : VK} (h : a.length ≤ sizeLine) (q : Q (.str (Txt.stripChars a b)) H) : rStripQ (.str a) [.str b] H Q := ⟨a, b, rfl, rfl, h, q⟩
def rSplitQ : V → List V → Hp → VK → Prop := fun x xs H Q => ∃ a b, x = .str a ∧ xs = [.str b] ∧ (b.length == 0) = false ∧ a.length + 2 ≤ sizeLine ∧ rNewStrs (Txt.split a b) H Q
theorem mt_splitQ {X : Cx} : MtR X "str.split" rSplitQ := mt_split
theorem w_splitQ {a b : Str} {H : Hp} {Q : VK} (hb : (b.length == 0) = false) (h : a.length + 2 ≤ sizeLine) (q : ∀ p H', H p = none → Same H H' → H' p = some (.lst ((Txt.split a b).map V.str)) → Q (.ref p) H') : rSplitQ (.str a) [.str b] H Q :=
  ⟨a, b, rfl, rfl, hb, h, fun p np => q p _ np (Same.new np) upd_same⟩
def rPartQ : V → List V → Hp → VK → Prop := fun x xs H Q => ∃ a b, x = .str a ∧ xs = [.str b] ∧ (b.length == 0) = false ∧ a.length ≤ sizeLine ∧ ∀ p, H p = none → Q (.ref p) (upd H p (.tup [.str (Txt.partition a b).1, .str (Txt.partition a b).2.1, .str (Txt.partition a b).2.2]))
theorem mt_partQ {X : Cx} : MtR X "str.partition" rPartQ := mt_partition
theorem w_partQ {a b : Str} {H : Hp} {Q : VK} (hb : (b.length == 0) = false) (h : a.length ≤ sizeLine) (q : ∀ p H', H p = none → Same H H' → H' p = some (.tup [.str (Txt.partition a b).1, .str (Txt.partition a b).2.1, .str (Txt.partition a b).2.2]) → Q (.ref p) H') : rPartQ (.str a) [.str b] H Q :=
  ⟨a, b, rfl, rfl, hb, h, fun p np => q p _ np (Same.new np) upd_same⟩
def rEndsQ : V → List V → Hp → VK → Prop := fun x xs H Q => ∃ a b, x = .str a ∧ xs = [.str b] ∧ Q (.bl (Txt.endswith a b)) H
theorem mt_endsQ {X : Cx} : MtR X "str.endswith" rEndsQ := mt_endswith
theorem w_endsQ {a b : Str} {H : Hp} {Q : VK} (q : Q (.bl (Txt.endswith a b)) H) : rEndsQ (.str a) [.str b] H Q := ⟨a, b, rfl, rfl, q⟩
def rIntS : List V → Hp → VK → Prop := fun xs H Q => ∃ a n, xs = [.str a] ∧ PySem.intText? a = some n ∧ a.length ≤ 640 ∧ Q (.int n) H
theorem call_intSQ {X : Cx} : CallR X (.type "int") rIntS := call_int_str
theorem w_intS {a : Str} {n : Int} {H : Hp} {Q : VK} (h : PySem.intText? a = some n) (hl : a.length ≤ 640) (q : Q (.int n) H) : rIntS [.str a] H Q := ⟨a, n, rfl, h, hl, q⟩
def rLenSQ : List V → Hp → VK → Prop := fun xs H Q => ∃ z, xs = [.str z] ∧ z.length ≤ sizeLine ∧ Q (.int z.length) H
theorem call_lenSQ {X : Cx} : CallR X (.builtin "len") rLenSQ := call_len_str
theorem w_lenSQ {a : Str} {H : Hp} {Q : VK} (hl : a.length ≤ sizeLine) (q : Q (.int a.length) H) : rLenSQ [.str a] H Q := ⟨a, rfl, hl, q⟩
def rMulSQ : R2 := fun x y H Q => ∃ a n, x = .str a ∧ y = .int n ∧ MulOk a n ∧ Q (.str (Txt.mul a n)) H
theorem op_mulSQ {X : Cx} : OpR X (binaryOp .Mult) rMulSQ := by
  intro pins s σ H x y v u Q I rx ry h
  obtain ⟨a, n, rfl, rfl, hm, q⟩ := h
  obtain ⟨t, rfl⟩ := rx
  obtain ⟨t', rfl⟩ := ry
  exact SB.mul hm fun t' k => ⟨.str (Txt.mul a n), H, I.tok _, ⟨t', rfl⟩, q⟩
theorem w_mulSQ {a : Str} {n : Int} {H : Hp} {Q : VK} (h : MulOk a n) (q : Q (.str (Txt.mul a n)) H) : rMulSQ (.str a) (.int n) H Q := ⟨a, n, rfl, rfl, h, q⟩
theorem w_slS {z : Str} {lo hi : Option Int} {H : Hp} {Q : VK} (h : z.length ≤ sizeLine) (q : Q (.str (cutS z lo hi)) H) : rSlS (.str z) lo hi H Q := ⟨z, rfl, h, q⟩
/-! ### zip of a text and a list -/
theorem pl_is {h : Heap} {b : Addr} {its : Array Value} (t : PlainL h b its) : h.IsList b its := by
  obtain ⟨o, n, e, h1, h2, h3⟩ := t
  exact ⟨o, e, h1, n, h3⟩
def ItzSL (K : PySem.W.Frag) (x : Str) (b : Addr) : It :=
  ⟨fun i H => ∃ (ys : List V), SqL K H b ys ∧ i < x.cps.size ∧ i < ys.length,
    fun i H v H' => ∃ T c y, v = .ref T ∧ H T = none ∧ H' = upd H T (.tup [.str ⟨#[c]⟩, y]) ∧ x.cps[i]? = some c ∧ ∀ ys, SqL K H b ys → ys[i]? = some y,
    fun i H => ∃ ys : List V, SqL K H b ys ∧ i ≤ x.cps.size ∧ i ≤ ys.length ∧ (i = x.cps.size ∨ i = ys.length)⟩
/-- the five objects of such a zip, as they stand before its turn `i` -/
structure ZLt (x : Str) (tk0 : Tok) (b z TI TO i1 i2 : Addr) (i : Nat) (h : Heap) : Prop where
  zip : IsZip h z TI TO .none
  ins : IsTupOf2 h TI (.ref i1) (.ref i2)
  outs : ∃ x y, IsTupOf2 h TO x y
  txt : h.IsStrIter i1 (strIterType x) x tk0 i
  tup : h.IsListIter i2 b i
theorem ZLt.small {x : Str} {tk0 : Tok} {b z TI TO i1 i2 : Addr} {i : Nat} {h : Heap} (q : ZLt x tk0 b z TI TO i1 i2 i h) : ∀ c, c ∈ [z, TI, TO, i1, i2] → c < h.objs.size := by
  obtain ⟨_, _, q3⟩ := q.outs
  obtain ⟨_, q4, _⟩ := q.txt
  obtain ⟨_, q5, _⟩ := q.tup
  exact all5 (Heap.lt_size q.zip) (Heap.lt_size q.ins) (Heap.lt_size q3) (Heap.lt_size q4) (Heap.lt_size q5)
theorem turn_zipSL {P : Program} {w : World} {K : PySem.W.Frag} {elts : List Expr} {kk : Nat} {tpos : Pos} {x : Str} {tk0 : Tok} {b z TI TO i1 i2 : Addr} (D : ZipApart z TI TO i1 i2 b b) :
    Turn P w K (.Tuple elts kk tpos) (ItzSL K x b) [z, TI, TO, i1, i2] z (ZLt x tk0 b z TI TO i1 i2) where
  mem := List.mem_cons_self
  obj := fun i h q => by
    obtain ⟨_, _, q3⟩ := q.outs
    obtain ⟨_, q4, _, d4⟩ := q.txt
    obtain ⟨_, q5, _, d5⟩ := q.tup
    refine all5 ⟨_, q.zip, ?_⟩ ⟨_, q.ins, ?_⟩ ⟨_, q3, ?_⟩ ⟨_, q4, ?_⟩ ⟨_, q5, ?_⟩ <;> intro v e <;> simp_all
  keep := fun i h h' q k => by
    have k' : ∀ c, c ∈ [z, TI, TO, i1, i2] → ∀ o, h.get? c = some o → h'.get? c = some o := k
    obtain ⟨u, v, q3⟩ := q.outs
    obtain ⟨o4, q4, r4⟩ := q.txt
    exact ⟨k' _ (by simp) _ q.zip, k' _ (by simp) _ q.ins, ⟨u, v, k' _ (by simp) _ q3⟩, ⟨o4, k' _ (by simp) _ q4, r4⟩, q.tup.at (k' _ (by simp))⟩
  item := by
    rintro X rfl rfl rfl hc i pins s σ H E I hf q ⟨ys, hy, l1, l2⟩
    obtain ⟨vs, rv, tv, _⟩ := I.list hy
    obtain ⟨_, _, q3⟩ := q.outs
    have hd : X.A.in1.handled = none := I.ok.hd hc
    obtain ⟨u, hu, ru⟩ := rv.get (List.getElem?_eq_getElem l2)
    have lv : i < vs.toArray.size := by
      have := (List.getElem?_eq_some_iff.mp hu).1
      simpa using this
    refine wpAny_pyNext_zipD2_item (sep_of D) (Draws.text hd i1 x tk0) (Draws.list hd i2 b D.l1i2 vs.toArray) q.zip q.ins q3 q.txt ⟨q.tup, pl_is tv⟩ l1 lv fun a1 a2 h1 t1 P1 P2 z1 o1 f1 f2 new _ kp => ?_
    obtain ⟨c, tc, hx, rfl⟩ := P1
    obtain rfl : u = a2 := by
      have : vs[i]? = some a2 := by simpa using P2
      simpa [hu] using this
    refine ⟨_, rfl, wpAny_letOwnedTupleGo_zip (s := { s with heap := h1, toks := t1 }) z1 fun h2 z2 sb => ?_⟩
    have sm := q.small
    have kp2 : ∀ a o, a ∉ [z, TI, TO, i1, i2] → s.heap.get? a = some o → h2.get? a = some o := fun a o na e => by
      obtain ⟨n1, _, n3, n4, n5⟩ := no5 na
      by_cases hb : a = TI
      · exact absurd hb (no5 na).2.1
      · exact (sb.2 a n1).trans (kp a o n1 n3 n4 n5 e)
    have nt : h2.get? s.heap.objs.size = some { cls := .type "tuple", data := .seq #[.str ⟨#[c]⟩ tc, u] } :=
      (sb.2 _ (Nat.ne_of_gt (sm z (by simp)))).trans new
    have pair : ObjOk X.prog X.w (upd H s.heap.objs.size (.tup [.str ⟨#[c]⟩, ys[i]])) h2 s.heap.objs.size (.tup [.str ⟨#[c]⟩, ys[i]]) :=
      ⟨(by decide : 2 ≤ sizeLine), [.str ⟨#[c]⟩ tc, u], .cons ⟨tc, rfl⟩ (.cons ru .nil), ⟨_, nt, rfl, _, rfl⟩⟩
    have J : L2.Inv X pins σ (upd H s.heap.objs.size (.tup [.str ⟨#[c]⟩, ys[i]])) { s with heap := h2, toks := t1 } :=
      I.turnedNew (t' := t1) (ch := [z, TI, TO, i1, i2]) kp2 hf (Nat.le_refl _) pair
    obtain ⟨ob, g1, r1⟩ := f1
    refine ⟨.ref s.heap.objs.size, _, J, rfl, ⟨_, c, ys[i], rfl, I.hok.fresh (Nat.le_refl _), rfl, hx, fun l hl => ?_⟩,
      { zip := z2, ins := (sb.2 _ D.TIz).trans (kp _ _ D.TIz D.TITO D.TIi1 D.TIi2 q.ins), outs := ⟨_, u, (sb.2 _ D.TOz).trans o1⟩, txt := ⟨ob, (sb.2 _ D.i1z).trans g1, r1⟩, tup := f2.1.at fun o e => (sb.2 _ D.i2z).trans e }, fun a ha => ?_⟩
    · obtain rfl := I.list_inj hl hy
      exact List.getElem?_eq_getElem l2
    · exact (upd_ne (Nat.ne_of_lt (sm a ha))).trans (hf a ha).1
  done := by
    rintro X rfl rfl rfl hc i pins s σ H E I hf q ⟨ys, hy, l1, l2, l3⟩
    obtain ⟨vs, rv, tv, _⟩ := I.list hy
    obtain ⟨_, _, q3⟩ := q.outs
    have hd : X.A.in1.handled = none := I.ok.hd hc
    have e2 : vs.toArray.size = ys.length := by simpa using rv.length.symm
    refine wpAny_pyNext_zipD2_end (sep_of D) (Draws.text hd i1 x tk0) (Draws.list hd i2 b D.l1i2 vs.toArray) q.zip q.ins q3 q.txt ⟨q.tup, pl_is tv⟩ l1 (by omega) (by omega) fun h' tk kp => ⟨rfl, I.turnedL (t' := tk) (ch := [z, TI, TO, i1, i2]) (fun a o na e => ?_) hf⟩
    obtain ⟨n1, _, n3, n4, n5⟩ := no5 na
    exact kp a o n1 n3 n4 n5 e
  self := fun _ _ _ _ _ q h => wpAny_pyIter_zip q.zip h
def iZipSL (K : PySem.W.Frag) (ta : TA) : TI := fun σ H R => ta σ H fun vs H1 => ∃ x b ys, vs = [.str x, .ref b] ∧ SqL K H1 b ys ∧ R (ItzSL K x b) H1
theorem pi_zipSL {X : Cx} {e e2 : Expr} {ta : TA} {p pos tpos : Pos} {elts : List Expr} {kk : Nat} (hg : Gl X "zip") (hm : X.mg "zip" = none) (ha : PA X [e, e2] ta)
    (hs : starEach [e, e2] X.env = (false, eval e X.env) :: starEach [e2] X.env := by rfl) (hpl : (backTo pos (starEach [e2] X.env)).any (·.1) = false := by rfl) :
    PI X (.Tuple elts kk tpos) (.Call (.Name "zip" p) [e, e2] [] pos) (iZipSL X.K ta) where
  run pins s σ H R I h := by
    have go := ha.run pos pins s σ H _ I h
    refine Call_ (ld_blt I hg hm PyProof.Rows.boot_zip (PyProof.Rows.callWith_type1 (thn go ?_) hs hpl))
    rintro us s1 ⟨vs, H1, J, r1, x, b, ys, rfl, hy, q⟩
    match us, r1 with
    | [_, _], .cons ⟨tk0, rfl⟩ (.cons rfl .nil) =>
      obtain ⟨its, _, tv, _⟩ := J.list hy
      have tv := pl_is tv
      obtain ⟨_, hb, _⟩ := id tv
      have lb := Heap.lt_size hb
      let n := s1.heap.objs.size
      have up : ∀ c, c ∈ [n + 4, n + 2, n + 3, n, n + 1] → n ≤ c := all5 (by omega) (by omega) (by omega) (by omega) (by omega)
      refine zip_begins2 (begins_text x tk0) (begins_list b its.toArray) trivial (show s1.heap.IsList b its.toArray from tv) fun h' q1 q2 q3 q4 q5 _ kp => wpAny_pyIter_zip q1 ?_
      exact ⟨n + 4, [n + 4, n + 2, n + 3, n, n + 1], _, _, H1, rfl, J.kept (t' := s1.toks) kp, turn_zipSL (PySem.W.ktu_apart n b b lb lb),
        ⟨q1, q2, ⟨_, _, q3⟩, ⟨_, q4, rfl, rfl⟩, ⟨_, q5, rfl, rfl⟩⟩, fun c hc => J.fpOk (up c hc) (J.hok.fresh (up c hc)), q⟩

def kZL (K : PySem.W.Frag) (R : It → Hp → Prop) : List V → Hp → Prop := fun vs H1 => ∃ x b ys, vs = [.str x, .ref b] ∧ SqL K H1 b ys ∧ R (ItzSL K x b) H1
theorem w_zSL {K : PySem.W.Frag} {ta : TA} {σ : L2.St} {H : Hp} {R : It → Hp → Prop} (q : ta σ H (kZL K R)) : iZipSL K ta σ H R := q
theorem w_lcZL {K : PySem.W.Frag} {g : TG} {tt : TT} {te : TE} {vs : List Nat} {σ : L2.St} {H : Hp} {Q : VK} {x : Str} {b : Addr} (ys : List V) (Pv : Addr → Nat → Hp → Prop) (hq : SqL K H b ys) (hle : x.cps.size = ys.length) (h0 : ∀ D, H D = none → Pv D 0 (upd H D (.lst []))) (hl : ∀ D i H, Pv D i H → SqL K H b ys)
    (hs : ∀ D i c y T H H', x.cps[i]? = some c → ys[i]? = some y → Pv D i H → H T = none → Same H H' → H' T = some (.tup [.str ⟨#[c]⟩, y]) → g (.ref T) (wipe σ vs) H' fun σ2 H2 => wipe σ2 vs = wipe σ vs ∧ tt σ2 H2 fun b H3 =>
      if b = true then te σ2 H3 fun y H4 => ∃ acc, H4 D = some (.lst acc) ∧ acc.length < sizeLine ∧ Pv D (i + 1) (upd H4 D (.lst (acc ++ [y]))) else Pv D (i + 1) H3) (hd : ∀ D H', H D = none → Pv D ys.length H' → Q (.ref D) H') : kZL K (kLc g tt te vs σ Q) [.str x, .ref b] H := by
  refine ⟨x, b, ys, rfl, hq, fun D nD => ⟨fun i m H => m = ys.length - i ∧ i ≤ ys.length ∧ Pv D i H, ⟨ys.length, by simp, Nat.zero_le _, h0 D nD⟩, ?_⟩⟩
  rintro i m H' ⟨rfl, hi, p⟩
  have q := hl D i H' p
  by_cases hlt : i < ys.length
  · refine .inr ⟨⟨ys, q, by omega, hlt⟩, Pv D (i + 1), fun H2 p' => ⟨ys.length - (i + 1), by omega, rfl, hlt, p'⟩, fun v H2 y => ?_⟩
    obtain ⟨T, c, y, rfl, nT, rfl, hc, hy⟩ := y
    exact hs D i c y T H' _ hc (hy ys q) p nT (Same.new nT) upd_same
  · have e : i = ys.length := by omega
    subst e
    exact .inl ⟨⟨ys, q, by omega, Nat.le_refl _, .inr rfl⟩, hd D H' nD p⟩
theorem w_lcS {g : TG} {tt : TT} {te : TE} {vs : List Nat} {σ : L2.St} {H : Hp} {Q : VK} {x : Str} (Pv : Addr → Nat → Hp → Prop) (h0 : ∀ D, H D = none → Pv D 0 (upd H D (.lst [])))
    (hs : ∀ D i c H, x.cps[i]? = some c → Pv D i H → g (.str ⟨#[c]⟩) (wipe σ vs) H fun σ2 H2 => wipe σ2 vs = wipe σ vs ∧ tt σ2 H2 fun b H3 =>
      if b = true then te σ2 H3 fun y H4 => ∃ acc, H4 D = some (.lst acc) ∧ acc.length < sizeLine ∧ Pv D (i + 1) (upd H4 D (.lst (acc ++ [y]))) else Pv D (i + 1) H3) (hd : ∀ D H', H D = none → Pv D x.cps.size H' → Q (.ref D) H') : kSt (kLc g tt te vs σ Q) (.str x) H := by
  refine ⟨x, rfl, fun D nD => ⟨fun i m H => m = x.cps.size - i ∧ i ≤ x.cps.size ∧ Pv D i H, ⟨x.cps.size, by simp, Nat.zero_le _, h0 D nD⟩, ?_⟩⟩
  rintro i m H' ⟨rfl, hi, p⟩
  by_cases hlt : i < x.cps.size
  · refine .inr ⟨hlt, Pv D (i + 1), fun H2 p' => ⟨x.cps.size - (i + 1), by omega, rfl, hlt, p'⟩, fun v H2 y => ?_⟩
    obtain ⟨rfl, c, hc, rfl⟩ := y
    exact hs D i c _ hc p
  · have e : i = x.cps.size := by omega
    subst e
    exact .inl ⟨Nat.le_refl _, hd D H' nD p⟩
end Co
namespace Co
open PySem PySem.Spec PyProof.Rows L2 RZ TL
def rNotInKG (K : PySem.W.Frag) (w : World) : R2 := fun x y H Q => ∃ z o d, x = .str z ∧ y = .ref d ∧ KGet K w d z o ∧ Q (.bl (!o.isSome)) H
theorem op_notInKG {X : Cx} : OpR X (compareOp .NotIn) (rNotInKG X.K X.w) := by
  intro pins s σ H x y v u Q I rx ry h
  obtain ⟨z, o, d, rfl, rfl, ⟨es, n, hl, hk, hm, hv⟩, q⟩ := h
  rcases hv with ⟨rfl, e⟩ | ⟨v', u', rfl, e, _⟩
  · exact op_notIn_kd ⟨hl, hk, hm⟩ pins s σ H _ _ v u Q I rx ry ⟨z, none, rfl, rfl, e, q⟩
  · exact op_notIn_kd ⟨hl, hk, hm⟩ pins s σ H _ _ v u Q I rx ry ⟨z, some u', rfl, rfl, e, q⟩
theorem w_notInKG {K : PySem.W.Frag} {w : World} {z : Str} {o : Option V} {d : Addr} {H : Hp} {Q : VK} (g : KGet K w d z o) (q : Q (.bl (!o.isSome)) H) : rNotInKG K w (.str z) (.ref d) H Q := ⟨z, o, d, rfl, rfl, g, q⟩
theorem KGet.dct {K : PySem.W.Frag} {w : World} {d : Addr} {z : Str} {v : V} (g : KGet K w d z (some v)) : KDct K w d z v := by
  obtain ⟨es, n, hl, hk, hm, hv⟩ := g
  rcases hv with ⟨z, _⟩ | ⟨v', u', e, e2, r⟩
  · cases z
  · cases e
    exact ⟨es, n, u', hl, hk, e2, r⟩
/-! ### lengths of what texts are cut into -/
theorem trim_le (l : List Nat) : (trim l).length ≤ l.length := by
  have h : ∀ m : List Nat, (m.dropWhile blk).length ≤ m.length := fun m => by rw [← drop_tw, List.length_drop]; omega
  unfold trim trimB
  rw [List.length_reverse]
  refine Nat.le_trans (h _) ?_
  rw [List.length_reverse]
  exact h l
theorem strip_le (x : Str) : (Txt.stripChars x (" " : Str)).length ≤ x.length := by
  rw [len_tl, tl_strip, len_tl]
  exact trim_le _
theorem sub_le (x : Str) (i j : Nat) : (Builtin.Str.strSub x i j).length ≤ x.length := by
  rw [len_tl, tl_strSub, len_tl, List.length_take, List.length_drop]
  omega
theorem part1_le (x y : Str) : (Txt.partition x y).1.length ≤ x.length := by
  unfold Txt.partition
  split
  · exact sub_le _ _ _
  · exact Nat.le_refl _
theorem part3_le (x y : Str) : (Txt.partition x y).2.2.length ≤ x.length := by
  unfold Txt.partition
  split
  · exact sub_le _ _ _
  · exact Nat.zero_le _
theorem join_ge (y : Str) : ∀ ps : List Str, (∀ p ∈ ps, p.length ≤ (Str.join y ps).length) ∧ (1 ≤ y.length → ps.length ≤ (Str.join y ps).length + 1)
  | [] => ⟨fun p h => (by cases h), fun _ => Nat.zero_le _⟩
  | [x] => ⟨fun p h => by rw [List.mem_singleton.mp h]; exact Nat.le_refl _, fun _ => by show 1 ≤ _; omega⟩
  | x :: z :: r => by
    obtain ⟨h1, h2⟩ := join_ge y (z :: r)
    have e : (Str.join y (x :: z :: r)).length = x.length + y.length + (Str.join y (z :: r)).length := by
      show (x ++ y ++ Str.join y (z :: r)).length = _
      rw [cat_len, cat_len]
    refine ⟨fun p h => ?_, fun hy => ?_⟩
    · rw [e]
      rcases List.mem_cons.mp h with rfl | h
      · omega
      · have := h1 p h; omega
    · rw [e, List.length_cons]
      have := h2 hy
      omega
theorem split_le (x y : Str) (hy : 1 ≤ y.length) : (∀ p ∈ Txt.split x y, p.length ≤ x.length) ∧ (Txt.split x y).length ≤ x.length + 1 := by
  obtain ⟨h1, h2⟩ := join_ge y (Txt.split x y)
  rw [PySem.StrLaws.join_split] at h1 h2
  exact ⟨h1, h2 hy⟩
end Co
namespace Co
open PySem PySem.Spec PyProof.Rows L2
/-! ### a def that may raise, by its name -/
structure CdX (P : Program) (w : World) (K : PySem.W.Frag) (mg : Str → Option Value) (base : Heap) (k : Nat) (x : Str) (sp : Sp) : Prop where
  ex : ∃ (f : Addr) (fd : FuncData) (ps : List Str), FnOk P w K mg base (L2.CX P w) k f fd ps sp ∧ mg x = some (.ref f) ∧ PySem.W.keepIn K (.ref f) = true ∧ Binds K fd ps []
section
variable {X : Cx} {k j : Nat} {x : Str} {sp : Sp} {p pos : Pos} {e : Expr} {es : List Expr} {t : TA}
theorem pass_none {σ : L2.St} : PassesAt (L2.CX X.prog X.w) X σ E0 := fun _ _ _ _ _ _ c => by
  obtain ⟨_, _, _, _, _, _, _, _, _, _, _, _, z⟩ := c
  exact z.elim
/-- .. where it does not -/
theorem pe_cdX0 (c : CdX X.prog X.w X.K X.mg X.base k x sp) (hr : Room j X.A) (hk : k ≤ j) (hg : Gl X x) (ha : PA X (e :: es) t)
    (hdb : (x == ("__debug__" : Str)) = false := by decide) (he : starEach (e :: es) X.env = (false, eval e X.env) :: starEach es X.env := by rfl) (hpl : (backTo pos (starEach es X.env)).any (·.1) = false := by rfl) :
    PE X (.Call (.Name x p) (e :: es) [] pos) (tC1 sp t) := by
  obtain ⟨f, fd, ps, F, hm, kp, b⟩ := c.ex
  exact pe_callS (E := fun _ => E0) F (hr.mono hk) hg hm kp b (fun σ => pass_none) ha hdb he hpl
/-- .. in a try -/
theorem pe_cdXT {W : WX} (c : CdX X.prog X.w X.K X.mg X.base k x sp) (hr : Room j X.A) (hk : k ≤ j) (hg : Gl X x) (tk : Takes X W) (ha : PA X (e :: es) t)
    (hdb : (x == ("__debug__" : Str)) = false := by decide) (he : starEach (e :: es) X.env = (false, eval e X.env) :: starEach es X.env := by rfl) (hpl : (backTo pos (starEach es X.env)).any (·.1) = false := by rfl) :
    PE X (.Call (.Name x p) (e :: es) [] pos) (tCallS sp (WE W) t) := by
  obtain ⟨f, fd, ps, F, hm, kp, b⟩ := c.ex
  exact pe_callS F (hr.mono hk) hg hm kp b (fun σ => passAt tk σ) ha hdb he hpl
theorem w_callS {sp : Sp} {W : WX} {t : TA} {σ : L2.St} {H : Hp} {Q : VK} (q : t σ H fun vs H1 => sp vs H1 Q (WE W σ)) : tCallS sp (WE W) t σ H Q := q
theorem w_lineAs {C a : Addr} {cls : Value} {d : Option Addr} {te : TE} {σ : L2.St} {H : Hp} {Q : VK} (q : te σ H fun x H1 => x = .ref a ∧ cls = .ref C ∧ ∃ (dd : Addr) (v : V), d = some dd ∧ H1 dd = some (.xd [(("line" : Str), v)]) ∧ Q v H1) : tLineAs C a cls d te σ H Q := q
end
end Co
namespace Co
open PySem PySem.Spec PyProof.Rows L2
theorem mt_joinQK {X : Cx} {K' : PySem.W.Frag} (hK : X.K = K') : MtR X "str.join" (rJoinQ K') := by subst hK; exact mt_joinQ
end Co

set_option Elab.async false
set_option linter.all false
set_option maxRecDepth 100000
set_option maxHeartbeats 4000000
open PySem PySem.Spec PyProof.Rows L2 Co
namespace Co
open He HandSHeadRun PySem.W PySem.Calls
/-! a head that tells of an own error's class: its `__init__` has a cell -/
def frW (g : Addr → Option Obj) (n : Nat) : PySem.W.Frag := frG g (lvl g n [mainGlobals] ++ [cStatics])
abbrev FnE : Type := Option (Str × Str × Arguments × FuncBody × Scope × Addr × List Str × Value × Value × Addr)
def errA (K : PySem.W.Frag) : Addr := ma K (ga K "AssemblyError") "__init__"
def feObs (K : PySem.W.Frag) : FnE := match K.lookup (errA K) with
  | some ⟨_, _, .func fd, _⟩ => some (fd.name, fd.qualname, fd.params, fd.body, fd.scope, fd.globals, fd.closure.map (·.1), fd.defaults, fd.kwdefaults, fd.builtins)
  | _ => none
def errQ : Str := "AssemblyError.__init__"
def feVal : FnE := some ("__init__", errQ, OwnE.iA OwnE.pk, .stmts (OwnE.iB OwnE.pk), OwnE.iS, mainGlobals, ["__class__"], .none, .none, builtinsNs)
def clsZ (K : PySem.W.Frag) (C : Addr) : Bool := match K.lookup C with
  | some ⟨.type t, _, .cls cd, sl⟩ => decide (t = "type") && (match cd.mro, sl.toList with
    | .ref C' :: bm, [_, _, _, _, some (.builtin n), _] => decide (C' = C) && (decide (n = "ValueError.__new__") && (!cd.hasDel && (cd.hasDict && HandSPX.refsVE bm)))
    | _, _ => false)
  | _ => false
theorem clsZ_ok {K : PySem.W.Frag} {C : Addr} (h : clsZ K C = true) : ∃ nm q N bs bm sn sub ab col dd k0 k1 k2 k3 k5, K.lookup C = some (excClassObj nm q C N bs bm true sn sub ab col dd k0 k1 k2 k3 k5 "ValueError.__new__") ∧ HandSPX.refsVE bm = true := by
  unfold clsZ at h
  split at h
  · rename_i t dd cd sl e
    obtain ⟨h1, h2⟩ := ba h
    have e1 : t = "type" := of_decide_eq_true h1
    subst e1
    split at h2
    · rename_i C' bm k0 k1 k2 k3 n k5 e2 e3
      obtain ⟨g1, h3⟩ := ba h2
      obtain ⟨g2, h4⟩ := ba h3
      obtain ⟨g3, h5⟩ := ba h4
      obtain ⟨g4, g5⟩ := ba h5
      have e4 : C' = C := of_decide_eq_true g1
      have e5 : n = "ValueError.__new__" := of_decide_eq_true g2
      subst e4 e5
      obtain ⟨nm, bs, mro, ns, qn, hd, sn, sub, ab, col, del⟩ := cd
      simp only at e2 g3 g4
      subst e2 g4
      have g3' : del = false := by cases del <;> simp_all
      subst g3'
      obtain ⟨sl'⟩ := sl
      simp only at e3
      subst e3
      exact ⟨nm, qn, ns, bs, bm, sn, sub, ab, col, dd, k0, k1, k2, k3, k5, e, g5⟩
    · cases h2
  · cases h
def cellZ (K : PySem.W.Frag) (C cc : Addr) : Bool := match K.lookup cc with
  | some ⟨_, _, .cell (some (.ref D)), _⟩ => decide (D = C)
  | _ => false
def codeZ (K : PySem.W.Frag) (file : Str) (cda : Addr) : Bool := match K.lookup cda with
  | some ⟨_, _, .fields vs, _⟩ => (match (vs[2]? : Option Value) with
    | some (.str f _) => decide (f = file)
    | _ => false)
  | _ => false
def initZ (K : PySem.W.Frag) (file : Str) : Bool := match K.lookup (errA K) with
  | some ⟨_, _, .func fd, _⟩ => PySem.W.codeIn K fd.code errQ && ((match fd.closure with
    | [(_, cc)] => cellZ K (ga K "AssemblyError") cc
    | _ => false) && (match fd.code with
    | .ref cda => codeZ K file cda
    | _ => false))
  | _ => false
/-- the looks at the class -/
def exZ (file : Str) (K : PySem.W.Frag) : Bool :=
  let C := ga K "AssemblyError"
  [gloZ "AssemblyError" K, clsZ K C, eqO (PySem.W.findIn K (.ref C) "__setattr__") (some (some (.builtin "object.__setattr__"))),
   eqO (PySem.W.findIn K (.ref C) "__getattribute__") (some (some (.builtin "BaseException.__getattribute__"))), eqO (PySem.W.findIn K (.ref C) "__getattr__") (some none), eqO (PySem.W.findIn K (.ref C) "line") (some none),
   eqO (PySem.W.findIn K (.ref C) "__init__") (some (some (.ref (errA K)))), eqO (some (PySem.W.typeIn K (.ref (errA K)))) (some (some (.type "function"))), PySem.W.keepIn K (.ref C), decide (PySem.W.subIn K (.ref C) (.type "BaseException") = some true),
   decide (PySem.W.subIn K (.ref C) (.type "ValueError") = some true), eqO (some (PySem.W.typeIn K (.ref C))) (some (some (.type "type"))), PySem.W.hasDictIn K C, decide (PySem.W.exmOne K (.ref C) (.ref C) = some true),
   PySem.W.excInitIn K C [.type "ValueError", .type "Exception", .type "BaseException", .type "object"] "ValueError.__new__", eqO (PySem.W.ks_superIn K C C "__init__") (some (some (.builtin "ValueError.__init__"))), decide (PySem.W.mroIn K C (.ref C) = some true),
   eqO (PySem.W.nsIn K cStatics "thirdparty.any") (some none), (Fa.free "super").ok K, initZ K file].all id
theorem ex_txt {prog : Program} {K : PySem.W.Frag} {h : Heap} {mg : Str → Option Value} {file : Str} (X : K.In h) (G : h.Ns mainGlobals mg) (htop : (prog.main.scope.names.lookup ("super" : Str)).isSome = false) (hfile : ((prog.main.file : Str) == file) = true)
    (c : exZ file K = true) (f : feObs K = feVal) : OwnE.Txt prog K mg (ga K "AssemblyError") (errA K) := by
  have q : ∀ b, b ∈ _ → id b = true := List.all_eq_true.mp c
  simp only [List.mem_cons, List.not_mem_nil, or_false, forall_eq_or_imp, forall_eq, id] at q
  obtain ⟨q1, q2, q3, q4, q5, q6, q7, q8, q9, q10, q11, q12, q13, q14, q15, q16, q17, q18, q19, q20⟩ := q
  refine { gC := PySem.W.mg_of X G (zGlo q1), cls := clsZ_ok q2, sa := eqO_ok q3, ga := eqO_ok q4, gg := eqO_ok q5, noN := eqO_ok q6, iC := eqO_ok q7, tC := Option.some.inj (eqO_ok q8), kC := q9, exC := of_decide_eq_true q10, exV := of_decide_eq_true q11, tyC := Option.some.inj (eqO_ok q12), hdC := q13, te := of_decide_eq_true q14, init := q15, sup := eqO_ok q16, self := of_decide_eq_true q17, third := eqO_ok q18, noS := zFree X G q19, top := htop, fn := ?_ }
  unfold feObs at f
  unfold initZ at q20
  cases e : K.lookup (errA K) with
  | none => rw [e] at f; cases f
  | some o =>
    obtain ⟨oc, od, dt, osl⟩ := o
    rw [e] at f q20
    cases dt with
    | func fd =>
      obtain ⟨n1, n2, n3, n4, n5, n6, n7, n8, n9, n10, n11, n12, n13, n14, n15⟩ := fd
      have f2 : (some (n1, n2, n3, n4, n5, n6, n7.map (·.1), n8, n9, n15) : FnE) = feVal := f
      unfold feVal at f2
      simp only [Option.some.injEq, Prod.mk.injEq] at f2
      obtain ⟨h1, h2, h3, h4, h5, h6, h7, h8, h9, h15⟩ := f2
      obtain ⟨c1, c23⟩ := ba q20
      obtain ⟨c2, c3⟩ := ba c23
      simp only at c1 c2 c3
      match n7, h7, c2 with
      | [(x, cc)], h7, c2 =>
        have hx : x = "__class__" := (List.cons.inj h7).1
        subst hx
        match n13, c1, c3 with
        | .ref cda, c1, c3 =>
          have c3' : codeZ K file cda = true := c3
          have c2' : cellZ K (ga K "AssemblyError") cc = true := c2
          unfold codeZ at c3'
          unfold cellZ at c2'
          split at c3'
          · rename_i a1 a2 vs a3 ec
            split at c3'
            · rename_i fl tf ev
              split at c2'
              · rename_i b1 b2 D b3 ecell
                have eD : D = ga K "AssemblyError" := of_decide_eq_true c2'
                have efl : fl = file := of_decide_eq_true c3'
                subst eD efl
                subst h1 h2 h3 h4 h5 h6 h8 h9 h15
                exact ⟨errQ, oc, od, n10, n11, n12, cda, cc, n14, osl, a1, b1, a2, b2, vs, a3, b3, fl, tf, rfl, c1, ec, ev, hfile, ecell⟩
              · cases c2'
            · cases c3'
          · cases c3'
    | _ => cases f
end Co
namespace Co
open He HandSHeadRun PySem.W PySem.Calls
def obsX (n : Nat) (cks : List (PySem.W.Frag → Bool)) (fn : List Fx) (ts : List Tab) (g : Addr → Option Obj) : AlZ × FnE := (obsZ cks fn ts (frW g n), feObs (frW g n))
def hookX (n : Nat) (cks : List (PySem.W.Frag → Bool)) (fn : List Fx) (ts : List Tab) : PySem.W.Hook where
  α := AlZ × FnE
  obs := fun s => obsX n cks fn ts s.heap.get?
  val := fun w => (valZ fn ts w, feVal)
  says := fun w h => ∃ K : PySem.W.Frag, K.In h ∧ SaysZ cks fn ts w K ∧ feObs K = feVal
  of := fun _ _ e => ⟨_, frG_in, (Prod.mk.inj e).1, (Prod.mk.inj e).2⟩
  keeps := fun _ _ _ ⟨K, hK, c⟩ k => ⟨K, PySem.W.Frag.In.keeps hK k, c⟩
theorem obsX_eq {n : Nat} {cks : List (PySem.W.Frag → Bool)} {fn : List Fx} {ts : List Tab} {g : Addr → Option Obj} {s : Shared} (h : ∀ a, g a = s.heap.get? a) : obsX n cks fn ts g = (hookX n cks fn ts).obs s := by
  have e : g = s.heap.get? := funext h
  rw [e] <;> rfl
section
variable {p q : Program} {cks : List (PySem.W.Frag → Bool)} {fn : List Fx} {ts : List Tab} {n M : Nat} {loose : List PySem.Str} {r : PySem.W.OpenRow} {w : World}
noncomputable def KX (n : Nat) (s : PySem.W.SharedT) : PySem.W.Frag := frW (getT s) n
theorem runX
    (e1 : ∀ os, lookEnd r M w os (fun s => (lookZ r w s, seenQ q loose (PySem.importedModules r.prog.main.body) (fun s => PySem.W.xlAt q [] s && PySem.W.recOk r.toRowW.records s) s.abs)) (true, PySem.W.openGood q loose))
    (e2 : ∀ os, lookEnd r M w os (fun s => cks.all fun f => f (KX n s)) true)
    (e3 : ∀ os, lookEnd r M w os (fun s => (fn.all (fun d => d.ok (KX n s)), fn.map (fxObs (KX n s)), ts.map fun t => dicW (KX n s) (t.1 (KX n s)))) (true, fn.map Fx.val, ts.map fun t => some (keysIn w.params t.2)))
    (e4 : ∀ os, lookEnd r M w os (fun s => feObs (KX n s)) feVal) :
    RunEq r q (hookX n cks fn ts) (fun s => obsX n cks fn ts (getT s)) M loose w := by
  intro os
  have h1 := e1 os
  have h2 := e2 os
  have h3 := e3 os
  have h4 := e4 os
  unfold lookEnd at h1 h2 h3 h4
  cases q : endF (stepQ (denQ tabQ) r.prog w) M r.prog w os with
  | none =>
    rw [q] at h1
    cases h1
  | some s =>
    rw [q] at h1 h2 h3 h4
    obtain ⟨h11, h12⟩ := Prod.mk.inj (Option.some.inj h1)
    have h2' := Option.some.inj h2
    obtain ⟨h31, h3'⟩ := Prod.mk.inj (Option.some.inj h3)
    obtain ⟨h32, h33⟩ := Prod.mk.inj h3'
    have h4' : feObs (KX n s) = feVal := Option.some.inj h4
    show some (_, _, _) = some (_, _, _)
    have h0 : ((cks.all fun f => f (KX n s)) && fn.all fun d => d.ok (KX n s)) = true := by
      have h2'' : (cks.all fun f => f (KX n s)) = true := h2'
      have h31' : (fn.all fun d => d.ok (KX n s)) = true := h31
      rw [h2'', h31']
      rfl
    refine congrArg some (Prod.ext h11 (Prod.ext h12 (Prod.ext (Prod.ext h0 (Prod.ext h32 h33)) h4')))
end
end Co
namespace Co
/-- what stands under a key, an object -/
def nsA (K : PySem.W.Frag) (a : Addr) (x : Str) : Addr := match PySem.W.nsIn K a x with
  | some (some (.ref b)) => b
  | _ => 0
end Co


set_option Elab.async false
set_option linter.all false
set_option maxRecDepth 100000
set_option maxHeartbeats 4000000
open PySem PySem.Spec PyProof.Rows L2 Co
local macro_rules | `(tactic| walk_at "side") => `(tactic| first | assumption | (refine wide_div (b := 40) ?_ (show _ < 1099511627776 from ?_) (by decide) (by decide) <;> omega) | (dsimp only [CDiv, CPow, CMul, CDivW, CMulW]; omega) | omega | decide)
local macro_rules | `(tactic| walk_at "w1") => `(tactic| first
  | ((with_reducible refine' w_var ?hv ?_); (case hv => exact rfl))
  | (with_reducible refine w_c ?_)
  | (with_reducible refine w_op ?_)
  | (with_reducible refine w_un ?_)
  | (with_reducible refine w_I0 ?_)
  | (with_reducible refine w_p32 ?_)
  | (with_reducible refine w_p31 ?_)
  | (with_reducible refine w_p26 ?_)
  | (with_reducible refine w_p22 ?_)
  | (with_reducible refine w_p20 ?_)
  | (with_reducible refine w_p18 ?_)
  | (with_reducible refine w_p17 ?_)
  | (with_reducible refine w_p16 ?_)
  | (with_reducible refine w_p14 ?_)
  | (with_reducible refine w_p13 ?_)
  | ((with_reducible refine w_I ?hc ?_); (case hc => walk_at "side"))
  | (with_reducible refine w_U ?_)
  | (with_reducible refine w_eqI ?_)
  | (with_reducible refine w_neI ?_)
  | (with_reducible refine w_eqS ?_)
  | ((with_reducible refine w_eq ?hc ?_); (case hc => exact rfl))
  | ((with_reducible refine w_ne ?hc ?_); (case hc => exact rfl))
  | (with_reducible refine w_test ?_)
  | (with_reducible refine w_B ?_)
  | (with_reducible refine w_bl ?_)
  | (with_reducible refine w_if ?_)
  | (with_reducible refine w_ifB ?_)
  | (with_reducible refine w_isB ?_)
  | (with_reducible refine w_notB ?_)
  | (with_reducible refine w_isiInt ?_)
  | (with_reducible refine w_isiIntB ?_)
  | (with_reducible refine w_andT ?_)
  | (with_reducible refine w_orT ?_)
  | (with_reducible refine w_notT ?_)
  | (with_reducible refine w_andV ?_)
  | (with_reducible refine w_orV ?_)
  | (with_reducible refine w_notV ?_)
  | (with_reducible refine w_chain ?_)
  | (with_reducible refine w_seq ?_)
  | (with_reducible refine w_next ?_)
  | (with_reducible refine w_ret ?_)
  | (with_reducible refine w_retN ?_)
  | (with_reducible refine w_ifS ?_)
  | (with_reducible refine w_asg ?_)
  | (with_reducible refine w_name ?_)
  | (with_reducible refine w_drop ?_)
  | (with_reducible refine w_nil ?_)
  | (with_reducible refine w_cons ?_)
  | (with_reducible refine w_call ?_)
  | (with_reducible refine w_cb ?_)
  | (with_reducible refine w_sub ?_)
  | (with_reducible refine w_gNil ?_)
  | (with_reducible refine w_gCons ?_)
  | ((with_reducible refine' w_gTup ?hh ?hn ?_); (case hh => assumption); (case hn => exact rfl))
  | (with_reducible refine w_for ?_)
  | (with_reducible refine w_iL ?_)
  | (with_reducible refine w_iT ?_)
  | (with_reducible refine w_rng1 ?_)
  | (with_reducible refine w_rng2 ?_)
  | (with_reducible refine w_lc ?_)
  | (with_reducible refine w_zST ?_)
  | (with_reducible refine w_sc ?_)
  | ((with_reducible refine' w_aug ?hh ?_); (case hh => exact rfl))
  | (with_reducible refine w_ipI ?_)
  | (with_reducible refine w_iSt ?_)
  | (with_reducible refine w_sl ?_)
  | (with_reducible refine w_part ?_)
  | (with_reducible refine w_noPart ?_)
  | (with_reducible refine w_exI ?_)
  | (with_reducible refine w_m1 ?_)
  | (with_reducible refine w_isS ?_)
  | (with_reducible refine w_starts ?_)
  | (with_reducible refine w_bm ?_)
  | ((with_reducible refine' w_tyL ?hh ?_); (case hh => assumption))
  | (with_reducible refine w_star ?_)
  | (with_reducible refine w_inSg ?_)
  | (with_reducible refine w_yes ?_)
  | (with_reducible refine w_tup ?_)
  | (with_reducible refine w_lst ?_)
  | ((with_reducible refine' w_ixL ?hh ?ha ?_); (case hh => assumption); (case ha => exact rfl))
  | ((with_reducible refine' w_ixT ?hh ?ha ?_); (case hh => assumption); (case ha => exact rfl))
  | ((with_reducible refine' w_setL ?hh ?ha ?_); (case hh => assumption); (case ha => exact rfl))
  | ((with_reducible refine' w_lenL ?hh ?_); (case hh => assumption))
  | (with_reducible refine w_int1 ?_)
  | (with_reducible refine w_abs ?_)
  | (with_reducible refine w_nT ?_)
  | (with_reducible refine w_nF ?_)
  | (with_reducible refine w_itT ?_)
  | (with_reducible refine w_itF ?_)
  | ((with_reducible refine w_spI1 ?hc ?_); (case hc => walk_at "side"))
  | ((with_reducible refine w_spI2 ?hc ?_); (case hc => walk_at "side")))
local macro_rules | `(tactic| walk_at "ws") => `(tactic| repeat (walk_at "w1"))
local macro_rules | `(tactic| walk_at "wd") => `(tactic| repeat (first | walk_at "w1" | (refine w_decT ?hd ?_; (case hd => decide)) | (refine w_decF ?hd ?_; (case hd => decide))))
local macro_rules | `(tactic| walk_at "wr") => `(tactic| repeat (first | walk_at "w1" | (refine w_ndecF rfl ?_)))

namespace K05
def topS (i : Nat) : Stmt := PySem.Challenge.pw_restitch_k05_text_of_instructions.main.body.getD i (.Pass ⟨0, 0, 0, 0⟩)
abbrev s_is_number : Stmt := topS 4
abbrev s_is_word : Stmt := topS 5
abbrev s_is_name : Stmt := topS 6
abbrev s_is_operand : Stmt := topS 14
abbrev s_encode : Stmt := topS 15
abbrev s_RestitchError : Stmt := topS 17
abbrev s_AssemblyError : Stmt := topS 18
abbrev s_AssemblyError_init : Stmt := inClass (topS 18) 0
abbrev s_show_instruction : Stmt := topS 22
abbrev s_show_operand : Stmt := topS 23
abbrev s_assemble : Stmt := topS 24
abbrev s_is_silent : Stmt := topS 25
abbrev s_first_labels : Stmt := topS 26
abbrev s_word_of_line : Stmt := topS 27
abbrev s_may_name_label : Stmt := topS 28
abbrev s_value_of : Stmt := topS 29
abbrev s_number_of : Stmt := topS 30
abbrev s_law_draw : Stmt := topS 32
abbrev s_law_take : Stmt := topS 33
abbrev s_law_ops : Stmt := topS 34
abbrev s_law_word : Stmt := topS 35
abbrev s_law_bytes : Stmt := topS 36
abbrev s_law_label : Stmt := topS 37
abbrev s_law_here : Stmt := topS 38
abbrev s_law_put_word : Stmt := topS 39
abbrev s_law_some : Stmt := topS 40
abbrev s_law_register : Stmt := topS 41
abbrev s_law_set : Stmt := topS 42
abbrev s_law_alu : Stmt := topS 43
abbrev s_law_memory : Stmt := topS 44
abbrev s_law_if : Stmt := topS 45
abbrev s_law_loop : Stmt := topS 46
abbrev s_law_call : Stmt := topS 47
abbrev s_law_switch : Stmt := topS 48
abbrev s_law_rows : Stmt := topS 49
abbrev s_law_odd : Stmt := topS 50
abbrev s_law_code_words : Stmt := topS 51
abbrev s_law_values : Stmt := topS 52
abbrev s_law_image : Stmt := topS 53
abbrev s_law_row : Stmt := topS 54
abbrev s_law_shown : Stmt := topS 55
abbrev s_law_wrong : Stmt := topS 56
abbrev s_law : Stmt := topS 57
theorem sc_law_draw : FnScope ["script", "seed", "cell"] ["script"] (defScope s_law_draw) := ⟨rfl, rfl, rfl, by decide +kernel, rfl, by decide +kernel, by decide +kernel⟩
theorem sc_law_take : FnScope ["draw", "many", "found"] ["draw", "many"] (defScope s_law_take) := ⟨rfl, rfl, rfl, by decide +kernel, rfl, by decide +kernel, by decide +kernel⟩
/-! drawing -/
def mabs (n : Int) : Int := if n < 0 then -n else n
theorem mabs_nn (n : Int) : 0 ≤ mabs n := by unfold mabs; split <;> omega
def DrawC (H : Hp) (d c : Addr) : Prop := ∃ (cs : List Int) (i cur seed : Int), H d = some (.lst [.ref c, .int i, .int cur, .int seed]) ∧ H c = some (.lst (cs.map V.int)) ∧ c ≠ d ∧ -1 ≤ i ∧ 0 ≤ cur ∧ 0 ≤ seed ∧ seed < 2147483647 ∧ ∀ x ∈ cs, 0 ≤ x
theorem DrawC.keep {H H' : Hp} {d c : Addr} (h : DrawC H d c) (s1 : ∀ o, H d = some o → H' d = some o) (s2 : ∀ o, H c = some o → H' c = some o) : DrawC H' d c := by
  obtain ⟨cs, i, cur, seed, hd, hc, r⟩ := h
  exact ⟨cs, i, cur, seed, s1 _ hd, s2 _ hc, r⟩
theorem DrawC.same {H H' : Hp} {d c : Addr} (h : DrawC H d c) (s : Same H H') : DrawC H' d c := h.keep (s d) (s c)
theorem DrawC.ne {H : Hp} {d c p : Addr} (h : DrawC H d c) (np : H p = none) : p ≠ d := by
  obtain ⟨cs, i, cur, seed, e, _⟩ := h
  exact (ne_of_none e np).symm
theorem DrawC.nec {H : Hp} {d c p : Addr} (h : DrawC H d c) (np : H p = none) : p ≠ c := by
  obtain ⟨cs, i, cur, seed, _, e, _⟩ := h
  exact (ne_of_none e np).symm
def spDraw (K : PySem.W.Frag) : Sp := fun vs H Q _ => ∃ (a : Addr) (ns : List Int), vs = [.ref a] ∧ SqL K H a (ns.map V.int) ∧ ns.length ≤ 63 ∧ ∀ (d c : Addr) H', H d = none → H c = none → Same H H' → DrawC H' d c → Q (.ref d) H'
def spTake : Sp := fun vs H Q _ => ∃ (d c : Addr) (m : Int), vs = [.ref d, .int m] ∧ DrawC H d c ∧ 0 < m ∧ m ≤ 4294967296 ∧ ∀ (r : Int) H', 0 ≤ r → r < m → DrawC H' d c → But d H H' → Q (.int r) H'
theorem w_take {H : Hp} {Q : VK} {E : XK} {d c : Addr} {m : Int} (hd : DrawC H d c) (h0 : 0 < m) (h1 : m ≤ 4294967296) (q : ∀ (r : Int) H', 0 ≤ r → r < m → DrawC H' d c → But d H H' → Q (.int r) H') : spTake [.ref d, .int m] H Q E := ⟨d, c, m, rfl, hd, h0, h1, q⟩
section
variable {P : Program} {w : World} {K : PySem.W.Frag} {mg : Str → Option Value} {base : Heap}
theorem ok_take (b_int : mg "int" = none) (b_abs : mg "abs" = none) (b_len : mg "len" = none) (Z : St1 K mg "_law_take" s_law_take ["draw", "many"]) : Cd P w K mg base 1 "_law_take" spTake := by
  refine Z.cd sc_law_take (fun vs H Q E h => by obtain ⟨d, c, m, rfl, _⟩ := h; rfl) (fun f cdv A outer s H vs Q E hr h => ?_)
  obtain ⟨d, c, m, rfl, ⟨cs, i, cur, seed, hd, hc, ncd, hi, hcur, hs0, hs1, hcs⟩, hm0, hm1, q⟩ := h
  refine ⟨_, (Evl.pss_cut (ps_if (pt_cmpR op_eq (pe_ix ix_list (pv 0) pe_int (fun _ _ => rfl)) pe_int (nomark _)) (pss_cons (ps_asg (pe_op op_add (pe_ix ix_list (pv 0) pe_int (fun _ _ => rfl)) pe_int) (pg_sub (pv 0) pe_int set_list))
      (Evl.pss_cut (ps_if (pt_cmpR op_lt (pe_ix ix_list (pv 0) pe_int (fun _ _ => rfl)) (pe_callB call_lenQ (by rfl) b_len PySem.boot_len (pa_cons (pe_ix ix_list (pv 0) pe_int (fun _ _ => rfl)) pa_nil)) (nomark _)) (pss_one (ps_asg (pe_ix ix_list (pe_ix ix_list (pv 0) pe_int (fun _ _ => rfl)) (pe_ix ix_list (pv 0) pe_int (fun _ _ => rfl)) (fun _ _ => rfl)) (pg_sub (pv 0) pe_int set_list))) pss_nil)
      (pss_one (ps_if (pt_cmpR op_eq (pe_ix ix_list (pv 0) pe_int (fun _ _ => rfl)) pe_int (nomark _)) (pss_cons (ps_asg (pe_op op_mod (pe_callTy call_intQ (by rfl) b_int (by decide +kernel) (pa_cons (pe_op op_add (pe_op op_mul (pe_ix ix_list (pv 0) pe_int (fun _ _ => rfl)) pe_int) pe_int) pa_nil)) pe_int) (pg_sub (pv 0) pe_int set_list))
      (pss_one (ps_asg (pe_ix ix_list (pv 0) pe_int (fun _ _ => rfl)) (pg_sub (pv 0) pe_int set_list)))) pss_nil)))) pss_nil)
      (pss_cons (ps_set (i := 2) sc_law_take.nd rfl (.inl rfl) (pe_op op_mod (pe_callTy call_intQ (by rfl) b_int (by decide +kernel) (pa_cons (pe_ix ix_list (pv 0) pe_int (fun _ _ => rfl)) pa_nil)) (pv 1)))
      (pss_cons (ps_asg (pe_op op_fdivW (pe_ix ix_list (pv 0) pe_int (fun _ _ => rfl)) (pv 1)) (pg_sub (pv 0) pe_int set_list))
      (pss_one (ps_ret (pv 2)))))), ?_⟩
  refine Evl.q_cut (M := fun σ' H' => σ' = [some (.ref d), some (.int m), none] ∧ But d H H' ∧ ∃ i' cur' seed', H' d = some (.lst [.ref c, .int i', .int cur', .int seed']) ∧ H' c = some (.lst (cs.map V.int)) ∧ -1 ≤ i' ∧ 0 ≤ cur' ∧ 0 ≤ seed' ∧ seed' < 2147483647) ?_ ?_
  · (with_reducible refine w_ifS ?_)
    (with_reducible refine w_test ?_)
    (with_reducible refine w_op ?_)
    (with_reducible refine w_op ?_)
    ((with_reducible refine' w_var ?hv ?_); (case hv => exact rfl))
    (with_reducible refine w_c ?_)
    ((with_reducible refine' w_ixL ?hh ?ha ?_); (case hh => assumption); (case ha => exact rfl))
    (with_reducible refine w_c ?_)
    (with_reducible refine w_eqI ?_)
    (with_reducible refine w_bl ?_)
    refine w_dec (fun e => ?_) (fun e => ?_)
    · (with_reducible refine w_seq ?_)
      (with_reducible refine w_asg ?_)
      (with_reducible refine w_op ?_)
      (with_reducible refine w_op ?_)
      ((with_reducible refine' w_var ?hv ?_); (case hv => exact rfl))
      (with_reducible refine w_c ?_)
      ((with_reducible refine' w_ixL ?hh ?ha ?_); (case hh => assumption); (case ha => exact rfl))
      (with_reducible refine w_c ?_)
      (with_reducible refine w_I0 ?_)
      (with_reducible refine w_sub ?_)
      ((with_reducible refine' w_var ?hv ?_); (case hv => exact rfl))
      (with_reducible refine w_c ?_)
      ((with_reducible refine' w_setL ?hh ?ha ?_); (case hh => assumption); (case ha => exact rfl))
      intro H1 hd1 bt1
      replace hd1 : H1 d = some (.lst [.ref c, .int (i + 1), .int cur, .int seed]) := hd1
      have hc1 : H1 c = some (.lst (cs.map V.int)) := bt1 c _ ncd hc
      skip
      refine Evl.q_cut (M := fun σ' H' => σ' = [some (.ref d), some (.int m), none] ∧ But d H H' ∧ ∃ cur', H' d = some (.lst [.ref c, .int (i + 1), .int cur', .int seed]) ∧ 0 ≤ cur') ?_ ?_
      · (with_reducible refine w_ifS ?_)
        (with_reducible refine w_test ?_)
        (with_reducible refine w_op ?_)
        (with_reducible refine w_op ?_)
        ((with_reducible refine' w_var ?hv ?_); (case hv => exact rfl))
        (with_reducible refine w_c ?_)
        ((with_reducible refine' w_ixL ?hh ?ha ?_); (case hh => assumption); (case ha => exact rfl))
        (with_reducible refine w_cb ?_)
        (with_reducible refine w_cons ?_)
        (with_reducible refine w_op ?_)
        ((with_reducible refine' w_var ?hv ?_); (case hv => exact rfl))
        (with_reducible refine w_c ?_)
        ((with_reducible refine' w_ixL ?hh ?ha ?_); (case hh => assumption); (case ha => exact rfl))
        (with_reducible refine w_nil ?_)
        ((with_reducible refine' w_lenL ?hh ?_); (case hh => assumption))
        (with_reducible refine w_I0 ?_)
        (with_reducible refine w_bl ?_)
        refine w_dec (fun e2 => ?_) (fun e2 => ?_)
        · (with_reducible refine w_asg ?_)
          (with_reducible refine w_op ?_)
          (with_reducible refine w_op ?_)
          ((with_reducible refine' w_var ?hv ?_); (case hv => exact rfl))
          (with_reducible refine w_c ?_)
          ((with_reducible refine' w_ixL ?hh ?ha ?_); (case hh => assumption); (case ha => exact rfl))
          (with_reducible refine w_op ?_)
          ((with_reducible refine' w_var ?hv ?_); (case hv => exact rfl))
          (with_reducible refine w_c ?_)
          ((with_reducible refine' w_ixL ?hh ?ha ?_); (case hh => assumption); (case ha => exact rfl))
          have l1 : (cs.map V.int).length = cs.length := List.length_map ..
          have hlt : (i + 1).toNat < cs.length := by omega
          refine w_ixL (v := .int cs[(i + 1).toNat]) hc1 (atI_of (by omega) ?_) ?_
          · rw [List.getElem?_map, List.getElem?_eq_getElem hlt]; rfl
          (with_reducible refine w_sub ?_)
          ((with_reducible refine' w_var ?hv ?_); (case hv => exact rfl))
          (with_reducible refine w_c ?_)
          ((with_reducible refine' w_setL ?hh ?ha ?_); (case hh => assumption); (case ha => exact rfl))
          intro H2 hd2 bt2
          skip
          exact ⟨rfl, bt1.trans bt2, _, hd2, hcs _ (List.getElem_mem hlt)⟩
        · (with_reducible refine w_next ?_)
          exact ⟨rfl, bt1, cur, hd1, hcur⟩
      · rintro σ' H2 ⟨rfl, bt2, cur2, hd2, hcur2⟩
        (with_reducible refine w_ifS ?_)
        (with_reducible refine w_test ?_)
        (with_reducible refine w_op ?_)
        (with_reducible refine w_op ?_)
        ((with_reducible refine' w_var ?hv ?_); (case hv => exact rfl))
        (with_reducible refine w_c ?_)
        ((with_reducible refine' w_ixL ?hh ?ha ?_); (case hh => assumption); (case ha => exact rfl))
        (with_reducible refine w_c ?_)
        (with_reducible refine w_eqI ?_)
        (with_reducible refine w_bl ?_)
        have hc2 : H2 c = some (.lst (cs.map V.int)) := bt2 c _ ncd hc
        refine w_dec (fun e2 => ?_) (fun e2 => ?_)
        · (with_reducible refine w_seq ?_)
          (with_reducible refine w_asg ?_)
          (with_reducible refine w_op ?_)
          (with_reducible refine w_cb ?_)
          (with_reducible refine w_cons ?_)
          (with_reducible refine w_op ?_)
          (with_reducible refine w_op ?_)
          (with_reducible refine w_op ?_)
          ((with_reducible refine' w_var ?hv ?_); (case hv => exact rfl))
          (with_reducible refine w_c ?_)
          ((with_reducible refine' w_ixL ?hh ?ha ?_); (case hh => assumption); (case ha => exact rfl))
          (with_reducible refine w_c ?_)
          ((with_reducible refine w_I ?hc ?_); (case hc => walk_at "side"))
          (with_reducible refine w_c ?_)
          (with_reducible refine w_I0 ?_)
          (with_reducible refine w_nil ?_)
          (with_reducible refine w_int1 ?_)
          (with_reducible refine w_c ?_)
          ((with_reducible refine w_I ?hc ?_); (case hc => walk_at "side"))
          (with_reducible refine w_sub ?_)
          ((with_reducible refine' w_var ?hv ?_); (case hv => exact rfl))
          (with_reducible refine w_c ?_)
          ((with_reducible refine' w_setL ?hh ?ha ?_); (case hh => assumption); (case ha => exact rfl))
          intro H3 hd3 bt3
          replace hd3 : H3 d = some (.lst [.ref c, .int (i + 1), .int cur2, .int ((seed * 48271 + 11) % 2147483647)]) := hd3
          (with_reducible refine w_asg ?_)
          (with_reducible refine w_op ?_)
          ((with_reducible refine' w_var ?hv ?_); (case hv => exact rfl))
          (with_reducible refine w_c ?_)
          ((with_reducible refine' w_ixL ?hh ?ha ?_); (case hh => assumption); (case ha => exact rfl))
          (with_reducible refine w_sub ?_)
          ((with_reducible refine' w_var ?hv ?_); (case hv => exact rfl))
          (with_reducible refine w_c ?_)
          ((with_reducible refine' w_setL ?hh ?ha ?_); (case hh => assumption); (case ha => exact rfl))
          intro H4 hd4 bt4
          replace hd4 : H4 d = some (.lst [.ref c, .int (i + 1), .int ((seed * 48271 + 11) % 2147483647), .int ((seed * 48271 + 11) % 2147483647)]) := hd4
          have g1 : 0 ≤ (seed * 48271 + 11) % 2147483647 := Int.emod_nonneg _ (by omega)
          have g2 : (seed * 48271 + 11) % 2147483647 < 2147483647 := Int.emod_lt_of_pos _ (by omega)
          exact ⟨rfl, bt2.trans (bt3.trans bt4), _, _, _, hd4, bt4 c _ ncd (bt3 c _ ncd hc2), by omega, g1, g1, g2⟩
        · (with_reducible refine w_next ?_)
          exact ⟨rfl, bt2, _, _, _, hd2, hc2, by omega, hcur2, hs0, hs1⟩
    · (with_reducible refine w_next ?_)
      exact ⟨rfl, But.refl _ _, i, cur, seed, hd, hc, hi, hcur, hs0, hs1⟩
  · rintro σ' H' ⟨rfl, bt, i', cur', seed', hd', hc', hi', hcur', hs0', hs1'⟩
    (with_reducible refine w_seq ?_)
    (with_reducible refine w_asg ?_)
    (with_reducible refine w_op ?_)
    (with_reducible refine w_cb ?_)
    (with_reducible refine w_cons ?_)
    (with_reducible refine w_op ?_)
    ((with_reducible refine' w_var ?hv ?_); (case hv => exact rfl))
    (with_reducible refine w_c ?_)
    ((with_reducible refine' w_ixL ?hh ?ha ?_); (case hh => assumption); (case ha => exact rfl))
    (with_reducible refine w_nil ?_)
    (with_reducible refine w_int1 ?_)
    ((with_reducible refine' w_var ?hv ?_); (case hv => exact rfl))
    ((with_reducible refine w_I ?hc ?_); (case hc => walk_at "side"))
    (with_reducible refine w_name ?_)
    (with_reducible refine w_seq ?_)
    (with_reducible refine w_asg ?_)
    (with_reducible refine w_op ?_)
    (with_reducible refine w_op ?_)
    ((with_reducible refine' w_var ?hv ?_); (case hv => exact rfl))
    (with_reducible refine w_c ?_)
    ((with_reducible refine' w_ixL ?hh ?ha ?_); (case hh => assumption); (case ha => exact rfl))
    ((with_reducible refine' w_var ?hv ?_); (case hv => exact rfl))
    ((with_reducible refine w_I ?hc ?_); (case hc => walk_at "side"))
    (with_reducible refine w_sub ?_)
    ((with_reducible refine' w_var ?hv ?_); (case hv => exact rfl))
    (with_reducible refine w_c ?_)
    ((with_reducible refine' w_setL ?hh ?ha ?_); (case hh => assumption); (case ha => exact rfl))
    intro H1 hd1 bt1
    replace hd1 : H1 d = some (.lst [.ref c, .int i', .int (cur' / m), .int seed']) := hd1
    (with_reducible refine w_ret ?_)
    ((with_reducible refine' w_var ?hv ?_); (case hv => exact rfl))
    refine q (cur' % m) H1 (Int.emod_nonneg _ (by omega)) (Int.emod_lt_of_pos _ hm0) ⟨cs, i', cur' / m, seed', hd1, bt1 c _ ncd hc', ncd, hi', Int.ediv_nonneg hcur' (by omega), hs0', hs1', hcs⟩ (bt.trans bt1)
theorem ok_draw (b_int : mg "int" = none) (b_abs : mg "abs" = none) (b_len : mg "len" = none) (Z : St1 K mg "_law_draw" s_law_draw ["script"]) : Cd P w K mg base 1 "_law_draw" (spDraw K) := by
  refine Z.cd sc_law_draw (fun vs H Q E h => by obtain ⟨d, m, rfl, _⟩ := h; rfl) (fun f cdv A outer s H vs Q E hr h => ?_)
  obtain ⟨a, ns, rfl, hS, hlen, q⟩ := h
  refine ⟨_, (pss_cons (ps_set (i := 1) sc_law_draw.nd rfl (.inl rfl) pe_int)
      (pss_cons (ps_for PassesOwn.never rfl (pi_list (pv 0)) (pg_name (i := 2) sc_law_draw.nd rfl (.inl rfl))
      (pss_one (ps_set (i := 1) sc_law_draw.nd rfl (.inl rfl) (pe_op op_mod (pe_callTy call_intQ (by rfl) b_int (by decide +kernel) (pa_cons (pe_op op_add (pe_op op_add (pe_op op_mul (pv 1) pe_int) (pe_op op_mod (pe_callB call_absQ (by rfl) b_abs (by decide +kernel) (pa_cons (pe_callTy call_intQ (by rfl) b_int (by decide +kernel) (pa_cons (pv 2) pa_nil)) pa_nil)) pe_int)) pe_int) pa_nil)) pe_int))))
      (pss_one (ps_ret (pe_lst (pa_cons (pe_lc (own := [("cell", 2)]) rfl sc_law_draw.nd (pi_list (pv 0)) (blkOk_by (own := [("cell", 2)]) (N := ["script", "seed", "cell"]) (sc := (defScope s_law_draw)) (by decide +kernel)) (fun _ _ _ _ _ => (pg_name (i := 2) sc_law_draw.nd rfl (.inl rfl))) (fun _ _ _ _ _ => pts_nil) (fun _ _ _ _ _ => (pe_callB call_absQ (by rfl) b_abs (by decide +kernel) (pa_cons (pe_callTy call_intQ (by rfl) b_int (by decide +kernel) (pa_cons (pv 2) pa_nil)) pa_nil)))) (pa_cons (pe_un un_neg pe_int) (pa_cons pe_int (pa_cons (pv 1) pa_nil))))))))), ?_⟩
  (with_reducible refine w_seq ?_)
  (with_reducible refine w_asg ?_)
  (with_reducible refine w_c ?_)
  (with_reducible refine w_name ?_)
  (with_reducible refine w_seq ?_)
  (with_reducible refine w_for ?_)
  (with_reducible refine w_iL ?_)
  ((with_reducible refine' w_var ?hv ?_); (case hv => exact rfl))
  refine w_forL (ns.map V.int) (fun i σ' H' => H' = H ∧ ∃ (y : Option V) (seed : Int), σ' = [some (.ref a), some (.int seed), y] ∧ 0 ≤ seed ∧ seed < 2147483647) hS ⟨rfl, none, 7, rfl, by decide, by decide⟩ (fun i σ' H' _ ⟨e, _⟩ => by rw [e]; exact hS) ?_ ?_
  · rintro i x σ' H' hx ⟨rfl, y, seed, rfl, h0, h1⟩
    obtain ⟨n, _, rfl⟩ := map_get hx
    (with_reducible refine w_name ?_)
    (with_reducible refine w_asg ?_)
    (with_reducible refine w_op ?_)
    (with_reducible refine w_cb ?_)
    (with_reducible refine w_cons ?_)
    (with_reducible refine w_op ?_)
    (with_reducible refine w_op ?_)
    (with_reducible refine w_op ?_)
    ((with_reducible refine' w_var ?hv ?_); (case hv => exact rfl))
    (with_reducible refine w_c ?_)
    ((with_reducible refine w_I ?hc ?_); (case hc => walk_at "side"))
    (with_reducible refine w_op ?_)
    (with_reducible refine w_cb ?_)
    (with_reducible refine w_cons ?_)
    (with_reducible refine w_cb ?_)
    (with_reducible refine w_cons ?_)
    ((with_reducible refine' w_var ?hv ?_); (case hv => exact rfl))
    (with_reducible refine w_nil ?_)
    (with_reducible refine w_int1 ?_)
    (with_reducible refine w_nil ?_)
    (with_reducible refine w_abs ?_)
    (with_reducible refine w_c ?_)
    ((with_reducible refine w_I ?hc ?_); (case hc => walk_at "side"))
    (with_reducible refine w_I0 ?_)
    (with_reducible refine w_c ?_)
    (with_reducible refine w_I0 ?_)
    (with_reducible refine w_nil ?_)
    (with_reducible refine w_int1 ?_)
    (with_reducible refine w_c ?_)
    ((with_reducible refine w_I ?hc ?_); (case hc => walk_at "side"))
    (with_reducible refine w_name ?_)
    refine ⟨rfl, _, _, rfl, Int.emod_nonneg _ (by omega), Int.emod_lt_of_pos _ (by omega)⟩
  · rintro σ' H' ⟨rfl, y, seed, rfl, h0, h1⟩
    (with_reducible refine w_ret ?_)
    (with_reducible refine w_lst ?_)
    (with_reducible refine w_cons ?_)
    (with_reducible refine w_lc ?_)
    (with_reducible refine w_iL ?_)
    ((with_reducible refine' w_var ?hv ?_); (case hv => exact rfl))
    refine w_lcL (ns.map V.int) (fun c i H2 => H' c = none ∧ Same H' H2 ∧ H2 c = some (.lst (((ns.take i).map mabs).map V.int))) hS (fun c nc => ⟨nc, Same.new nc, upd_same⟩) (fun c i H2 _ ⟨_, e, _⟩ => e.seq hS) ?_ ?_
    · rintro c i x H2 hx ⟨nc, sm, hc⟩
      obtain ⟨n, hn, rfl⟩ := map_get hx
      (with_reducible refine w_name ?_)
      refine ⟨rfl, ?_⟩
      (with_reducible refine w_yes ?_)
      (with_reducible refine w_itT ?_)
      (with_reducible refine w_cb ?_)
      (with_reducible refine w_cons ?_)
      (with_reducible refine w_cb ?_)
      (with_reducible refine w_cons ?_)
      ((with_reducible refine' w_var ?hv ?_); (case hv => exact rfl))
      (with_reducible refine w_nil ?_)
      (with_reducible refine w_int1 ?_)
      (with_reducible refine w_nil ?_)
      (with_reducible refine w_abs ?_)
      have hi : i < ns.length := (List.getElem?_eq_some_iff.mp hn).1
      refine ⟨_, hc, by simp only [List.length_map, List.length_take]; exact small1000 (by omega), nc, ?_, ?_⟩
      · exact fun b o e => by rw [upd_ne (ne_of_none e nc)]; exact sm b o e
      · rw [upd_same, take_more hn, List.map_append, List.map_append]; rfl
    · rintro c H2 nc ⟨_, sm, hc⟩
      (with_reducible refine w_cons ?_)
      (with_reducible refine w_un ?_)
      (with_reducible refine w_c ?_)
      (with_reducible refine w_U ?_)
      (with_reducible refine w_cons ?_)
      (with_reducible refine w_c ?_)
      (with_reducible refine w_cons ?_)
      ((with_reducible refine' w_var ?hv ?_); (case hv => exact rfl))
      (with_reducible refine w_nil ?_)
      refine w_kLst (by show 4 ≤ sizeLine; decide) fun d H3 nd sm3 hd => ?_
      have hdc : c ≠ d := ne_of_none hc nd
      rw [List.length_map, List.take_length] at hc
      refine q d c _ (sm.free nd) nc (sm.trans sm3) ⟨ns.map mabs, -1, 0, seed, hd, sm3 _ _ hc, hdc, by decide, by decide, h0, h1, fun x hx => ?_⟩
      obtain ⟨n, _, rfl⟩ := List.mem_map.mp hx
      exact mabs_nn n
end
end K05

namespace K05
def topFile : PySem.Str := "/claim/cut.py"
def cks0 : List (PySem.W.Frag → Bool) := [fun K => gloZ "is_number" K,
  fun K => gloZ "is_word" K,
  fun K => gloZ "is_name" K,
  fun K => gloZ "is_operand" K,
  fun K => gloZ "encode" K,
  fun K => gloZ "show_instruction" K,
  fun K => gloZ "_show_operand" K,
  fun K => gloZ "assemble" K,
  fun K => gloZ "_is_silent" K,
  fun K => gloZ "_first_labels" K,
  fun K => gloZ "_word_of_line" K,
  fun K => gloZ "_may_name_label" K,
  fun K => gloZ "_value_of" K,
  fun K => gloZ "_number_of" K,
  fun K => gloZ "_law_draw" K,
  fun K => gloZ "_law_take" K,
  fun K => gloZ "_law_ops" K,
  fun K => gloZ "_law_word" K,
  fun K => gloZ "_law_row" K,
  fun K => gloZ "_law_shown" K,
  fun K => gloZ "_law_wrong" K,
  fun K => gloZ "law" K,
  fun K => (He.Fa.int "MASK" 4294967295).ok K,
  fun K => (He.Fa.str "LETTERS" "abcdefghijklmnopqrstuvwxyz").ok K,
  fun K => (He.Fa.str "NAME_CHARACTERS" "abcdefghijklmnopqrstuvwxyz0123456789_").ok K,
  fun K => (He.Fa.int "LOW_14" 16383).ok K,
  fun K => (He.Fa.int "LOW_18" 262143).ok K,
  fun K => (He.Fa.str "DIGITS" "0123456789").ok K,
  fun K => (He.Fa.int "LONGEST_NUMBER" 11).ok K,
  fun K => (He.Fa.free "abs").ok K]
def cks1 : List (PySem.W.Frag → Bool) := [fun K => (He.Fa.free "all").ok K,
  fun K => (He.Fa.free "bool").ok K,
  fun K => (He.Fa.free "enumerate").ok K,
  fun K => (He.Fa.free "int").ok K,
  fun K => (He.Fa.free "isinstance").ok K,
  fun K => (He.Fa.free "len").ok K,
  fun K => (He.Fa.free "range").ok K,
  fun K => (He.Fa.free "str").ok K,
  fun K => (He.Fa.free "zip").ok K,
  fun K => exZ topFile K,
  fun K => tupZ K (He.ga K "OPS") (([.str "add", .str "sub", .str "mul", .str "and", .str "or", .str "xor", .str "shl", .str "shr", .str "sar", .str "slt", .str "sltu", .str "divu"] : List V) ++ ([.str "remu", .str "addi", .str "andi", .str "ori", .str "xori", .str "shli", .str "shri", .str "sari", .str "slti", .str "lui", .str "lw", .str "lb"] : List V) ++ ([.str "lbu", .str "sw", .str "sb", .str "beq", .str "bne", .str "blt", .str "bge", .str "bltu", .str "bgeu", .str "jal", .str "jalr", .str "get"] : List V) ++ ([.str "put", .str "exit"] : List V)),
  fun K => tupZ K (nsA K (He.ga K "BOUNDS") "d") [.int (0), .int (15)],
  fun K => tupZ K (nsA K (He.ga K "BOUNDS") "s") [.int (0), .int (15)],
  fun K => tupZ K (nsA K (He.ga K "BOUNDS") "i") [.int (-8192), .int (8191)],
  fun K => tupZ K (nsA K (He.ga K "BOUNDS") "j") [.int (-131072), .int (131071)],
  fun K => tupZ K (nsA K (He.ga K "BOUNDS") "u") [.int (0), .int (262143)],
  fun K => tupZ K (He.ga K "BRANCHES") (([.str "beq", .str "bne", .str "blt", .str "bge", .str "bltu", .str "bgeu"] : List V)),
  fun K => gloZ "OPS" K,
  fun K => gloZ "FORMS" K,
  fun K => strZ K (He.ga K "FORMS") "add" "dss",
  fun K => strZ K (He.ga K "FORMS") "sub" "dss",
  fun K => strZ K (He.ga K "FORMS") "mul" "dss",
  fun K => strZ K (He.ga K "FORMS") "and" "dss",
  fun K => strZ K (He.ga K "FORMS") "or" "dss",
  fun K => strZ K (He.ga K "FORMS") "xor" "dss",
  fun K => strZ K (He.ga K "FORMS") "shl" "dss",
  fun K => strZ K (He.ga K "FORMS") "shr" "dss",
  fun K => strZ K (He.ga K "FORMS") "sar" "dss",
  fun K => strZ K (He.ga K "FORMS") "slt" "dss",
  fun K => strZ K (He.ga K "FORMS") "sltu" "dss"]
def cks2 : List (PySem.W.Frag → Bool) := [fun K => strZ K (He.ga K "FORMS") "divu" "dss",
  fun K => strZ K (He.ga K "FORMS") "remu" "dss",
  fun K => strZ K (He.ga K "FORMS") "addi" "dsi",
  fun K => strZ K (He.ga K "FORMS") "andi" "dsi",
  fun K => strZ K (He.ga K "FORMS") "ori" "dsi",
  fun K => strZ K (He.ga K "FORMS") "xori" "dsi",
  fun K => strZ K (He.ga K "FORMS") "shli" "dsi",
  fun K => strZ K (He.ga K "FORMS") "shri" "dsi",
  fun K => strZ K (He.ga K "FORMS") "sari" "dsi",
  fun K => strZ K (He.ga K "FORMS") "slti" "dsi",
  fun K => strZ K (He.ga K "FORMS") "lui" "du",
  fun K => strZ K (He.ga K "FORMS") "lw" "dsi",
  fun K => strZ K (He.ga K "FORMS") "lb" "dsi",
  fun K => strZ K (He.ga K "FORMS") "lbu" "dsi",
  fun K => strZ K (He.ga K "FORMS") "sw" "ssi",
  fun K => strZ K (He.ga K "FORMS") "sb" "ssi",
  fun K => strZ K (He.ga K "FORMS") "beq" "ssi",
  fun K => strZ K (He.ga K "FORMS") "bne" "ssi",
  fun K => strZ K (He.ga K "FORMS") "blt" "ssi",
  fun K => strZ K (He.ga K "FORMS") "bge" "ssi",
  fun K => strZ K (He.ga K "FORMS") "bltu" "ssi",
  fun K => strZ K (He.ga K "FORMS") "bgeu" "ssi",
  fun K => strZ K (He.ga K "FORMS") "jal" "dj",
  fun K => strZ K (He.ga K "FORMS") "jalr" "dsi",
  fun K => strZ K (He.ga K "FORMS") "get" "d",
  fun K => strZ K (He.ga K "FORMS") "put" "s",
  fun K => strZ K (He.ga K "FORMS") "exit" "s",
  fun K => gloZ "BOUNDS" K,
  fun K => nsZ K (He.ga K "BOUNDS") "d" (some (.ref (nsA K (He.ga K "BOUNDS") "d"))),
  fun K => nsZ K (He.ga K "BOUNDS") "s" (some (.ref (nsA K (He.ga K "BOUNDS") "s")))]
def cks3 : List (PySem.W.Frag → Bool) := [fun K => nsZ K (He.ga K "BOUNDS") "i" (some (.ref (nsA K (He.ga K "BOUNDS") "i"))),
  fun K => nsZ K (He.ga K "BOUNDS") "j" (some (.ref (nsA K (He.ga K "BOUNDS") "j"))),
  fun K => nsZ K (He.ga K "BOUNDS") "u" (some (.ref (nsA K (He.ga K "BOUNDS") "u"))),
  fun K => nsZ K (He.ga K "FORMS") "mov" none,
  fun K => nsZ K (He.ga K "FORMS") "a:b" none,
  fun K => gloZ "BRANCHES" K]
abbrev cks : List (PySem.W.Frag → Bool) := cks0 ++ cks1 ++ cks2 ++ cks3
def fns0 : List Fx := [⟨fun K => He.ga K "is_number", "is_number", "is_number", s_is_number⟩,
  ⟨fun K => He.ga K "is_word", "is_word", "is_word", s_is_word⟩,
  ⟨fun K => He.ga K "is_name", "is_name", "is_name", s_is_name⟩,
  ⟨fun K => He.ga K "is_operand", "is_operand", "is_operand", s_is_operand⟩,
  ⟨fun K => He.ga K "encode", "encode", "encode", s_encode⟩,
  ⟨fun K => He.ga K "show_instruction", "show_instruction", "show_instruction", s_show_instruction⟩,
  ⟨fun K => He.ga K "_show_operand", "_show_operand", "_show_operand", s_show_operand⟩,
  ⟨fun K => He.ga K "assemble", "assemble", "assemble", s_assemble⟩,
  ⟨fun K => He.ga K "_is_silent", "_is_silent", "_is_silent", s_is_silent⟩,
  ⟨fun K => He.ga K "_first_labels", "_first_labels", "_first_labels", s_first_labels⟩,
  ⟨fun K => He.ga K "_word_of_line", "_word_of_line", "_word_of_line", s_word_of_line⟩,
  ⟨fun K => He.ga K "_may_name_label", "_may_name_label", "_may_name_label", s_may_name_label⟩,
  ⟨fun K => He.ga K "_value_of", "_value_of", "_value_of", s_value_of⟩,
  ⟨fun K => He.ga K "_number_of", "_number_of", "_number_of", s_number_of⟩,
  ⟨fun K => He.ga K "_law_draw", "_law_draw", "_law_draw", s_law_draw⟩,
  ⟨fun K => He.ga K "_law_take", "_law_take", "_law_take", s_law_take⟩,
  ⟨fun K => He.ga K "_law_ops", "_law_ops", "_law_ops", s_law_ops⟩,
  ⟨fun K => He.ga K "_law_word", "_law_word", "_law_word", s_law_word⟩,
  ⟨fun K => He.ga K "_law_row", "_law_row", "_law_row", s_law_row⟩,
  ⟨fun K => He.ga K "_law_shown", "_law_shown", "_law_shown", s_law_shown⟩,
  ⟨fun K => He.ga K "_law_wrong", "_law_wrong", "_law_wrong", s_law_wrong⟩,
  ⟨fun K => He.ga K "law", "law", "law", s_law⟩]
abbrev fns : List Fx := fns0
def tabs0 : List He.Tab := [(fun K => (He.ga K "FORMS"), (["add", "sub", "mul", "and", "or", "xor", "shl", "shr", "sar", "slt", "sltu", "divu"] : List Str) ++ (["remu", "addi", "andi", "ori", "xori", "shli", "shri", "sari", "slti", "lui", "lw", "lb"] : List Str) ++ (["lbu", "sw", "sb", "beq", "bne", "blt", "bge", "bltu", "bgeu", "jal", "jalr", "get"] : List Str) ++ (["put", "exit"] : List Str)),
  (fun K => (He.ga K "BOUNDS"), (["d", "s", "i", "j", "u"] : List Str))]
abbrev tabs : List He.Tab := tabs0
def topN0 : List PySem.Str := ["MASK",
  "LETTERS",
  "NAME_CHARACTERS",
  "is_number",
  "is_word",
  "is_name",
  "OPS",
  "FORMS",
  "LOW_14",
  "LOW_18",
  "BOUNDS",
  "BRANCHES",
  "is_operand",
  "encode",
  "RestitchError"]
def topN1 : List PySem.Str := ["AssemblyError",
  "DIGITS",
  "LONGEST_NUMBER",
  "show_instruction",
  "_show_operand",
  "assemble",
  "_is_silent",
  "_first_labels",
  "_word_of_line",
  "_may_name_label",
  "_value_of",
  "_number_of",
  "_law_draw",
  "_law_take",
  "_law_ops"]
def topN2 : List PySem.Str := ["_law_word",
  "_law_bytes",
  "_law_label",
  "_law_here",
  "_law_put_word",
  "_law_some",
  "_law_register",
  "_law_set",
  "_law_alu",
  "_law_memory",
  "_law_if",
  "_law_loop",
  "_law_call",
  "_law_switch",
  "_law_rows"]
def topN3 : List PySem.Str := ["_law_odd",
  "_law_code_words",
  "_law_values",
  "_law_image",
  "_law_row",
  "_law_shown",
  "_law_wrong"]
abbrev topN : List PySem.Str := topN0 ++ topN1 ++ topN2 ++ topN3
abbrev RwZ : PySem.W.OpenRow := PySem.W.OpenLaw.row PySem.Challenge.rw_restitch_k05_text_of_instructions
abbrev hk : PySem.W.Hook := hookX 5 cks fns tabs
def ob (s : PySem.W.SharedT) : AlZ × FnE := obsX 5 cks fns tabs (HandSHeadRun.getT s)
theorem ob_eq (s : PySem.W.SharedT) : ob s = hk.obs s.abs := obsX_eq (HandSHeadRun.getT_eq s)
set_option maxHeartbeats 0 in
theorem rf1 (w : World) (os : OsState) : lookEnd RwZ 12000 (w.withFollow "special-get-raises" false) os (fun s => (lookZ RwZ (w.withFollow "special-get-raises" false) s, HandSHeadRun.seenQ (PySem.W.view RwZ.prog [57]) topN (PySem.importedModules RwZ.prog.main.body) (fun s => PySem.W.xlAt (PySem.W.view RwZ.prog [57]) [] s && PySem.W.recOk RwZ.toRowW.records s) s.abs)) (true, PySem.W.openGood (PySem.W.view RwZ.prog [57]) topN) := by
  unfold lookEnd
  kernel_rfl
set_option maxHeartbeats 0 in
theorem rf2 (w : World) (os : OsState) : lookEnd RwZ 12000 (w.withFollow "special-get-raises" false) os (fun s => cks.all fun f => f (KX 5 s)) true := by
  unfold lookEnd
  kernel_rfl
set_option maxHeartbeats 0 in
theorem rf4 (w : World) (os : OsState) : lookEnd RwZ 12000 (w.withFollow "special-get-raises" false) os (fun s => feObs (KX 5 s)) feVal := by
  unfold lookEnd
  kernel_rfl
set_option maxHeartbeats 0 in
theorem rf3 (w : World) (os : OsState) : lookEnd RwZ 12000 (w.withFollow "special-get-raises" false) os (fun s => (fns.all (fun d => d.ok (KX 5 s)), fns.map (fxObs (KX 5 s)), tabs.map fun t => He.dicW (KX 5 s) (t.1 (KX 5 s)))) (true, fns.map Fx.val, tabs.map fun t => some (He.keysIn (World.params (w.withFollow "special-get-raises" false)) t.2)) := by
  unfold lookEnd
  kernel_rfl
set_option maxHeartbeats 0 in
theorem rt1 (w : World) (os : OsState) : lookEnd RwZ 12000 (w.withFollow "special-get-raises" true) os (fun s => (lookZ RwZ (w.withFollow "special-get-raises" true) s, HandSHeadRun.seenQ (PySem.W.view RwZ.prog [57]) topN (PySem.importedModules RwZ.prog.main.body) (fun s => PySem.W.xlAt (PySem.W.view RwZ.prog [57]) [] s && PySem.W.recOk RwZ.toRowW.records s) s.abs)) (true, PySem.W.openGood (PySem.W.view RwZ.prog [57]) topN) := by
  unfold lookEnd
  kernel_rfl
set_option maxHeartbeats 0 in
theorem rt2 (w : World) (os : OsState) : lookEnd RwZ 12000 (w.withFollow "special-get-raises" true) os (fun s => cks.all fun f => f (KX 5 s)) true := by
  unfold lookEnd
  kernel_rfl
set_option maxHeartbeats 0 in
theorem rt4 (w : World) (os : OsState) : lookEnd RwZ 12000 (w.withFollow "special-get-raises" true) os (fun s => feObs (KX 5 s)) feVal := by
  unfold lookEnd
  kernel_rfl
set_option maxHeartbeats 0 in
theorem rt3 (w : World) (os : OsState) : lookEnd RwZ 12000 (w.withFollow "special-get-raises" true) os (fun s => (fns.all (fun d => d.ok (KX 5 s)), fns.map (fxObs (KX 5 s)), tabs.map fun t => He.dicW (KX 5 s) (t.1 (KX 5 s)))) (true, fns.map Fx.val, tabs.map fun t => some (He.keysIn (World.params (w.withFollow "special-get-raises" true)) t.2)) := by
  unfold lookEnd
  kernel_rfl
theorem run (w : World) : HandSHeadRun.RunEq RwZ (PySem.W.view RwZ.prog [57]) hk ob 12000 topN w := PySem.W.byRow2 "special-get-raises" (P := fun w => HandSHeadRun.RunEq RwZ (PySem.W.view RwZ.prog [57]) hk ob 12000 topN w) (fun w => runX (rf1 w) (rf2 w) (rf3 w) (rf4 w)) (fun w => runX (rt1 w) (rt2 w) (rt3 w) (rt4 w)) w
end K05


namespace K05
def opsT : List (Str × Str) := [(("add" : Str), ("dss" : Str)), (("sub" : Str), ("dss" : Str)), (("mul" : Str), ("dss" : Str)), (("and" : Str), ("dss" : Str)), (("or" : Str), ("dss" : Str)), (("xor" : Str), ("dss" : Str)), (("shl" : Str), ("dss" : Str)), (("shr" : Str), ("dss" : Str)), (("sar" : Str), ("dss" : Str)), (("slt" : Str), ("dss" : Str)), (("sltu" : Str), ("dss" : Str)), (("divu" : Str), ("dss" : Str)), (("remu" : Str), ("dss" : Str)),
  (("addi" : Str), ("dsi" : Str)), (("andi" : Str), ("dsi" : Str)), (("ori" : Str), ("dsi" : Str)), (("xori" : Str), ("dsi" : Str)), (("shli" : Str), ("dsi" : Str)), (("shri" : Str), ("dsi" : Str)), (("sari" : Str), ("dsi" : Str)), (("slti" : Str), ("dsi" : Str)), (("lui" : Str), ("du" : Str)), (("lw" : Str), ("dsi" : Str)), (("lb" : Str), ("dsi" : Str)), (("lbu" : Str), ("dsi" : Str)), (("sw" : Str), ("ssi" : Str)), (("sb" : Str), ("ssi" : Str)),
  (("beq" : Str), ("ssi" : Str)), (("bne" : Str), ("ssi" : Str)), (("blt" : Str), ("ssi" : Str)), (("bge" : Str), ("ssi" : Str)), (("bltu" : Str), ("ssi" : Str)), (("bgeu" : Str), ("ssi" : Str)), (("jal" : Str), ("dj" : Str)), (("jalr" : Str), ("dsi" : Str)), (("get" : Str), ("d" : Str)), (("put" : Str), ("s" : Str)), (("exit" : Str), ("s" : Str))]
def R16 (x : Int) : Prop := 0 ≤ x ∧ x < 16
inductive Fits : Str → List Int → Prop
  | dss {a b c : Int} (ha : R16 a) (hb : R16 b) (hc : R16 c) : Fits "dss" [a, b, c]
  | dsi {a b c : Int} (ha : R16 a) (hb : R16 b) (hc : -8192 ≤ c ∧ c ≤ 8191) : Fits "dsi" [a, b, c]
  | ssi {a b c : Int} (ha : R16 a) (hb : R16 b) (hc : -8192 ≤ c ∧ c ≤ 8191) : Fits "ssi" [a, b, c]
  | du {a c : Int} (ha : R16 a) (hc : 0 ≤ c ∧ c < 262144) : Fits "du" [a, c]
  | dj {a c : Int} (ha : R16 a) (hc : -131072 ≤ c ∧ c ≤ 131071) : Fits "dj" [a, c]
  | d {a : Int} (ha : R16 a) : Fits "d" [a]
  | s {a : Int} (ha : R16 a) : Fits "s" [a]
def stepE (s : Int × Int) (p : Nat × Int) : Int × Int := if p.1 = 100 ∨ p.1 = 115 then (s.1 + p.2 * 2 ^ s.2.toNat, s.2 - 4) else if p.1 = 105 then (s.1 + p.2 % 16384, s.2) else (s.1 + p.2 % 262144, s.2)
def goE (l : List (Nat × Int)) (w : Int) : Int × Int := l.foldl stepE (w, 22)
def encW (n : Nat) (fm : Str) (xs : List Int) : Int := (goE (fm.cps.toList.zip xs) (((n : Int) + 1) * 67108864)).1
def sg (b h : Int) : Int := if h ≤ b then b - 2 * h else b
def imm (c : Nat) (w : Int) : Int := if c = 105 then sg (w % 16384) 8192 else if c = 106 then sg (w % 262144) 131072 else w % 262144
def stepD (w : Int) (s : List Int × Int) (c : Nat) : List Int × Int := if c = 100 ∨ c = 115 then (s.1 ++ [w / 2 ^ s.2.toNat % 16], s.2 - 4) else (s.1 ++ [imm c w], s.2)
def goD (w : Int) (l : List Nat) : List Int × Int := l.foldl (stepD w) ([], 22)
def fieldsOf (fm : Str) (w : Int) : List Int := (goD w fm.cps.toList).1
theorem cps_dss : (("dss" : Str).cps.toList) = [100, 115, 115] := rfl
theorem cps_dsi : (("dsi" : Str).cps.toList) = [100, 115, 105] := rfl
theorem cps_ssi : (("ssi" : Str).cps.toList) = [115, 115, 105] := rfl
theorem cps_du : (("du" : Str).cps.toList) = [100, 117] := rfl
theorem cps_dj : (("dj" : Str).cps.toList) = [100, 106] := rfl
theorem cps_d : (("d" : Str).cps.toList) = [100] := rfl
theorem cps_s : (("s" : Str).cps.toList) = [115] := rfl
section
variable {n : Nat} {a b c : Int}
local macro_rules | `(tactic| walk_at "enc") => `(tactic| (simp only [encW, goE, cps_dss, cps_dsi, cps_ssi, cps_du, cps_dj, cps_d, cps_s, List.zip_cons_cons, List.zip_nil_left, List.foldl_cons, List.foldl_nil, stepE]; simp))
theorem enc_dss : encW n "dss" [a, b, c] = ((n : Int) + 1) * 67108864 + a * 4194304 + b * 262144 + c * 16384 := by walk_at "enc"
theorem enc_dsi : encW n "dsi" [a, b, c] = ((n : Int) + 1) * 67108864 + a * 4194304 + b * 262144 + c % 16384 := by walk_at "enc"
theorem enc_ssi : encW n "ssi" [a, b, c] = ((n : Int) + 1) * 67108864 + a * 4194304 + b * 262144 + c % 16384 := by walk_at "enc"
theorem enc_du : encW n "du" [a, c] = ((n : Int) + 1) * 67108864 + a * 4194304 + c % 262144 := by walk_at "enc"
theorem enc_dj : encW n "dj" [a, c] = ((n : Int) + 1) * 67108864 + a * 4194304 + c % 262144 := by walk_at "enc"
theorem enc_d : encW n "d" [a] = ((n : Int) + 1) * 67108864 + a * 4194304 := by walk_at "enc"
theorem enc_s : encW n "s" [a] = ((n : Int) + 1) * 67108864 + a * 4194304 := by walk_at "enc"
end
section
variable {w : Int}
local macro_rules | `(tactic| walk_at "fld") => `(tactic| (simp only [fieldsOf, goD, cps_dss, cps_dsi, cps_ssi, cps_du, cps_dj, cps_d, cps_s, List.foldl_cons, List.foldl_nil, stepD, imm]; simp))
theorem fld_dss : fieldsOf "dss" w = [w / 4194304 % 16, w / 262144 % 16, w / 16384 % 16] := by walk_at "fld"
theorem fld_dsi : fieldsOf "dsi" w = [w / 4194304 % 16, w / 262144 % 16, sg (w % 16384) 8192] := by walk_at "fld"
theorem fld_ssi : fieldsOf "ssi" w = [w / 4194304 % 16, w / 262144 % 16, sg (w % 16384) 8192] := by walk_at "fld"
theorem fld_du : fieldsOf "du" w = [w / 4194304 % 16, w % 262144] := by walk_at "fld"
theorem fld_dj : fieldsOf "dj" w = [w / 4194304 % 16, sg (w % 262144) 131072] := by walk_at "fld"
theorem fld_d : fieldsOf "d" w = [w / 4194304 % 16] := by walk_at "fld"
theorem fld_s : fieldsOf "s" w = [w / 4194304 % 16] := by walk_at "fld"
end
theorem Fits.enc {n : Nat} {fm : Str} {xs : List Int} (h : Fits fm xs) : fieldsOf fm (encW n fm xs) = xs ∧ encW n fm xs / 67108864 = (n : Int) + 1 ∧ 0 ≤ encW n fm xs := by
  cases h with
  | dss ha hb hc => rw [enc_dss, fld_dss]; unfold R16 at ha hb hc; refine ⟨?_, by omega, by omega⟩; congr 1; omega; congr 1; omega; congr 1; omega
  | dsi ha hb hc => rw [enc_dsi, fld_dsi]; unfold R16 at ha hb; refine ⟨?_, by omega, by omega⟩; congr 1; omega; congr 1; omega; congr 1; unfold sg; split <;> omega
  | ssi ha hb hc => rw [enc_ssi, fld_ssi]; unfold R16 at ha hb; refine ⟨?_, by omega, by omega⟩; congr 1; omega; congr 1; omega; congr 1; unfold sg; split <;> omega
  | du ha hc => rw [enc_du, fld_du]; unfold R16 at ha; refine ⟨?_, by omega, by omega⟩; congr 1; omega; congr 1; omega
  | dj ha hc => rw [enc_dj, fld_dj]; unfold R16 at ha; refine ⟨?_, by omega, by omega⟩; congr 1; omega; congr 1; unfold sg; split <;> omega
  | d ha => rw [enc_d, fld_d]; unfold R16 at ha; refine ⟨?_, by omega, by omega⟩; congr 1; omega
  | s ha => rw [enc_s, fld_s]; unfold R16 at ha; refine ⟨?_, by omega, by omega⟩; congr 1; omega
def forms : List Str := ["dss", "dsi", "ssi", "du", "dj", "d", "s"]
theorem r16m (x : Int) : R16 (x % 16) := ⟨Int.emod_nonneg _ (by decide), Int.emod_lt_of_pos _ (by decide)⟩
theorem fits_of {fm : Str} (h : fm ∈ forms) (w : Int) : Fits fm (fieldsOf fm w) := by
  simp only [forms, List.mem_cons, List.not_mem_nil, or_false] at h
  rcases h with rfl | rfl | rfl | rfl | rfl | rfl | rfl
  · rw [fld_dss]; exact .dss (r16m _) (r16m _) (r16m _)
  · rw [fld_dsi]; exact .dsi (r16m _) (r16m _) (by unfold sg; split <;> omega)
  · rw [fld_ssi]; exact .ssi (r16m _) (r16m _) (by unfold sg; split <;> omega)
  · rw [fld_du]; exact .du (r16m _) (by omega)
  · rw [fld_dj]; exact .dj (r16m _) (by unfold sg; split <;> omega)
  · rw [fld_d]; exact .d (r16m _)
  · rw [fld_s]; exact .s (r16m _)
theorem ops_forms : ∀ p ∈ opsT, p.2 ∈ forms := by decide +kernel
theorem ops_nodup : ∀ m, m < 38 → ∀ n, n < 38 → (opsT[m]?.map (·.1)) = (opsT[n]?.map (·.1)) → m = n := by decide +kernel
/-- the n-th op with its form and fields that fit -/
structure Ins (n : Nat) (op fm : Str) (xs : List Int) : Prop where
  at_ : opsT[n]? = some (op, fm)
  fits : Fits fm xs
theorem Ins.inj {n n' : Nat} {op op' fm fm' : Str} {xs xs' : List Int} (h : Ins n op fm xs) (h' : Ins n' op' fm' xs') (e : encW n fm xs = encW n' fm' xs') : op = op' ∧ fm = fm' ∧ xs = xs' ∧ n = n' := by
  have a1 := h.fits.enc (n := n)
  have a2 := h'.fits.enc (n := n')
  have en : n = n' := by rw [e] at a1; omega
  subst en
  have q := Option.some.inj (h.at_.symm.trans h'.at_)
  cases q
  refine ⟨rfl, rfl, ?_, rfl⟩
  rw [← a1.1, e, a2.1]
end K05


open PySem.W
namespace K05
theorem sc_encode : FnScope ["instruction", "op", "word", "shift", "kind", "operand"] ["instruction"] (defScope s_encode) := ⟨rfl, rfl, rfl, by decide +kernel, rfl, by decide +kernel, by decide +kernel⟩
theorem sc_law_ops : FnScope [] [] (defScope s_law_ops) := ⟨rfl, rfl, rfl, by decide +kernel, rfl, by decide +kernel, by decide +kernel⟩
theorem sc_law_word : FnScope ["row", "word"] ["row"] (defScope s_law_word) := ⟨rfl, rfl, rfl, by decide +kernel, rfl, by decide +kernel, by decide +kernel⟩
abbrev kS (s : Str) : Key := Sum.inr s
inductive RFits : Str → List Int → Prop
  | dss {a b c : Int} (ha : R16 a) (hb : R16 b) (hc : R16 c) : RFits "dss" [a, b, c]
  | dsi {a b c : Int} (ha : R16 a) (hb : R16 b) : RFits "dsi" [a, b, c]
  | ssi {a b c : Int} (ha : R16 a) (hb : R16 b) : RFits "ssi" [a, b, c]
  | du {a c : Int} (ha : R16 a) : RFits "du" [a, c]
  | dj {a c : Int} (ha : R16 a) : RFits "dj" [a, c]
  | d {a : Int} (ha : R16 a) : RFits "d" [a]
  | s {a : Int} (ha : R16 a) : RFits "s" [a]
def insV (op : Str) (xs : List Int) : List V := .str op :: xs.map V.int
def TK (H H' : Hp) : Prop := ∀ a xs, H a = some (.tup xs) → H' a = some (.tup xs)
theorem TK.same {H H' : Hp} (s : Same H H') : TK H H' := fun a xs h => s a _ h
theorem TK.lst {H H' : Hp} {c : Addr} {xs : List V} (b : But c H H') (h : H c = some (.lst xs)) : TK H H' := fun a ys q => b a _ (ne_of q h (by intro z; cases z)) q
theorem TK.dic {H H' : Hp} {c : Addr} {xs : List (Key × V)} (b : But c H H') (h : H c = some (.dK xs)) : TK H H' := fun a ys q => b a _ (ne_of q h (by intro z; cases z)) q
def kDG (Q : VK) : V → V → Hp → Prop := fun x y H2 => ∃ a v, x = .ref a ∧ DGet H2 a y (some v) ∧ Q v H2
theorem w_dget {td ty : TE} {σ : L2.St} {H : Hp} {Q : VK} (q : td σ H fun x H1 => ty σ H1 fun y H2 => kDG Q x y H2) : tDGet td ty σ H Q := q
theorem w_kDG {p : Addr} {kvs : List (Key × V)} {z : Str} {v : V} {H : Hp} {Q : VK} (h : H p = some (.dK kvs)) (e : valV kvs (kS z) = some v) (q : Q v H) : kDG Q (.ref p) (.str z) H := ⟨p, v, rfl, by have := DGet.k (k := kS z) h; rw [e] at this; exact this, q⟩
def kDP (D : Ends) (σ : L2.St) (v : V) : V → V → Hp → Prop := fun x y H3 => ∃ a H4, x = .ref a ∧ DPut H3 a y v H4 ∧ D.nx σ H4
theorem w_dput {td ty tv : TE} {D : Ends} {σ : L2.St} {H : Hp} (q : tv σ H fun v H1 => td σ H1 fun x H2 => ty σ H2 fun y H3 => kDP D σ v x y H3) : sDPut td ty tv D σ H := q
theorem w_kDP {p : Addr} {kvs kvs' : List (Key × V)} {z : Str} {v : V} {D : Ends} {σ : L2.St} {H : Hp} (h : H p = some (.dK kvs)) (hl : kvs.length < 1000) (e : putK kvs (kS z) v = kvs') (q : ∀ H', H' p = some (.dK kvs') → But p H H' → D.nx σ H') : kDP D σ v (.ref p) (.str z) H :=
  ⟨p, _, rfl, DPut.k (k := kS z) h (Nat.lt_of_lt_of_le hl (by decide)), q _ (by rw [e]; exact upd_same) But.set⟩
theorem pick_any (l : List V) {k : Int} (h0 : 0 ≤ k) (h1 : k < l.length) : ∃ v, v ∈ l ∧ atI l k = some v := by
  obtain ⟨n, rfl⟩ := Int.eq_ofNat_of_zero_le h0
  have hn : n < l.length := by omega
  exact ⟨l[n], List.getElem_mem hn, atI_nat (List.getElem?_eq_getElem hn)⟩
theorem DrawC.hdl {H : Hp} {d c : Addr} (h : DrawC H d c) : (∃ xs, H d = some (.lst xs)) ∧ H d = H d := ⟨by obtain ⟨cs, i, cur, seed, hd, _⟩ := h; exact ⟨_, hd⟩, rfl⟩
def B8 (x : Int) : Prop := 0 ≤ x ∧ x < 256
theorem fresh {H H2 : Hp} {p : Addr} (s : Same H H2) (n : H2 p = none) : H p = none := by
  cases e : H p with
  | none => rfl
  | some o => have := s _ _ e; rw [n] at this; cases this
theorem first_at {n : Nat} {op fm : Str} (h : opsT[n]? = some (op, fm)) : (opsT.map (·.1))[n]? = some op ∧ (∀ m, m < n → (opsT.map (·.1))[m]? ≠ some op) := by
  have hn : n < 38 := (List.getElem?_eq_some_iff.mp h).1
  have e : (opsT.map (·.1))[n]? = some op := by rw [List.getElem?_map, h]; rfl
  refine ⟨e, fun m hm z => ?_⟩
  have := ops_nodup m (by omega) n hn (by rw [← List.getElem?_map, ← List.getElem?_map, z, e])
  omega
theorem op_read : ∀ n, n < 38 → ∀ p : Str × Str, opsT[n]? = some p → (inV (.str p.1) [.str "get", .str "put", .str "exit"] = decide (p.2 = "d" ∨ p.2 = "s") ∧ (p.1 = "lui" ↔ p.2 = "du") ∧ (p.1 = "jal" ↔ p.2 = "dj") ∧ (n + 1 < 14 ↔ p.2 = "dss")) := by
  have h : ∀ n, n < 38 → (match opsT[n]? with | some p => decide (inV (.str p.1) [.str "get", .str "put", .str "exit"] = decide (p.2 = "d" ∨ p.2 = "s") ∧ (p.1 = "lui" ↔ p.2 = "du") ∧ (p.1 = "jal" ↔ p.2 = "dj") ∧ (n + 1 < 14 ↔ p.2 = "dss")) | none => true) = true := by decide +kernel
  intro n hn p e
  have := h n hn
  rw [e] at this
  exact of_decide_eq_true this
theorem w_isiTT {K : PySem.W.Frag} {t : Addr} {xs : List V} {H : Hp} {Q : VK} (h : H t = some (.tup xs)) (q : Q (.bl true) H) : rIsi K [.ref t, .ty "tuple"] H Q := ⟨.ref t, .ty "tuple", .type "tuple", .type "tuple", true, rfl, .ty _, .base (.tup h), kit_ty (by decide +kernel), q⟩
theorem op_dss : ∀ n, n < 38 → ∀ p : Str × Str, opsT[n]? = some p → (((p.2 = ("dss" : Str)) ↔ n < 13) ∧ p.1 ≠ "word") := by
  have h : ∀ n, n < 38 → (match opsT[n]? with | some p => decide (((p.2 = "dss") ↔ n < 13) ∧ p.1 ≠ "word") | none => true) = true := by decide +kernel
  intro n hn p e
  have := h n hn
  rw [e] at this
  exact of_decide_eq_true this
section
variable {P : Program} {w : World} {K : PySem.W.Frag} {mg : Str → Option Value} {base : Heap}
def spOps : Sp := fun vs H Q _ => vs = [] ∧ ∀ p H', H p = none → Same H H' → H' p = some (.lst ((opsT.map (·.1)).map V.str)) → Q (.ref p) H'
theorem ok_law_ops (Z : St1 K mg "_law_ops" s_law_ops []) : Cd P w K mg base 1 "_law_ops" spOps := by
  refine Z.cd sc_law_ops (fun vs H Q E h => by obtain ⟨rfl, _⟩ := h; rfl) (fun f cdv A outer s H vs Q E hr h => ?_)
  obtain ⟨rfl, q⟩ := h
  refine ⟨_, (pss_one (ps_ret (pe_lst (pa_cons pe_str (pa_cons pe_str (pa_cons pe_str (pa_cons pe_str (pa_cons pe_str (pa_cons pe_str (pa_cons pe_str (pa_cons pe_str (pa_cons pe_str (pa_cons pe_str (pa_cons pe_str (pa_cons pe_str (pa_cons pe_str (pa_cons pe_str (pa_cons pe_str (pa_cons pe_str (pa_cons pe_str (pa_cons pe_str (pa_cons pe_str (pa_cons pe_str (pa_cons pe_str (pa_cons pe_str (pa_cons pe_str (pa_cons pe_str (pa_cons pe_str (pa_cons pe_str (pa_cons pe_str (pa_cons pe_str (pa_cons pe_str (pa_cons pe_str (pa_cons pe_str (pa_cons pe_str (pa_cons pe_str (pa_cons pe_str (pa_cons pe_str (pa_cons pe_str (pa_cons pe_str (pa_cons pe_str pa_nil))))))))))))))))))))))))))))))))))))))))), ?_⟩
  (with_reducible refine w_ret ?_)
  (with_reducible refine w_lst ?_)
  (with_reducible refine w_cons ?_)
  (with_reducible refine w_c ?_)
  (with_reducible refine w_cons ?_)
  (with_reducible refine w_c ?_)
  (with_reducible refine w_cons ?_)
  (with_reducible refine w_c ?_)
  (with_reducible refine w_cons ?_)
  (with_reducible refine w_c ?_)
  (with_reducible refine w_cons ?_)
  (with_reducible refine w_c ?_)
  (with_reducible refine w_cons ?_)
  (with_reducible refine w_c ?_)
  (with_reducible refine w_cons ?_)
  (with_reducible refine w_c ?_)
  (with_reducible refine w_cons ?_)
  (with_reducible refine w_c ?_)
  (with_reducible refine w_cons ?_)
  (with_reducible refine w_c ?_)
  (with_reducible refine w_cons ?_)
  (with_reducible refine w_c ?_)
  (with_reducible refine w_cons ?_)
  (with_reducible refine w_c ?_)
  (with_reducible refine w_cons ?_)
  (with_reducible refine w_c ?_)
  (with_reducible refine w_cons ?_)
  (with_reducible refine w_c ?_)
  (with_reducible refine w_cons ?_)
  (with_reducible refine w_c ?_)
  (with_reducible refine w_cons ?_)
  (with_reducible refine w_c ?_)
  (with_reducible refine w_cons ?_)
  (with_reducible refine w_c ?_)
  (with_reducible refine w_cons ?_)
  (with_reducible refine w_c ?_)
  (with_reducible refine w_cons ?_)
  (with_reducible refine w_c ?_)
  (with_reducible refine w_cons ?_)
  (with_reducible refine w_c ?_)
  (with_reducible refine w_cons ?_)
  (with_reducible refine w_c ?_)
  (with_reducible refine w_cons ?_)
  (with_reducible refine w_c ?_)
  (with_reducible refine w_cons ?_)
  (with_reducible refine w_c ?_)
  (with_reducible refine w_cons ?_)
  (with_reducible refine w_c ?_)
  (with_reducible refine w_cons ?_)
  (with_reducible refine w_c ?_)
  (with_reducible refine w_cons ?_)
  (with_reducible refine w_c ?_)
  (with_reducible refine w_cons ?_)
  (with_reducible refine w_c ?_)
  (with_reducible refine w_cons ?_)
  (with_reducible refine w_c ?_)
  (with_reducible refine w_cons ?_)
  (with_reducible refine w_c ?_)
  (with_reducible refine w_cons ?_)
  (with_reducible refine w_c ?_)
  (with_reducible refine w_cons ?_)
  (with_reducible refine w_c ?_)
  (with_reducible refine w_cons ?_)
  (with_reducible refine w_c ?_)
  (with_reducible refine w_cons ?_)
  (with_reducible refine w_c ?_)
  (with_reducible refine w_cons ?_)
  (with_reducible refine w_c ?_)
  (with_reducible refine w_cons ?_)
  (with_reducible refine w_c ?_)
  (with_reducible refine w_cons ?_)
  (with_reducible refine w_c ?_)
  (with_reducible refine w_cons ?_)
  (with_reducible refine w_c ?_)
  (with_reducible refine w_cons ?_)
  (with_reducible refine w_c ?_)
  (with_reducible refine w_cons ?_)
  (with_reducible refine w_c ?_)
  (with_reducible refine w_nil ?_)
  refine w_kLst (by show 38 ≤ sizeLine; decide) fun p H' np sm hp => ?_
  exact q p H' np sm hp
end
/-- a tuple that the module has written -/
def WTup (K : PySem.W.Frag) (O : Addr) (xs : List V) : Prop := ∃ (its : Array Value) (n : Nat) (sl : Array (Option Value)), K.lookup O = some ⟨.type "tuple", none, .seq its n, sl⟩ ∧ its.size ≤ sizeLine ∧ Vals xs its.toList
theorem WTup.sq {K : PySem.W.Frag} {O : Addr} {xs : List V} (h : WTup K O xs) (H : Hp) : SqT K H O xs := by
  obtain ⟨its, n, sl, l, z, v⟩ := h
  exact .inr ⟨_, its, n, l, rfl, rfl, z, v⟩
theorem WTup.ty {K : PySem.W.Frag} {O : Addr} {xs : List V} (h : WTup K O xs) {H : Hp} {B : Prop} (q : B) : tyV K "tuple" (.ref O) H ∧ B := by
  obtain ⟨its, n, sl, l, z, v⟩ := h
  exact ⟨.inr (.inl ⟨rfl, _, l, rfl, rfl⟩), q⟩
structure Env0 (K : PySem.W.Frag) (w : World) (mg : Str → Option Value) (O F : Addr) : Prop where
  g_OPS : GV mg "OPS" (.ref O)
  g_FORMS : GV mg "FORMS" (.ref F)
  g_LOW_14 : GV mg "LOW_14" (.int 16383)
  g_LOW_18 : GV mg "LOW_18" (.int 262143)
  ops : WTup K O ((opsT.map (·.1)).map V.str)
  rows : ∀ p ∈ opsT, KDct K w F p.1 (.str p.2)
def spEnc (K : PySem.W.Frag) : Sp := fun vs H Q _ => ∃ (t : Addr) (n : Nat) (op fm : Str) (xs : List Int), vs = [.ref t] ∧ SqT K H t (insV op xs) ∧ Ins n op fm xs ∧ ∀ H', Same H H' → Q (.int (encW n fm xs)) H'
theorem Ins.n38 {n : Nat} {op fm : Str} {xs : List Int} (h : Ins n op fm xs) : n < 38 := (List.getElem?_eq_some_iff.mp h.at_).1
theorem Fits.len {fm : Str} {xs : List Int} (h : Fits fm xs) : fm.cps.size = xs.length ∧ xs.length ≤ 3 ∧ ∀ x ∈ xs, -131072 ≤ x ∧ x < 262144 := by
  cases h <;> (refine ⟨rfl, by simp, fun x hx => ?_⟩; simp only [List.mem_cons, List.not_mem_nil, or_false] at hx; unfold R16 at *; rcases hx with rfl | rfl | rfl) <;> omega
section
variable {P : Program} {w : World} {K : PySem.W.Frag} {mg : Str → Option Value} {base : Heap}
theorem ok_encode {O F : Addr} (T : Env0 K w mg O F) (b_zip : mg "zip" = none) (Z : St1 K mg "encode" s_encode ["instruction"]) : Cd P w K mg base 1 "encode" (spEnc K) := by
  obtain ⟨g_OPS, g_FORMS, g_LOW_14, g_LOW_18, ops, rows⟩ := T
  refine Z.cd sc_encode (fun vs H Q E h => by obtain ⟨t, n, op, fm, xs, rfl, _⟩ := h; rfl) (fun f cdv A outer s H vs Q E hr h => ?_)
  obtain ⟨t, n, op, fm, xs, rfl, ht, hi, q⟩ := h
  have hr0 := rows (op, fm) (List.mem_of_getElem? hi.at_)
  have hn := hi.n38
  obtain ⟨fl, f3, fb⟩ := hi.fits.len
  obtain ⟨at1, at2⟩ := first_at hi.at_
  refine ⟨_, (pss_cons (ps_set (i := 1) sc_encode.nd rfl (.inl rfl) (pe_ix ix_tup (pv 0) pe_int (fun _ _ => rfl)))
      (pss_cons (ps_set (i := 2) sc_encode.nd rfl (.inl rfl) (pe_op op_shl (pe_op op_add (pe_bm PySem.F.plainAttrs_tuple PySem.F.slot_tuple_index PySem.F.type_tuple_index mt_tupIxQ (pe_gv (by rfl) g_OPS) (pa_cons (pv 1) pa_nil)) pe_int) pe_int))
      (pss_cons (ps_set (i := 3) sc_encode.nd rfl (.inl rfl) pe_int)
      (Evl.pss_cut (ps_for PassesOwn.never rfl (pi_zipST (by rfl) b_zip (pa_cons (pe_ix ix_kdict (pe_gv (by rfl) g_FORMS) (pv 1) (fun _ _ => rfl)) (pa_cons (pe_slice sl_tupA (pv 0) (po_some pe_int) po_none) pa_nil))) (pg_tup rfl (pgs_cons (pg_name (i := 4) sc_encode.nd rfl (.inl rfl)) (pgs_cons (pg_name (i := 5) sc_encode.nd rfl (.inl rfl)) pgs_nil)))
      (pss_one (ps_if (pt_cmpR op_inSQ (pv 4) pe_str rfl) (pss_cons (ps_aug (i := 2) sc_encode.nd rfl (.inl rfl) (pe_op op_shl (pv 5) (pv 3)) ip_add)
      (pss_one (ps_aug (i := 3) sc_encode.nd rfl (.inl rfl) pe_int ip_sub))) (pss_one (ps_if (pt_cmpR op_eq (pv 4) pe_str (nomark _)) (pss_one (ps_aug (i := 2) sc_encode.nd rfl (.inl rfl) (pe_op op_and (pv 5) (pe_gv (by rfl) g_LOW_14)) ip_add)) (pss_one (ps_aug (i := 2) sc_encode.nd rfl (.inl rfl) (pe_op op_and (pv 5) (pe_gv (by rfl) g_LOW_18)) ip_add)))))))
      (pss_one (ps_ret (pv 2))))))), ?_⟩
  (with_reducible refine w_seq ?_)
  (with_reducible refine w_asg ?_)
  (with_reducible refine w_op ?_)
  ((with_reducible refine' w_var ?hv ?_); (case hv => exact rfl))
  (with_reducible refine w_c ?_)
  refine w_ixTs ht (atI_of (v := .str op) (by decide) rfl) ?_
  (with_reducible refine w_name ?_)
  (with_reducible refine w_seq ?_)
  (with_reducible refine w_asg ?_)
  (with_reducible refine w_op ?_)
  (with_reducible refine w_op ?_)
  (with_reducible refine w_bm ?_)
  (with_reducible refine w_c ?_)
  refine ops.ty ?_
  (with_reducible refine w_cons ?_)
  ((with_reducible refine' w_var ?hv ?_); (case hv => exact rfl))
  (with_reducible refine w_nil ?_)
  refine w_tix (ops.sq H) at1 at2 ?_
  (with_reducible refine w_c ?_)
  (with_reducible refine w_I0 ?_)
  (with_reducible refine w_c ?_)
  ((with_reducible refine w_I ?hc ?_); (case hc => walk_at "side"))
  (with_reducible refine w_name ?_)
  (with_reducible refine w_seq ?_)
  (with_reducible refine w_asg ?_)
  (with_reducible refine w_c ?_)
  (with_reducible refine w_name ?_)
  have ew : ((n : Int) + 1) * 2 ^ (26 : Int).toNat = ((n : Int) + 1) * 67108864 := rfl
  obtain ⟨x0, xr, rfl⟩ : ∃ x0 xr, xs = x0 :: xr := by cases hi.fits <;> exact ⟨_, _, rfl⟩
  have inv0 : ∀ v4 v5 v6 : Option V, True := fun _ _ _ => trivial
  refine Evl.q_cut (M := fun σ' H' => Same H H' ∧ ∃ v4 v5 v6, σ' = [some (.ref t), some (.str op), some (.int (encW n fm (x0 :: xr))), v4, v5, v6]) ?_ ?_
  · (with_reducible refine w_for ?_)
    (with_reducible refine w_zST ?_)
    (with_reducible refine w_cons ?_)
    (with_reducible refine w_op ?_)
    (with_reducible refine w_c ?_)
    ((with_reducible refine' w_var ?hv ?_); (case hv => exact rfl))
    refine w_ixD hr0 ?_
    (with_reducible refine w_cons ?_)
    (with_reducible refine w_sl ?_)
    ((with_reducible refine' w_var ?hv ?_); (case hv => exact rfl))
    (with_reducible refine w_part ?_)
    (with_reducible refine w_c ?_)
    (with_reducible refine w_exI ?_)
    (with_reducible refine w_noPart ?_)
    refine w_rSl1 ht fun p H1 np sm hp => ?_
    (with_reducible refine w_nil ?_)
    have zl : (fm.cps.toList.zip (x0 :: xr)).length = (x0 :: xr).length := by rw [List.length_zip]; simp only [Array.length_toList, fl, Nat.min_self]
    refine w_forZ ((x0 :: xr).map V.int) (fun i σ' H' => Same H1 H' ∧ ∃ v4 v5 v6 : Option V, σ' = [some (.ref t), some (.str op), some (.int (goE ((fm.cps.toList.zip (x0 :: xr)).take i) (((n : Int) + 1) * 67108864)).1), some (.int (goE ((fm.cps.toList.zip (x0 :: xr)).take i) (((n : Int) + 1) * 67108864)).2), v5, v6] ∧ 22 - 4 * (i : Int) ≤ (goE ((fm.cps.toList.zip (x0 :: xr)).take i) (((n : Int) + 1) * 67108864)).2 ∧ (goE ((fm.cps.toList.zip (x0 :: xr)).take i) (((n : Int) + 1) * 67108864)).2 ≤ 22) (.of hp) (by rw [List.length_map]; exact fl) ⟨Same.refl _, none, none, none, rfl, by show (22 : Int) - 4 * 0 ≤ 22; decide, by show (22 : Int) ≤ 22; decide⟩ (fun i σ' H' ⟨sm', _⟩ => .of (sm' _ _ hp)) ?_ ?_
    · rintro i c y T σ' H' H'' hc hy ⟨sm', v4, v5, v6, rfl, lo, hi'⟩ nT sT hT
      obtain ⟨x, hx, rfl⟩ := map_get hy
      have hil : i < (x0 :: xr).length := (List.getElem?_eq_some_iff.mp hx).1
      have hb := fb x (List.mem_of_getElem? hx)
      have hz : (fm.cps.toList.zip (x0 :: xr))[i]? = some (c, x) := by
        rw [List.getElem?_zip_eq_some]
        exact ⟨by simpa using hc, hx⟩
      have tk := take_more hz
      have st : goE ((fm.cps.toList.zip (x0 :: xr)).take (i + 1)) (((n : Int) + 1) * 67108864) = stepE (goE ((fm.cps.toList.zip (x0 :: xr)).take i) (((n : Int) + 1) * 67108864)) (c, x) := by
        rw [tk]; unfold goE; rw [List.foldl_append]; rfl
      generalize goE ((fm.cps.toList.zip (x0 :: xr)).take i) (((n : Int) + 1) * 67108864) = s0 at *
      obtain ⟨wd, sh⟩ := s0
      ((with_reducible refine' w_gTup ?hh ?hn ?_); (case hh => assumption); (case hn => exact rfl))
      (with_reducible refine w_gCons ?_)
      (with_reducible refine w_name ?_)
      (with_reducible refine w_gCons ?_)
      (with_reducible refine w_name ?_)
      (with_reducible refine w_gNil ?_)
      (with_reducible refine w_ifS ?_)
      (with_reducible refine w_test ?_)
      (with_reducible refine w_op ?_)
      ((with_reducible refine' w_var ?hv ?_); (case hv => exact rfl))
      (with_reducible refine w_c ?_)
      (with_reducible refine w_inSg ?_)
      (with_reducible refine w_bl ?_)
      have hi3 : i < 3 := by omega
      simp only at lo hi'
      refine w_dec (fun e => ?_) (fun e => ?_)
      · have e' : c = 100 ∨ c = 115 := by simpa using (show c ∈ [100, 115] from e)
        (with_reducible refine w_seq ?_)
        ((with_reducible refine' w_aug ?hh ?_); (case hh => exact rfl))
        (with_reducible refine w_op ?_)
        ((with_reducible refine' w_var ?hv ?_); (case hv => exact rfl))
        ((with_reducible refine' w_var ?hv ?_); (case hv => exact rfl))
        ((with_reducible refine w_I ?hc ?_); (case hc => walk_at "side"))
        (with_reducible refine w_ipI ?_)
        ((with_reducible refine' w_aug ?hh ?_); (case hh => exact rfl))
        (with_reducible refine w_c ?_)
        (with_reducible refine w_ipI ?_)
        have s1 : stepE (wd, sh) (c, x) = (wd + x * 2 ^ sh.toNat, sh - 4) := if_pos e'
        rw [s1] at st
        exact ⟨sm'.trans sT, none, _, _, by rw [st]; rfl, by rw [st]; show 22 - 4 * ((i + 1 : Nat) : Int) ≤ sh - 4; omega, by rw [st]; show sh - 4 ≤ 22; omega⟩
      · have e' : ¬ (c = 100 ∨ c = 115) := fun z => e (show c ∈ [100, 115] by simpa using z)
        (with_reducible refine w_ifS ?_)
        (with_reducible refine w_test ?_)
        (with_reducible refine w_op ?_)
        ((with_reducible refine' w_var ?hv ?_); (case hv => exact rfl))
        (with_reducible refine w_c ?_)
        (with_reducible refine w_eqS ?_)
        (with_reducible refine w_bl ?_)
        refine w_dec (fun e2 => ?_) (fun e2 => ?_)
        · have e3 : c = 105 := Option.some.inj (congrArg (fun z : Str => z.cps[0]?) e2)
          ((with_reducible refine' w_aug ?hh ?_); (case hh => exact rfl))
          (with_reducible refine w_op ?_)
          ((with_reducible refine' w_var ?hv ?_); (case hv => exact rfl))
          (with_reducible refine w_c ?_)
          (with_reducible refine w_I0 ?_)
          (with_reducible refine w_ipI ?_)
          have s1 : stepE (wd, sh) (c, x) = (wd + x % 16384, sh) := (if_neg e').trans (if_pos e3)
          rw [s1] at st
          have eb : Builtin.bitAnd x 16383 = x % 16384 := PySem.W.kbt_mask x 14
          refine ⟨sm'.trans sT, none, _, _, by rw [st, eb]; rfl, by rw [st]; show 22 - 4 * ((i + 1 : Nat) : Int) ≤ sh; omega, by rw [st]; show sh ≤ 22; omega⟩
        · have e3 : c ≠ 105 := fun z => e2 (by rw [z]; rfl)
          ((with_reducible refine' w_aug ?hh ?_); (case hh => exact rfl))
          (with_reducible refine w_op ?_)
          ((with_reducible refine' w_var ?hv ?_); (case hv => exact rfl))
          (with_reducible refine w_c ?_)
          (with_reducible refine w_I0 ?_)
          (with_reducible refine w_ipI ?_)
          have s1 : stepE (wd, sh) (c, x) = (wd + x % 262144, sh) := (if_neg e').trans (if_neg e3)
          rw [s1] at st
          have eb : Builtin.bitAnd x 262143 = x % 262144 := PySem.W.kbt_mask x 18
          refine ⟨sm'.trans sT, none, _, _, by rw [st, eb]; rfl, by rw [st]; show 22 - 4 * ((i + 1 : Nat) : Int) ≤ sh; omega, by rw [st]; show sh ≤ 22; omega⟩
    · rintro σ' H' ⟨sm', v4, v5, v6, rfl, _⟩
      rw [List.length_map, ← zl, List.take_length]
      exact ⟨sm.trans sm', _, _, _, rfl⟩
  · rintro σ' H' ⟨sm, v4, v5, v6, rfl⟩
    (with_reducible refine w_ret ?_)
    ((with_reducible refine' w_var ?hv ?_); (case hv => exact rfl))
    exact q H' sm
end
def spWordS (K : PySem.W.Frag) : Sp := fun vs H Q _ => ∃ (t : Addr) (n : Nat) (op fm : Str) (xs : List Int), vs = [.ref t] ∧ SqT K H t (insV op xs) ∧ opsT[n]? = some (op, fm) ∧ RFits fm xs ∧ ∀ H', Same H H' → Q (.int (encW n fm xs)) H'
theorem Fits.r {fm : Str} {xs : List Int} (h : Fits fm xs) : RFits fm xs := by
  cases h
  · exact .dss ‹_› ‹_› ‹_›
  · exact .dsi ‹_› ‹_›
  · exact .ssi ‹_› ‹_›
  · exact .du ‹_›
  · exact .dj ‹_›
  · exact .d ‹_›
  · exact .s ‹_›
section
variable {P : Program} {w : World} {K : PySem.W.Frag} {mg : Str → Option Value} {base : Heap}
theorem ok_law_wordS (b_len : mg "len" = none) (b_int : mg "int" = none) (c_law_ops : Cd P w K mg base 1 "_law_ops" spOps) (Z : St1 K mg "_law_word" s_law_word ["row"]) : Cd P w K mg base 2 "_law_word" (spWordS K) := by
  refine Z.cd sc_law_word (fun vs H Q E h => by obtain ⟨t, n, op, fm, xs, rfl, _⟩ := h; rfl) (fun f cdv A outer s H vs Q E hr h => ?_)
  obtain ⟨t, n, op, fm, xs, rfl, ht, hi, hf, q⟩ := h
  have hn : n < 38 := (List.getElem?_eq_some_iff.mp hi).1
  obtain ⟨at1, at2⟩ := first_at hi
  have of := (op_dss n hn _ hi).1
  refine ⟨_, (pss_cons (ps_set (i := 1) sc_law_word.nd rfl (.inl rfl) (pe_op op_add (pe_op op_mul (pe_op op_add (pe_bm PySem.F.plainAttrs_list PySem.F.slot_list_index PySem.F.type_list_index mt_index (pe_cd0 c_law_ops hr (by first | decide | omega) (by rfl)) (pa_cons (pe_ix ix_tup (pv 0) pe_int (fun _ _ => rfl)) pa_nil)) pe_int) (pe_op op_pow pe_int pe_int)) (pe_op op_mul (pe_ix ix_tup (pv 0) pe_int (fun _ _ => rfl)) (pe_op op_pow pe_int pe_int))))
      (pss_cons (ps_if (pt_cmpR op_eq (pe_callB call_lenQ (by rfl) b_len PySem.boot_len (pa_cons (pv 0) pa_nil)) pe_int (nomark _)) (pss_one (ps_ret (pv 1))) pss_nil)
      (pss_cons (ps_if (pt_cmpR op_eq (pe_callB call_lenQ (by rfl) b_len PySem.boot_len (pa_cons (pv 0) pa_nil)) pe_int (nomark _)) (pss_one (ps_ret (pe_op op_add (pv 1) (pe_op op_mod (pe_callTy call_intQ (by rfl) b_int (by decide +kernel) (pa_cons (pe_ix ix_tup (pv 0) pe_int (fun _ _ => rfl)) pa_nil)) (pe_op op_pow pe_int pe_int))))) pss_nil)
      (pss_cons (ps_if (pt_cmpR op_lt (pe_bm PySem.F.plainAttrs_list PySem.F.slot_list_index PySem.F.type_list_index mt_index (pe_cd0 c_law_ops hr (by first | decide | omega) (by rfl)) (pa_cons (pe_ix ix_tup (pv 0) pe_int (fun _ _ => rfl)) pa_nil)) pe_int (nomark _)) (pss_one (ps_ret (pe_op op_add (pe_op op_add (pv 1) (pe_op op_mul (pe_ix ix_tup (pv 0) pe_int (fun _ _ => rfl)) (pe_op op_pow pe_int pe_int))) (pe_op op_mul (pe_ix ix_tup (pv 0) pe_int (fun _ _ => rfl)) (pe_op op_pow pe_int pe_int))))) pss_nil)
      (pss_one (ps_ret (pe_op op_add (pe_op op_add (pv 1) (pe_op op_mul (pe_ix ix_tup (pv 0) pe_int (fun _ _ => rfl)) (pe_op op_pow pe_int pe_int))) (pe_op op_mod (pe_callTy call_intQ (by rfl) b_int (by decide +kernel) (pa_cons (pe_ix ix_tup (pv 0) pe_int (fun _ _ => rfl)) pa_nil)) (pe_op op_pow pe_int pe_int))))))))), ?_⟩
  (with_reducible refine w_seq ?_)
  (with_reducible refine w_asg ?_)
  (with_reducible refine w_op ?_)
  (with_reducible refine w_op ?_)
  (with_reducible refine w_op ?_)
  (with_reducible refine w_bm ?_)
  (with_reducible refine w_call ?_)
  (with_reducible refine w_nil ?_)
  refine ⟨rfl, fun p H1 np sm hp => ?_⟩
  ((with_reducible refine' w_tyL ?hh ?_); (case hh => assumption))
  (with_reducible refine w_cons ?_)
  (with_reducible refine w_op ?_)
  ((with_reducible refine' w_var ?hv ?_); (case hv => exact rfl))
  (with_reducible refine w_c ?_)
  refine w_ixTs (sm.sqT ht) (atI_of (v := .str op) (by decide) rfl) ?_
  (with_reducible refine w_nil ?_)
  refine w_lix hp at1 at2 ?_
  (with_reducible refine w_c ?_)
  (with_reducible refine w_I0 ?_)
  (with_reducible refine w_op ?_)
  (with_reducible refine w_c ?_)
  (with_reducible refine w_c ?_)
  (with_reducible refine w_p26 ?_)
  ((with_reducible refine w_I ?hc ?_); (case hc => walk_at "side"))
  (with_reducible refine w_op ?_)
  (with_reducible refine w_op ?_)
  ((with_reducible refine' w_var ?hv ?_); (case hv => exact rfl))
  (with_reducible refine w_c ?_)
  have key : ∀ (a : Int) (r : List Int), xs = a :: r → R16 a := by
    intro a r e
    cases hf <;> (cases e; assumption)
  cases hf with
  | dss ha hb hc =>
    rename_i a b c
    have hn13 := of.mp rfl
    unfold R16 at ha hb hc
    refine w_ixTs (sm.sqT ht) (atI_of (v := .int a) (by decide) rfl) ?_
    (with_reducible refine w_op ?_)
    (with_reducible refine w_c ?_)
    (with_reducible refine w_c ?_)
    (with_reducible refine w_p22 ?_)
    ((with_reducible refine w_I ?hc ?_); (case hc => walk_at "side"))
    (with_reducible refine w_I0 ?_)
    (with_reducible refine w_name ?_)
    (with_reducible refine w_seq ?_)
    (with_reducible refine w_ifS ?_)
    (with_reducible refine w_test ?_)
    (with_reducible refine w_op ?_)
    (with_reducible refine w_cb ?_)
    (with_reducible refine w_cons ?_)
    ((with_reducible refine' w_var ?hv ?_); (case hv => exact rfl))
    (with_reducible refine w_nil ?_)
    refine w_lenTn 4 (sm.sqT ht) rfl ?_
    (with_reducible refine w_c ?_)
    (with_reducible refine w_eqI ?_)
    (with_reducible refine w_bl ?_)
    (refine w_decF ?hd ?_; (case hd => decide))
    (with_reducible refine w_next ?_)
    (with_reducible refine w_seq ?_)
    (with_reducible refine w_ifS ?_)
    (with_reducible refine w_test ?_)
    (with_reducible refine w_op ?_)
    (with_reducible refine w_cb ?_)
    (with_reducible refine w_cons ?_)
    ((with_reducible refine' w_var ?hv ?_); (case hv => exact rfl))
    (with_reducible refine w_nil ?_)
    refine w_lenTn 4 (sm.sqT ht) rfl ?_
    (with_reducible refine w_c ?_)
    (with_reducible refine w_eqI ?_)
    (with_reducible refine w_bl ?_)
    (refine w_decF ?hd ?_; (case hd => decide))
    (with_reducible refine w_next ?_)
    (with_reducible refine w_seq ?_)
    (with_reducible refine w_ifS ?_)
    (with_reducible refine w_test ?_)
    (with_reducible refine w_op ?_)
    (with_reducible refine w_bm ?_)
    (with_reducible refine w_call ?_)
    (with_reducible refine w_nil ?_)
    refine ⟨rfl, fun p2 H2 np2 sm2 hp2 => ?_⟩
    have ht2 := (sm.trans sm2).sqT ht
    ((with_reducible refine' w_tyL ?hh ?_); (case hh => assumption))
    (with_reducible refine w_cons ?_)
    (with_reducible refine w_op ?_)
    ((with_reducible refine' w_var ?hv ?_); (case hv => exact rfl))
    (with_reducible refine w_c ?_)
    refine w_ixTs ht2 (atI_of (v := .str op) (by decide) rfl) ?_
    (with_reducible refine w_nil ?_)
    refine w_lix hp2 at1 at2 ?_
    (with_reducible refine w_c ?_)
    (with_reducible refine w_I0 ?_)
    (with_reducible refine w_bl ?_)
    refine w_decT (by omega) ?_
    (with_reducible refine w_ret ?_)
    (with_reducible refine w_op ?_)
    (with_reducible refine w_op ?_)
    ((with_reducible refine' w_var ?hv ?_); (case hv => exact rfl))
    (with_reducible refine w_op ?_)
    (with_reducible refine w_op ?_)
    ((with_reducible refine' w_var ?hv ?_); (case hv => exact rfl))
    (with_reducible refine w_c ?_)
    refine w_ixTs ht2 (atI_of (v := .int b) (by decide) rfl) ?_
    (with_reducible refine w_op ?_)
    (with_reducible refine w_c ?_)
    (with_reducible refine w_c ?_)
    (with_reducible refine w_p18 ?_)
    ((with_reducible refine w_I ?hc ?_); (case hc => walk_at "side"))
    (with_reducible refine w_I0 ?_)
    (with_reducible refine w_op ?_)
    (with_reducible refine w_op ?_)
    ((with_reducible refine' w_var ?hv ?_); (case hv => exact rfl))
    (with_reducible refine w_c ?_)
    refine w_ixTs ht2 (atI_of (v := .int c) (by decide) rfl) ?_
    (with_reducible refine w_op ?_)
    (with_reducible refine w_c ?_)
    (with_reducible refine w_c ?_)
    (with_reducible refine w_p14 ?_)
    ((with_reducible refine w_I ?hc ?_); (case hc => walk_at "side"))
    (with_reducible refine w_I0 ?_)
    have e := q H2 (sm.trans sm2)
    rw [enc_dss] at e
    exact e
  | dsi ha hb =>
    rename_i a b c
    have hn13 : ¬ n < 13 := fun z => absurd (of.mpr z) (by show ¬ (("dsi" : Str) = "dss"); decide)
    unfold R16 at ha hb
    refine w_ixTs (sm.sqT ht) (atI_of (v := .int a) (by decide) rfl) ?_
    (with_reducible refine w_op ?_)
    (with_reducible refine w_c ?_)
    (with_reducible refine w_c ?_)
    (with_reducible refine w_p22 ?_)
    ((with_reducible refine w_I ?hc ?_); (case hc => walk_at "side"))
    (with_reducible refine w_I0 ?_)
    (with_reducible refine w_name ?_)
    (with_reducible refine w_seq ?_)
    (with_reducible refine w_ifS ?_)
    (with_reducible refine w_test ?_)
    (with_reducible refine w_op ?_)
    (with_reducible refine w_cb ?_)
    (with_reducible refine w_cons ?_)
    ((with_reducible refine' w_var ?hv ?_); (case hv => exact rfl))
    (with_reducible refine w_nil ?_)
    refine w_lenTn 4 (sm.sqT ht) rfl ?_
    (with_reducible refine w_c ?_)
    (with_reducible refine w_eqI ?_)
    (with_reducible refine w_bl ?_)
    (refine w_decF ?hd ?_; (case hd => decide))
    (with_reducible refine w_next ?_)
    (with_reducible refine w_seq ?_)
    (with_reducible refine w_ifS ?_)
    (with_reducible refine w_test ?_)
    (with_reducible refine w_op ?_)
    (with_reducible refine w_cb ?_)
    (with_reducible refine w_cons ?_)
    ((with_reducible refine' w_var ?hv ?_); (case hv => exact rfl))
    (with_reducible refine w_nil ?_)
    refine w_lenTn 4 (sm.sqT ht) rfl ?_
    (with_reducible refine w_c ?_)
    (with_reducible refine w_eqI ?_)
    (with_reducible refine w_bl ?_)
    (refine w_decF ?hd ?_; (case hd => decide))
    (with_reducible refine w_next ?_)
    (with_reducible refine w_seq ?_)
    (with_reducible refine w_ifS ?_)
    (with_reducible refine w_test ?_)
    (with_reducible refine w_op ?_)
    (with_reducible refine w_bm ?_)
    (with_reducible refine w_call ?_)
    (with_reducible refine w_nil ?_)
    refine ⟨rfl, fun p2 H2 np2 sm2 hp2 => ?_⟩
    have ht2 := (sm.trans sm2).sqT ht
    ((with_reducible refine' w_tyL ?hh ?_); (case hh => assumption))
    (with_reducible refine w_cons ?_)
    (with_reducible refine w_op ?_)
    ((with_reducible refine' w_var ?hv ?_); (case hv => exact rfl))
    (with_reducible refine w_c ?_)
    refine w_ixTs ht2 (atI_of (v := .str op) (by decide) rfl) ?_
    (with_reducible refine w_nil ?_)
    refine w_lix hp2 at1 at2 ?_
    (with_reducible refine w_c ?_)
    (with_reducible refine w_I0 ?_)
    (with_reducible refine w_bl ?_)
    refine w_decF (by omega) ?_
    (with_reducible refine w_next ?_)
    (with_reducible refine w_ret ?_)
    (with_reducible refine w_op ?_)
    (with_reducible refine w_op ?_)
    ((with_reducible refine' w_var ?hv ?_); (case hv => exact rfl))
    (with_reducible refine w_op ?_)
    (with_reducible refine w_op ?_)
    ((with_reducible refine' w_var ?hv ?_); (case hv => exact rfl))
    (with_reducible refine w_c ?_)
    refine w_ixTs ht2 (atI_of (v := .int b) (by decide) rfl) ?_
    (with_reducible refine w_op ?_)
    (with_reducible refine w_c ?_)
    (with_reducible refine w_c ?_)
    (with_reducible refine w_p18 ?_)
    ((with_reducible refine w_I ?hc ?_); (case hc => walk_at "side"))
    (with_reducible refine w_I0 ?_)
    (with_reducible refine w_op ?_)
    (with_reducible refine w_cb ?_)
    (with_reducible refine w_cons ?_)
    (with_reducible refine w_op ?_)
    ((with_reducible refine' w_var ?hv ?_); (case hv => exact rfl))
    (with_reducible refine w_c ?_)
    refine w_ixTs ht2 (atI_of (v := .int c) (by decide) rfl) ?_
    (with_reducible refine w_nil ?_)
    (with_reducible refine w_int1 ?_)
    (with_reducible refine w_op ?_)
    (with_reducible refine w_c ?_)
    (with_reducible refine w_c ?_)
    (with_reducible refine w_p14 ?_)
    ((with_reducible refine w_I ?hc ?_); (case hc => walk_at "side"))
    (with_reducible refine w_I0 ?_)
    have e := q H2 (sm.trans sm2)
    rw [enc_dsi] at e
    exact e
  | ssi ha hb =>
    rename_i a b c
    have hn13 : ¬ n < 13 := fun z => absurd (of.mpr z) (by show ¬ (("ssi" : Str) = "dss"); decide)
    unfold R16 at ha hb
    refine w_ixTs (sm.sqT ht) (atI_of (v := .int a) (by decide) rfl) ?_
    (with_reducible refine w_op ?_)
    (with_reducible refine w_c ?_)
    (with_reducible refine w_c ?_)
    (with_reducible refine w_p22 ?_)
    ((with_reducible refine w_I ?hc ?_); (case hc => walk_at "side"))
    (with_reducible refine w_I0 ?_)
    (with_reducible refine w_name ?_)
    (with_reducible refine w_seq ?_)
    (with_reducible refine w_ifS ?_)
    (with_reducible refine w_test ?_)
    (with_reducible refine w_op ?_)
    (with_reducible refine w_cb ?_)
    (with_reducible refine w_cons ?_)
    ((with_reducible refine' w_var ?hv ?_); (case hv => exact rfl))
    (with_reducible refine w_nil ?_)
    refine w_lenTn 4 (sm.sqT ht) rfl ?_
    (with_reducible refine w_c ?_)
    (with_reducible refine w_eqI ?_)
    (with_reducible refine w_bl ?_)
    (refine w_decF ?hd ?_; (case hd => decide))
    (with_reducible refine w_next ?_)
    (with_reducible refine w_seq ?_)
    (with_reducible refine w_ifS ?_)
    (with_reducible refine w_test ?_)
    (with_reducible refine w_op ?_)
    (with_reducible refine w_cb ?_)
    (with_reducible refine w_cons ?_)
    ((with_reducible refine' w_var ?hv ?_); (case hv => exact rfl))
    (with_reducible refine w_nil ?_)
    refine w_lenTn 4 (sm.sqT ht) rfl ?_
    (with_reducible refine w_c ?_)
    (with_reducible refine w_eqI ?_)
    (with_reducible refine w_bl ?_)
    (refine w_decF ?hd ?_; (case hd => decide))
    (with_reducible refine w_next ?_)
    (with_reducible refine w_seq ?_)
    (with_reducible refine w_ifS ?_)
    (with_reducible refine w_test ?_)
    (with_reducible refine w_op ?_)
    (with_reducible refine w_bm ?_)
    (with_reducible refine w_call ?_)
    (with_reducible refine w_nil ?_)
    refine ⟨rfl, fun p2 H2 np2 sm2 hp2 => ?_⟩
    have ht2 := (sm.trans sm2).sqT ht
    ((with_reducible refine' w_tyL ?hh ?_); (case hh => assumption))
    (with_reducible refine w_cons ?_)
    (with_reducible refine w_op ?_)
    ((with_reducible refine' w_var ?hv ?_); (case hv => exact rfl))
    (with_reducible refine w_c ?_)
    refine w_ixTs ht2 (atI_of (v := .str op) (by decide) rfl) ?_
    (with_reducible refine w_nil ?_)
    refine w_lix hp2 at1 at2 ?_
    (with_reducible refine w_c ?_)
    (with_reducible refine w_I0 ?_)
    (with_reducible refine w_bl ?_)
    refine w_decF (by omega) ?_
    (with_reducible refine w_next ?_)
    (with_reducible refine w_ret ?_)
    (with_reducible refine w_op ?_)
    (with_reducible refine w_op ?_)
    ((with_reducible refine' w_var ?hv ?_); (case hv => exact rfl))
    (with_reducible refine w_op ?_)
    (with_reducible refine w_op ?_)
    ((with_reducible refine' w_var ?hv ?_); (case hv => exact rfl))
    (with_reducible refine w_c ?_)
    refine w_ixTs ht2 (atI_of (v := .int b) (by decide) rfl) ?_
    (with_reducible refine w_op ?_)
    (with_reducible refine w_c ?_)
    (with_reducible refine w_c ?_)
    (with_reducible refine w_p18 ?_)
    ((with_reducible refine w_I ?hc ?_); (case hc => walk_at "side"))
    (with_reducible refine w_I0 ?_)
    (with_reducible refine w_op ?_)
    (with_reducible refine w_cb ?_)
    (with_reducible refine w_cons ?_)
    (with_reducible refine w_op ?_)
    ((with_reducible refine' w_var ?hv ?_); (case hv => exact rfl))
    (with_reducible refine w_c ?_)
    refine w_ixTs ht2 (atI_of (v := .int c) (by decide) rfl) ?_
    (with_reducible refine w_nil ?_)
    (with_reducible refine w_int1 ?_)
    (with_reducible refine w_op ?_)
    (with_reducible refine w_c ?_)
    (with_reducible refine w_c ?_)
    (with_reducible refine w_p14 ?_)
    ((with_reducible refine w_I ?hc ?_); (case hc => walk_at "side"))
    (with_reducible refine w_I0 ?_)
    have e := q H2 (sm.trans sm2)
    rw [enc_ssi] at e
    exact e
  | du ha =>
    rename_i a c
    unfold R16 at ha
    refine w_ixTs (sm.sqT ht) (atI_of (v := .int a) (by decide) rfl) ?_
    (with_reducible refine w_op ?_)
    (with_reducible refine w_c ?_)
    (with_reducible refine w_c ?_)
    (with_reducible refine w_p22 ?_)
    ((with_reducible refine w_I ?hc ?_); (case hc => walk_at "side"))
    (with_reducible refine w_I0 ?_)
    (with_reducible refine w_name ?_)
    (with_reducible refine w_seq ?_)
    (with_reducible refine w_ifS ?_)
    (with_reducible refine w_test ?_)
    (with_reducible refine w_op ?_)
    (with_reducible refine w_cb ?_)
    (with_reducible refine w_cons ?_)
    ((with_reducible refine' w_var ?hv ?_); (case hv => exact rfl))
    (with_reducible refine w_nil ?_)
    refine w_lenTn 3 (sm.sqT ht) rfl ?_
    (with_reducible refine w_c ?_)
    (with_reducible refine w_eqI ?_)
    (with_reducible refine w_bl ?_)
    (refine w_decF ?hd ?_; (case hd => decide))
    (with_reducible refine w_next ?_)
    (with_reducible refine w_seq ?_)
    (with_reducible refine w_ifS ?_)
    (with_reducible refine w_test ?_)
    (with_reducible refine w_op ?_)
    (with_reducible refine w_cb ?_)
    (with_reducible refine w_cons ?_)
    ((with_reducible refine' w_var ?hv ?_); (case hv => exact rfl))
    (with_reducible refine w_nil ?_)
    refine w_lenTn 3 (sm.sqT ht) rfl ?_
    (with_reducible refine w_c ?_)
    (with_reducible refine w_eqI ?_)
    (with_reducible refine w_bl ?_)
    (refine w_decT ?hd ?_; (case hd => decide))
    (with_reducible refine w_ret ?_)
    (with_reducible refine w_op ?_)
    ((with_reducible refine' w_var ?hv ?_); (case hv => exact rfl))
    (with_reducible refine w_op ?_)
    (with_reducible refine w_cb ?_)
    (with_reducible refine w_cons ?_)
    (with_reducible refine w_op ?_)
    ((with_reducible refine' w_var ?hv ?_); (case hv => exact rfl))
    (with_reducible refine w_c ?_)
    refine w_ixTs (sm.sqT ht) (atI_of (v := .int c) (by decide) rfl) ?_
    (with_reducible refine w_nil ?_)
    (with_reducible refine w_int1 ?_)
    (with_reducible refine w_op ?_)
    (with_reducible refine w_c ?_)
    (with_reducible refine w_c ?_)
    (with_reducible refine w_p18 ?_)
    ((with_reducible refine w_I ?hc ?_); (case hc => walk_at "side"))
    (with_reducible refine w_I0 ?_)
    have e := q H1 sm
    rw [enc_du] at e
    exact e
  | dj ha =>
    rename_i a c
    unfold R16 at ha
    refine w_ixTs (sm.sqT ht) (atI_of (v := .int a) (by decide) rfl) ?_
    (with_reducible refine w_op ?_)
    (with_reducible refine w_c ?_)
    (with_reducible refine w_c ?_)
    (with_reducible refine w_p22 ?_)
    ((with_reducible refine w_I ?hc ?_); (case hc => walk_at "side"))
    (with_reducible refine w_I0 ?_)
    (with_reducible refine w_name ?_)
    (with_reducible refine w_seq ?_)
    (with_reducible refine w_ifS ?_)
    (with_reducible refine w_test ?_)
    (with_reducible refine w_op ?_)
    (with_reducible refine w_cb ?_)
    (with_reducible refine w_cons ?_)
    ((with_reducible refine' w_var ?hv ?_); (case hv => exact rfl))
    (with_reducible refine w_nil ?_)
    refine w_lenTn 3 (sm.sqT ht) rfl ?_
    (with_reducible refine w_c ?_)
    (with_reducible refine w_eqI ?_)
    (with_reducible refine w_bl ?_)
    (refine w_decF ?hd ?_; (case hd => decide))
    (with_reducible refine w_next ?_)
    (with_reducible refine w_seq ?_)
    (with_reducible refine w_ifS ?_)
    (with_reducible refine w_test ?_)
    (with_reducible refine w_op ?_)
    (with_reducible refine w_cb ?_)
    (with_reducible refine w_cons ?_)
    ((with_reducible refine' w_var ?hv ?_); (case hv => exact rfl))
    (with_reducible refine w_nil ?_)
    refine w_lenTn 3 (sm.sqT ht) rfl ?_
    (with_reducible refine w_c ?_)
    (with_reducible refine w_eqI ?_)
    (with_reducible refine w_bl ?_)
    (refine w_decT ?hd ?_; (case hd => decide))
    (with_reducible refine w_ret ?_)
    (with_reducible refine w_op ?_)
    ((with_reducible refine' w_var ?hv ?_); (case hv => exact rfl))
    (with_reducible refine w_op ?_)
    (with_reducible refine w_cb ?_)
    (with_reducible refine w_cons ?_)
    (with_reducible refine w_op ?_)
    ((with_reducible refine' w_var ?hv ?_); (case hv => exact rfl))
    (with_reducible refine w_c ?_)
    refine w_ixTs (sm.sqT ht) (atI_of (v := .int c) (by decide) rfl) ?_
    (with_reducible refine w_nil ?_)
    (with_reducible refine w_int1 ?_)
    (with_reducible refine w_op ?_)
    (with_reducible refine w_c ?_)
    (with_reducible refine w_c ?_)
    (with_reducible refine w_p18 ?_)
    ((with_reducible refine w_I ?hc ?_); (case hc => walk_at "side"))
    (with_reducible refine w_I0 ?_)
    have e := q H1 sm
    rw [enc_dj] at e
    exact e
  | d ha =>
    rename_i a
    unfold R16 at ha
    refine w_ixTs (sm.sqT ht) (atI_of (v := .int a) (by decide) rfl) ?_
    (with_reducible refine w_op ?_)
    (with_reducible refine w_c ?_)
    (with_reducible refine w_c ?_)
    (with_reducible refine w_p22 ?_)
    ((with_reducible refine w_I ?hc ?_); (case hc => walk_at "side"))
    (with_reducible refine w_I0 ?_)
    (with_reducible refine w_name ?_)
    (with_reducible refine w_seq ?_)
    (with_reducible refine w_ifS ?_)
    (with_reducible refine w_test ?_)
    (with_reducible refine w_op ?_)
    (with_reducible refine w_cb ?_)
    (with_reducible refine w_cons ?_)
    ((with_reducible refine' w_var ?hv ?_); (case hv => exact rfl))
    (with_reducible refine w_nil ?_)
    refine w_lenTn 2 (sm.sqT ht) rfl ?_
    (with_reducible refine w_c ?_)
    (with_reducible refine w_eqI ?_)
    (with_reducible refine w_bl ?_)
    (refine w_decT ?hd ?_; (case hd => decide))
    (with_reducible refine w_ret ?_)
    ((with_reducible refine' w_var ?hv ?_); (case hv => exact rfl))
    have e := q H1 sm
    rw [enc_d] at e
    exact e
  | s ha =>
    rename_i a
    unfold R16 at ha
    refine w_ixTs (sm.sqT ht) (atI_of (v := .int a) (by decide) rfl) ?_
    (with_reducible refine w_op ?_)
    (with_reducible refine w_c ?_)
    (with_reducible refine w_c ?_)
    (with_reducible refine w_p22 ?_)
    ((with_reducible refine w_I ?hc ?_); (case hc => walk_at "side"))
    (with_reducible refine w_I0 ?_)
    (with_reducible refine w_name ?_)
    (with_reducible refine w_seq ?_)
    (with_reducible refine w_ifS ?_)
    (with_reducible refine w_test ?_)
    (with_reducible refine w_op ?_)
    (with_reducible refine w_cb ?_)
    (with_reducible refine w_cons ?_)
    ((with_reducible refine' w_var ?hv ?_); (case hv => exact rfl))
    (with_reducible refine w_nil ?_)
    refine w_lenTn 2 (sm.sqT ht) rfl ?_
    (with_reducible refine w_c ?_)
    (with_reducible refine w_eqI ?_)
    (with_reducible refine w_bl ?_)
    (refine w_decT ?hd ?_; (case hd => decide))
    (with_reducible refine w_ret ?_)
    ((with_reducible refine' w_var ?hv ?_); (case hv => exact rfl))
    have e := q H1 sm
    rw [enc_s] at e
    exact e
end
end K05


open PySem.W
namespace K05
local macro_rules | `(tactic| walk_at "w1") => `(tactic| first
  | (with_reducible refine w_hex ?_)
  | (with_reducible refine w_fmt ?_)
  | (with_reducible refine w_J ?_)
  | (with_reducible refine w_Js ?_)
  | (with_reducible refine w_Js0 ?_)
  | (with_reducible refine w_isNN ?_)
  | (with_reducible refine w_isNR ?_)
  | (with_reducible refine w_m1 ?_)
  | (with_reducible refine w_isS ?_))
theorem sc_show_instruction : FnScope ["instruction", "op", "shown", "kind", "operand"] ["instruction"] (defScope s_show_instruction) := ⟨rfl, rfl, rfl, by decide +kernel, rfl, by decide +kernel, by decide +kernel⟩
theorem sc_show_operand : FnScope ["kind", "operand"] ["kind", "operand"] (defScope s_show_operand) := ⟨rfl, rfl, rfl, by decide +kernel, rfl, by decide +kernel, by decide +kernel⟩
/-! ### instructions as texts -/
def opT (c : Nat) (x : Int) : Str := if c = 100 ∨ c = 115 then ("r" : Str) ++ dcT x else dcT x
def opsTx (fm : Str) (xs : List Int) : List Str := (fm.cps.toList.zip xs).map fun p => opT p.1 p.2
def insT (op fm : Str) (xs : List Int) : Str := op ++ (" " : Str) ++ Txt.join (", " : Str) (opsTx fm xs)
def fmOf (op : Str) : Str := match opsT.find? (fun p => decide (p.1 = op)) with | some p => p.2 | none => ""
theorem fmOf_all : ∀ p ∈ opsT, fmOf p.1 = p.2 := by decide +kernel
theorem Ins.fm {n : Nat} {op fm : Str} {xs : List Int} (h : Ins n op fm xs) : fm = fmOf op := (fmOf_all _ (List.mem_of_getElem? h.at_)).symm
theorem opT_len {c : Nat} {x : Int} (h : x.natAbs < 4294967296) : (opT c x).length ≤ 12 := by
  have := dcT_len h
  unfold opT
  split
  · rw [cat_len]; have e : ("r" : Str).length = 1 := by decide +kernel
    omega
  · omega
theorem op_len : ∀ p ∈ opsT, p.1.length ≤ 4 := by decide +kernel
def spOpd : Sp := fun vs H Q _ => ∃ (c : Nat) (x : Int), vs = [.str ⟨#[c]⟩, .int x] ∧ x.natAbs < 4294967296 ∧ Q (.str (opT c x)) H
def spShow (K : PySem.W.Frag) : Sp := fun vs H Q _ => ∃ (t : Addr) (n : Nat) (op fm : Str) (xs : List Int), vs = [.ref t] ∧ SqT K H t (insV op xs) ∧ Ins n op fm xs ∧ ∀ H', Same H H' → Q (.str (insT op fm xs)) H'
theorem join_len (a : Str) : ∀ ys : List Str, (Txt.join a ys).length ≤ (ys.map (·.length)).sum + ys.length * a.length := by
  intro ys
  rw [TL.join_eq]
  induction ys with
  | nil => rw [Str.join]; exact Nat.zero_le _
  | cons x r ih =>
    cases r with
    | nil => simp [Str.join]
    | cons y r =>
      show (x ++ a ++ Str.join a (y :: r)).length ≤ _
      rw [cat_len, cat_len]
      simp only [List.map_cons, List.sum_cons, List.length_cons] at ih ⊢
      have e : (r.length + 1 + 1) * a.length = (r.length + 1) * a.length + a.length := by rw [Nat.add_mul (r.length + 1) 1]; omega
      omega
theorem hx_all : ∀ k < 16, atI ("0123456789abcdef" : Str).cps.toList ((k : Nat) : Int) = some (hxd k) := by decide +kernel
theorem hx_at (n : Nat) : atI ("0123456789abcdef" : Str).cps.toList ((n : Int) % 16) = some (hxd n) := by
  have h := hx_all (n % 16) (Nat.mod_lt _ (by decide))
  have e : hxd (n % 16) = hxd n := by unfold hxd; rw [Nat.mod_mod]
  rw [e] at h
  exact h
def manyF (n l : Nat) : Int := if l = 1 ∨ n = 21 ∨ n = 33 then 1 else if n < 13 then 3 else 2
theorem many_all : ((List.range 38).all fun n => match opsT[n]? with
  | some p => (List.range p.2.cps.size).all fun j => decide ((p.2.cps.getD j 0 = 100 ∨ p.2.cps.getD j 0 = 115) ↔ 1 + (j : Int) ≤ manyF n p.2.cps.size)
  | none => true) = true := by decide +kernel
theorem many_ok {n : Nat} {op fm : Str} {xs : List Int} (hi : Ins n op fm xs) {j c : Nat} (h : fm.cps[j]? = some c) : (c = 100 ∨ c = 115) ↔ 1 + (j : Int) ≤ manyF n xs.length := by
  have a := List.all_eq_true.mp many_all n (List.mem_range.mpr hi.n38)
  rw [hi.at_] at a
  obtain ⟨hj, e⟩ := Array.getElem?_eq_some_iff.mp h
  have b := of_decide_eq_true (List.all_eq_true.mp a j (List.mem_range.mpr hj))
  rw [hi.fits.len.1] at b
  have g : fm.cps.getD j 0 = c := by rw [Array.getD_eq_getD_getElem?, h]; rfl
  rw [g] at b
  exact b
theorem opsTx_len {fm : Str} {xs : List Int} (h : ∀ x ∈ xs, x.natAbs < 4294967296) (h3 : xs.length ≤ 3) : ((opsTx fm xs).map (·.length)).sum + (opsTx fm xs).length * 2 ≤ 60 ∧ (Txt.join (", " : Str) (opsTx fm xs)).length ≤ 60 := by
  have l2 : (", " : Str).length = 2 := by decide +kernel
  have hn : (opsTx fm xs).length ≤ 3 := by unfold opsTx; rw [List.length_map, List.length_zip]; omega
  have hx : ∀ y ∈ opsTx fm xs, y.length ≤ 12 := fun y hy => by
    unfold opsTx at hy
    obtain ⟨p, hp, rfl⟩ := List.mem_map.mp hy
    exact opT_len (h _ (List.of_mem_zip hp).2)
  have hs : ∀ l : List Str, (∀ y ∈ l, y.length ≤ 12) → (l.map (·.length)).sum ≤ 12 * l.length := by
    intro l
    induction l with
    | nil => intro _; simp
    | cons y r ih =>
      intro h
      have := ih fun z hz => h z (List.mem_cons_of_mem _ hz)
      have := h y List.mem_cons_self
      simp only [List.map_cons, List.sum_cons, List.length_cons]
      omega
  have h1 := hs _ hx
  have h2 := join_len (", " : Str) (opsTx fm xs)
  rw [l2] at h2
  exact ⟨by omega, by omega⟩
section
variable {P : Program} {w : World} {K : PySem.W.Frag} {mg : Str → Option Value} {base : Heap}
theorem ok_show_operand (b_str : mg "str" = none) (Z : St1 K mg "_show_operand" s_show_operand ["kind", "operand"]) : Cd P w K mg base 1 "_show_operand" spOpd := by
  refine Z.cd sc_show_operand (fun vs H Q E h => by obtain ⟨c, x, rfl, _⟩ := h; rfl) (fun f cdv A outer s H vs Q E hr h => ?_)
  obtain ⟨c, x, rfl, hx, q⟩ := h
  refine ⟨_, (pss_one (ps_ret (pe_ifExp (pt_cmpR op_inSQ (pv 0) pe_str rfl) (pe_J (.cons pe_str (.cons (pe_fmt (pv 1)) .nil))) (pe_callTy call_strQ (by rfl) b_str (by decide +kernel) (pa_cons (pv 1) pa_nil))))), ?_⟩
  (with_reducible refine w_ret ?_)
  (with_reducible refine w_if ?_)
  (with_reducible refine w_test ?_)
  (with_reducible refine w_op ?_)
  ((with_reducible refine' w_var ?hv ?_); (case hv => exact rfl))
  (with_reducible refine w_c ?_)
  (with_reducible refine w_inSg ?_)
  (with_reducible refine w_bl ?_)
  refine w_dec (fun e => ?_) (fun e => ?_)
  · have e' : c = 100 ∨ c = 115 := by simpa using (show c ∈ [100, 115] from e)
    have l1 : ("r" : Str).length = 1 := by decide +kernel
    have l2 := dcT_len hx
    (with_reducible refine w_J ?_)
    (with_reducible refine w_Js ?_)
    (with_reducible refine w_c ?_)
    refine w_kJs (by rw [Str.empty_append, l1]; decide) ?_
    (with_reducible refine w_Js ?_)
    (with_reducible refine w_fmt ?_)
    ((with_reducible refine' w_var ?hv ?_); (case hv => exact rfl))
    refine w_kFmtI hx ?_
    refine w_kJs (by rw [Str.empty_append, cat_len, l1]; exact Nat.le_trans (Nat.add_le_add_left l2 1) (by decide)) ?_
    (with_reducible refine w_Js0 ?_)
    rw [Str.empty_append]
    unfold opT at q
    rw [if_pos e'] at q
    exact q
  · have e' : ¬ (c = 100 ∨ c = 115) := fun z => e (show c ∈ [100, 115] by simpa using z)
    (with_reducible refine w_cb ?_)
    (with_reducible refine w_cons ?_)
    ((with_reducible refine' w_var ?hv ?_); (case hv => exact rfl))
    (with_reducible refine w_nil ?_)
    refine w_strI hx ?_
    unfold opT at q
    rw [if_neg e'] at q
    exact q
theorem ok_show_instruction {O F : Addr} (T : Env0 K w mg O F) (b_zip : mg "zip" = none) (c_show_operand : Cd P w K mg base 1 "_show_operand" spOpd) (Z : St1 K mg "show_instruction" s_show_instruction ["instruction"]) : Cd P w K mg base 2 "show_instruction" (spShow K) := by
  obtain ⟨g_OPS, g_FORMS, g_LOW_14, g_LOW_18, ops, rows⟩ := T
  refine Z.cd sc_show_instruction (fun vs H Q E h => by obtain ⟨t, n, op, fm, xs, rfl, _⟩ := h; rfl) (fun f cdv A outer s H vs Q E hr h => ?_)
  obtain ⟨t, n, op, fm, xs, rfl, ht, hi, q⟩ := h
  have hr0 := rows (op, fm) (List.mem_of_getElem? hi.at_)
  obtain ⟨fl, f3, fb⟩ := hi.fits.len
  refine ⟨_, (pss_cons (ps_set (i := 1) sc_show_instruction.nd rfl (.inl rfl) (pe_ix ix_tup (pv 0) pe_int (fun _ _ => rfl)))
      (pss_cons (ps_setLc (i := 2) (own := [("kind", 3), ("operand", 4)]) rfl sc_show_instruction.nd rfl rfl (sw_true rfl rfl rfl (by decide +kernel)) (pi_zipST (by rfl) b_zip (pa_cons (pe_ix ix_kdict (pe_gv (by rfl) g_FORMS) (pv 1) (fun _ _ => rfl)) (pa_cons (pe_slice sl_tupA (pv 0) (po_some pe_int) po_none) pa_nil))) (blkOk_by (own := [("kind", 3), ("operand", 4)]) (N := ["instruction", "op", "shown", "kind", "operand"]) (sc := (defScope s_show_instruction)) (by decide +kernel)) (fun _ _ _ _ _ => (pg_tupK (K' := K) (n := 2) (by rfl) (by rfl) (pgs_cons (pg_name (i := 3) sc_show_instruction.nd (by rfl) (Or.inl (by rfl)) (by first | exact Or.inl rfl | exact Or.inr rfl)) (pgs_cons (pg_name (i := 4) sc_show_instruction.nd (by rfl) (Or.inl (by rfl)) (by first | exact Or.inl rfl | exact Or.inr rfl)) pgs_nil)))) (fun _ _ _ _ _ => pts_nil) (fun _ _ _ _ _ => (pe_cd c_show_operand hr (by first | decide | omega) (by rfl) (pa_cons (pv 3) (pa_cons (pv 4) pa_nil)))))
      (pss_one (ps_ret (pe_op op_addSQ (pe_op op_addSQ (pv 1) pe_str) (pe_m1 PySem.F.slot_str_join PySem.F.type_str_join mt_joinQ pe_str (pv 2))))))), ?_⟩
  (with_reducible refine w_seq ?_)
  (with_reducible refine w_asg ?_)
  (with_reducible refine w_op ?_)
  ((with_reducible refine' w_var ?hv ?_); (case hv => exact rfl))
  (with_reducible refine w_c ?_)
  refine w_ixTs ht (atI_of (v := .str op) (by decide) rfl) ?_
  (with_reducible refine w_name ?_)
  (with_reducible refine w_seq ?_)
  (with_reducible refine w_asg ?_)
  (with_reducible refine w_lc ?_)
  (with_reducible refine w_zST ?_)
  (with_reducible refine w_cons ?_)
  (with_reducible refine w_op ?_)
  (with_reducible refine w_c ?_)
  ((with_reducible refine' w_var ?hv ?_); (case hv => exact rfl))
  refine w_ixD hr0 ?_
  (with_reducible refine w_cons ?_)
  (with_reducible refine w_sl ?_)
  ((with_reducible refine' w_var ?hv ?_); (case hv => exact rfl))
  (with_reducible refine w_part ?_)
  (with_reducible refine w_c ?_)
  (with_reducible refine w_exI ?_)
  (with_reducible refine w_noPart ?_)
  obtain ⟨x0, xr, rfl⟩ : ∃ x0 xr, xs = x0 :: xr := by cases hi.fits <;> exact ⟨_, _, rfl⟩
  refine w_rSl1 ht fun p H1 np sm hp => ?_
  (with_reducible refine w_nil ?_)
  have zl : (fm.cps.toList.zip (x0 :: xr)).length = (x0 :: xr).length := by rw [List.length_zip]; simp only [Array.length_toList, fl, Nat.min_self]
  let ys : Nat → List Str := fun i => ((fm.cps.toList.zip (x0 :: xr)).take i).map fun p => opT p.1 p.2
  refine w_lcZ ((x0 :: xr).map V.int) (fun D i H' => H1 D = none ∧ Same H1 H' ∧ H' D = some (.lst ((ys i).map V.str)) ∧ (ys i).length ≤ i) (.of hp) (by rw [List.length_map]; exact fl) (fun D nD => ⟨nD, Same.new nD, upd_same, Nat.le_refl _⟩) (fun D i H' ⟨_, sm', _⟩ => .of (sm' _ _ hp)) ?_ ?_
  · rintro D i c y T H' H'' hc hy ⟨nD, sm', hD, hul⟩ nT sT hT
    obtain ⟨x, hx, rfl⟩ := map_get hy
    have hil : i < (x0 :: xr).length := (List.getElem?_eq_some_iff.mp hx).1
    have hb := fb x (List.mem_of_getElem? hx)
    have hz : (fm.cps.toList.zip (x0 :: xr))[i]? = some (c, x) := by
      rw [List.getElem?_zip_eq_some]
      exact ⟨by simpa using hc, hx⟩
    have tk := take_more hz
    have ey : ys (i + 1) = ys i ++ [opT c x] := by
      show List.map _ _ = _
      rw [tk, List.map_append]
      rfl
    ((with_reducible refine' w_gTup ?hh ?hn ?_); (case hh => assumption); (case hn => exact rfl))
    (with_reducible refine w_gCons ?_)
    (with_reducible refine w_name ?_)
    (with_reducible refine w_gCons ?_)
    (with_reducible refine w_name ?_)
    (with_reducible refine w_gNil ?_)
    refine ⟨rfl, ?_⟩
    (with_reducible refine w_yes ?_)
    (with_reducible refine w_itT ?_)
    (with_reducible refine w_call ?_)
    (with_reducible refine w_cons ?_)
    ((with_reducible refine' w_var ?hv ?_); (case hv => exact rfl))
    (with_reducible refine w_cons ?_)
    ((with_reducible refine' w_var ?hv ?_); (case hv => exact rfl))
    (with_reducible refine w_nil ?_)
    refine ⟨c, x, rfl, by omega, ?_⟩
    refine ⟨_, sT _ _ hD, by rw [List.length_map]; exact small1000 (by omega), nD, fun b o h => ?_, ?_, ?_⟩
    · rw [upd_ne (ne_of_none h nD)]; exact sT _ _ (sm' b o h)
    · rw [upd_same, ey, List.map_append]; rfl
    · rw [ey, List.length_append]; simp; omega
  · rintro D H' nD ⟨_, sm', hD, hul⟩
    have ey : ys ((x0 :: xr).map V.int).length = opsTx fm (x0 :: xr) := by
      show List.map _ _ = _
      rw [List.length_map, ← zl, List.take_length]; rfl
    rw [ey] at hD hul
    have o4 := op_len _ (List.mem_of_getElem? hi.at_)
    simp only at o4
    have l1 : (" " : Str).length = 1 := by decide +kernel
    have l2 : (", " : Str).length = 2 := by decide +kernel
    have hb3 : ∀ x ∈ x0 :: xr, x.natAbs < 4294967296 := fun x hx => by have := fb x hx; omega
    obtain ⟨js, jl⟩ := opsTx_len (fm := fm) hb3 f3
    (with_reducible refine w_name ?_)
    (with_reducible refine w_ret ?_)
    (with_reducible refine w_op ?_)
    (with_reducible refine w_op ?_)
    ((with_reducible refine' w_var ?hv ?_); (case hv => exact rfl))
    (with_reducible refine w_c ?_)
    refine w_addS (by rw [l1]; exact Nat.le_trans (Nat.add_le_add_right o4 1) (by decide)) ?_
    (with_reducible refine w_m1 ?_)
    (with_reducible refine w_c ?_)
    (with_reducible refine w_isS ?_)
    ((with_reducible refine' w_var ?hv ?_); (case hv => exact rfl))
    refine w_joinL (opsTx fm (x0 :: xr)) (.of hD) (by rw [l2]; omega) ?_
    refine w_addS (by rw [cat_len, l1]; exact Nat.le_trans (show _ ≤ 100 by omega) (by decide)) ?_
    exact q _ (sm.trans (sm'.trans (Same.refl _)))
end
end K05


open PySem.W
namespace K05
local macro_rules | `(tactic| walk_at "w1") => `(tactic| first
  | (with_reducible refine w_isiN ?_)
  | (with_reducible refine w_isiS ?_)
  | (with_reducible refine w_endsQ ?_)
  | (with_reducible refine w_m1 ?_)
  | (with_reducible refine w_isS ?_))
theorem sc_is_number : FnScope ["value"] ["value"] (defScope s_is_number) := ⟨rfl, rfl, rfl, by decide +kernel, rfl, by decide +kernel, by decide +kernel⟩
theorem sc_is_word : FnScope ["value"] ["value"] (defScope s_is_word) := ⟨rfl, rfl, rfl, by decide +kernel, rfl, by decide +kernel, by decide +kernel⟩
theorem sc_is_operand : FnScope ["kind", "value", "low", "high"] ["kind", "value"] (defScope s_is_operand) := ⟨rfl, rfl, rfl, by decide +kernel, rfl, by decide +kernel, by decide +kernel⟩
theorem sc_is_name : FnScope ["value", "sign"] ["value"] (defScope s_is_name) := ⟨rfl, rfl, rfl, by decide +kernel, rfl, by decide +kernel, by decide +kernel⟩
theorem sc_number_of : FnScope ["text", "digits", "sign"] ["text"] (defScope s_number_of) := ⟨rfl, rfl, rfl, by decide +kernel, rfl, by decide +kernel, by decide +kernel⟩
theorem sc_value_of : FnScope ["kind", "operand", "value"] ["kind", "operand"] (defScope s_value_of) := ⟨rfl, rfl, rfl, by decide +kernel, rfl, by decide +kernel, by decide +kernel⟩
def optV : Option Int → V
  | none => .non
  | some i => .int i
def spIsNum : Sp := fun vs H Q _ => ∃ o : Option Int, vs = [optV o] ∧ Q (.bl o.isSome) H
theorem w_isNumS {i : Int} {H : Hp} {Q : VK} {E : XK} (q : Q (.bl true) H) : spIsNum [.int i] H Q E := ⟨some i, rfl, q⟩
theorem w_isNumN {H : Hp} {Q : VK} {E : XK} (q : Q (.bl false) H) : spIsNum [.non] H Q E := ⟨none, rfl, q⟩
local macro_rules | `(tactic| walk_at "w1") => `(tactic| first
  | (with_reducible refine w_isNumS ?_)
  | (with_reducible refine w_isNumN ?_))
def bnd (c : Nat) : Int × Int := if c = 100 ∨ c = 115 then (0, 15) else if c = 105 then (-8192, 8191) else if c = 106 then (-131072, 131071) else (0, 262143)
def inB (c : Nat) (i : Int) : Bool := decide ((bnd c).1 ≤ i) && decide (i ≤ (bnd c).2)
def spIsW : Sp := fun vs H Q _ => ∃ o : Option Int, vs = [optV o] ∧ Q (.bl (o.any fun i => decide (0 ≤ i) && decide (i ≤ 4294967295))) H
def kinds : List Nat := [100, 115, 105, 106, 117]
def spIsOp : Sp := fun vs H Q _ => ∃ (c : Nat) (o : Option Int), vs = [.str (SS [c]), optV o] ∧ c ∈ kinds ∧ Q (.bl (o.any (inB c))) H
section
variable {P : Program} {w : World} {K : PySem.W.Frag} {mg : Str → Option Value} {base : Heap}
theorem ok_is_number (b_isinstance : mg "isinstance" = none) (b_int : mg "int" = none) (b_bool : mg "bool" = none) (Z : St1 K mg "is_number" s_is_number ["value"]) : Cd P w K mg base 1 "is_number" spIsNum := by
  refine Z.cd sc_is_number (fun vs H Q E h => by obtain ⟨o, rfl, _⟩ := h; rfl) (fun f cdv A outer s H vs Q E hr h => ?_)
  obtain ⟨o, rfl, q⟩ := h
  refine ⟨_, (pss_one (ps_ret (pe_and (pe_callB call_isi (by rfl) b_isinstance (by decide +kernel) (pa_cons (pv 0) (pa_cons (pe_bltn (v := .ty "int") (by rfl) b_int (by decide +kernel) rfl) pa_nil))) (pe_one (pe_not (pe_callB call_isi (by rfl) b_isinstance (by decide +kernel) (pa_cons (pv 0) (pa_cons (pe_bltn (v := .ty "bool") (by rfl) b_bool (by decide +kernel) rfl) pa_nil)))))))), ?_⟩
  cases o with
  | none =>
    simp only [optV] at *
    (with_reducible refine w_ret ?_)
    (with_reducible refine w_andV ?_)
    (with_reducible refine w_cb ?_)
    (with_reducible refine w_cons ?_)
    ((with_reducible refine' w_var ?hv ?_); (case hv => exact rfl))
    (with_reducible refine w_cons ?_)
    (with_reducible refine w_c ?_)
    (with_reducible refine w_nil ?_)
    (with_reducible refine w_isiN ?_)
    (with_reducible refine w_bl ?_)
    (with_reducible refine w_itF ?_)
    exact q
  | some i =>
    simp only [optV] at *
    (with_reducible refine w_ret ?_)
    (with_reducible refine w_andV ?_)
    (with_reducible refine w_cb ?_)
    (with_reducible refine w_cons ?_)
    ((with_reducible refine' w_var ?hv ?_); (case hv => exact rfl))
    (with_reducible refine w_cons ?_)
    (with_reducible refine w_c ?_)
    (with_reducible refine w_nil ?_)
    (with_reducible refine w_isiInt ?_)
    (with_reducible refine w_bl ?_)
    (with_reducible refine w_itT ?_)
    (with_reducible refine w_notV ?_)
    (with_reducible refine w_cb ?_)
    (with_reducible refine w_cons ?_)
    ((with_reducible refine' w_var ?hv ?_); (case hv => exact rfl))
    (with_reducible refine w_cons ?_)
    (with_reducible refine w_c ?_)
    (with_reducible refine w_nil ?_)
    (with_reducible refine w_isiIntB ?_)
    (with_reducible refine w_bl ?_)
    exact q
theorem ok_is_word (g_MASK : GV mg "MASK" (.int 4294967295)) (c_is_number : Cd P w K mg base 1 "is_number" spIsNum) (Z : St1 K mg "is_word" s_is_word ["value"]) : Cd P w K mg base 2 "is_word" spIsW := by
  refine Z.cd sc_is_word (fun vs H Q E h => by obtain ⟨o, rfl, _⟩ := h; rfl) (fun f cdv A outer s H vs Q E hr h => ?_)
  obtain ⟨o, rfl, q⟩ := h
  refine ⟨_, (pss_one (ps_ret (pe_and (pe_cd c_is_number hr (by first | decide | omega) (by rfl) (pa_cons (pv 0) pa_nil)) (pe_one (pe_chain op_le op_le pe_int (pv 0) (pe_gv (by rfl) g_MASK)))))), ?_⟩
  cases o with
  | none =>
    simp only [optV] at *
    (with_reducible refine w_ret ?_)
    (with_reducible refine w_andV ?_)
    (with_reducible refine w_call ?_)
    (with_reducible refine w_cons ?_)
    ((with_reducible refine' w_var ?hv ?_); (case hv => exact rfl))
    (with_reducible refine w_nil ?_)
    (with_reducible refine w_isNumN ?_)
    (with_reducible refine w_bl ?_)
    (with_reducible refine w_itF ?_)
    exact q
  | some i =>
    simp only [optV] at *
    (with_reducible refine w_ret ?_)
    (with_reducible refine w_andV ?_)
    (with_reducible refine w_call ?_)
    (with_reducible refine w_cons ?_)
    ((with_reducible refine' w_var ?hv ?_); (case hv => exact rfl))
    (with_reducible refine w_nil ?_)
    (with_reducible refine w_isNumS ?_)
    (with_reducible refine w_bl ?_)
    (with_reducible refine w_itT ?_)
    (with_reducible refine w_chain ?_)
    (with_reducible refine w_c ?_)
    ((with_reducible refine' w_var ?hv ?_); (case hv => exact rfl))
    (with_reducible refine w_I0 ?_)
    (with_reducible refine w_bl ?_)
    refine w_dec (fun e1 => ?_) (fun e1 => ?_)
    · have e : ((some i).any fun i => decide (0 ≤ i) && decide (i ≤ 4294967295)) = decide (i ≤ 4294967295) := by simp [e1]
      rw [e] at q
      (with_reducible refine w_c ?_)
      (with_reducible refine w_I0 ?_)
      exact q
    · have e : ((some i).any fun i => decide (0 ≤ i) && decide (i ≤ 4294967295)) = false := by simp [e1]
      rw [e] at q
      skip
      exact q
structure BndAt (K : PySem.W.Frag) (w : World) (mg : Str → Option Value) (B : Addr) : Prop where
  g : GV mg "BOUNDS" (.ref B)
  rows : ∀ c ∈ kinds, ∃ t, KDct K w B (SS [c]) (.ref t) ∧ WTup K t [.int (bnd c).1, .int (bnd c).2]
theorem ok_is_operand {B : Addr} (T : BndAt K w mg B) (c_is_number : Cd P w K mg base 1 "is_number" spIsNum) (Z : St1 K mg "is_operand" s_is_operand ["kind", "value"]) : Cd P w K mg base 2 "is_operand" spIsOp := by
  obtain ⟨g_BOUNDS, rows⟩ := T
  refine Z.cd sc_is_operand (fun vs H Q E h => by obtain ⟨c, o, rfl, _⟩ := h; rfl) (fun f cdv A outer s H vs Q E hr h => ?_)
  obtain ⟨c, o, rfl, hc, q⟩ := h
  refine ⟨_, (pss_cons (ps_if (pt_not (pt_val (pe_cd c_is_number hr (by first | decide | omega) (by rfl) (pa_cons (pv 1) pa_nil)))) (pss_one (ps_ret pe_bl)) pss_nil)
      (pss_cons (ps_asg (pe_ix ix_kdict (pe_gv (by rfl) g_BOUNDS) (pv 0) (fun _ _ => rfl)) (pg_tup rfl (pgs_cons (pg_name (i := 2) sc_is_operand.nd rfl (.inl rfl)) (pgs_cons (pg_name (i := 3) sc_is_operand.nd rfl (.inl rfl)) pgs_nil))))
      (pss_one (ps_ret (pe_chain op_le op_le (pv 2) (pv 1) (pv 3)))))), ?_⟩
  obtain ⟨t, h1, h2⟩ := rows c hc
  cases o with
  | none =>
    simp only [optV] at *
    (with_reducible refine w_seq ?_)
    (with_reducible refine w_ifS ?_)
    (with_reducible refine w_notT ?_)
    (with_reducible refine w_B ?_)
    (with_reducible refine w_call ?_)
    (with_reducible refine w_cons ?_)
    ((with_reducible refine' w_var ?hv ?_); (case hv => exact rfl))
    (with_reducible refine w_nil ?_)
    (with_reducible refine w_isNumN ?_)
    (with_reducible refine w_bl ?_)
    (with_reducible refine w_nF ?_)
    (with_reducible refine w_ret ?_)
    (with_reducible refine w_c ?_)
    exact q
  | some i =>
    simp only [optV] at *
    (with_reducible refine w_seq ?_)
    (with_reducible refine w_ifS ?_)
    (with_reducible refine w_notT ?_)
    (with_reducible refine w_B ?_)
    (with_reducible refine w_call ?_)
    (with_reducible refine w_cons ?_)
    ((with_reducible refine' w_var ?hv ?_); (case hv => exact rfl))
    (with_reducible refine w_nil ?_)
    (with_reducible refine w_isNumS ?_)
    (with_reducible refine w_bl ?_)
    (with_reducible refine w_nT ?_)
    (with_reducible refine w_next ?_)
    (with_reducible refine w_seq ?_)
    (with_reducible refine w_asg ?_)
    (with_reducible refine w_op ?_)
    (with_reducible refine w_c ?_)
    ((with_reducible refine' w_var ?hv ?_); (case hv => exact rfl))
    refine w_ixD h1 ?_
    skip
    refine w_gTupS (h2.sq H) rfl ?_
    (with_reducible refine w_gCons ?_)
    (with_reducible refine w_name ?_)
    (with_reducible refine w_gCons ?_)
    (with_reducible refine w_name ?_)
    (with_reducible refine w_gNil ?_)
    (with_reducible refine w_ret ?_)
    (with_reducible refine w_chain ?_)
    ((with_reducible refine' w_var ?hv ?_); (case hv => exact rfl))
    ((with_reducible refine' w_var ?hv ?_); (case hv => exact rfl))
    (with_reducible refine w_I0 ?_)
    (with_reducible refine w_bl ?_)
    refine w_dec (fun e1 => ?_) (fun e1 => ?_)
    · have e : ((some i).any (inB c)) = decide (i ≤ (bnd c).2) := by simp [inB, e1]
      rw [e] at q
      ((with_reducible refine' w_var ?hv ?_); (case hv => exact rfl))
      (with_reducible refine w_I0 ?_)
      exact q
    · have e : ((some i).any (inB c)) = false := by simp [inB, e1]
      rw [e] at q
      skip
      exact q
/-- a name, by the text's own look -/
def lowA : List Nat := ("abcdefghijklmnopqrstuvwxyz" : Str).cps.toList
def nameA : List Nat := ("abcdefghijklmnopqrstuvwxyz0123456789_" : Str).cps.toList
def nameOk (x : Str) : Bool := decide (1 ≤ x.length ∧ x.length ≤ 30) && (match (TL.tl x).head? with | some c => decide (c ∈ lowA) | none => false) && (TL.tl x).all fun c => decide (c ∈ nameA)
def spName : Sp := fun vs H Q _ => ∃ x : Str, vs = [.str x] ∧ x.length ≤ 100000 ∧ ∀ H', Same H H' → Q (.bl (nameOk x)) H'
theorem ok_is_name (b_isinstance : mg "isinstance" = none) (b_str : mg "str" = none) (b_len : mg "len" = none) (b_all : mg "all" = none) (g_LETTERS : GV mg "LETTERS" (.str "abcdefghijklmnopqrstuvwxyz")) (g_NAME_CHARACTERS : GV mg "NAME_CHARACTERS" (.str "abcdefghijklmnopqrstuvwxyz0123456789_")) (Z : St1 K mg "is_name" s_is_name ["value"]) : Cd P w K mg base 1 "is_name" spName := by
  refine Z.cd sc_is_name (fun vs H Q E h => by obtain ⟨x, rfl, _⟩ := h; rfl) (fun f cdv A outer s H vs Q E hr h => ?_)
  obtain ⟨x, rfl, hl, q⟩ := h
  refine ⟨_, (pss_cons (ps_if (PW.pt (pw_or (pt_not (pt_val (pe_callB call_isi (by rfl) b_isinstance (by decide +kernel) (pa_cons (pv 0) (pa_cons (pe_bltn (v := .ty "str") (by rfl) b_str (by decide +kernel) rfl) pa_nil))))) (pw_or1 (pt_not (pt_chain op_le op_le pe_int (pe_callB call_lenSQ (by rfl) b_len PySem.boot_len (pa_cons (pv 0) pa_nil)) pe_int))))) (pss_one (ps_ret pe_bl)) pss_nil)
      (pss_one (ps_ret (pe_and (pe_cmpR op_inSQ (pe_ix ix_str (pv 0) pe_int (fun _ _ => rfl)) (pe_gv (by rfl) g_LETTERS) rfl) (pe_one (pe_callB (cr_all rfl) (by rfl) b_all (by decide +kernel) (pa_cons (pe_lc (own := [("sign", 1)]) rfl sc_is_name.nd (pi_str (pv 0)) (blkOk_by (own := [("sign", 1)]) (N := ["value", "sign"]) (sc := (defScope s_is_name)) (by decide +kernel)) (fun _ _ _ _ _ => (pg_name (i := 1) sc_is_name.nd rfl (.inl rfl))) (fun _ _ _ _ _ => pts_nil) (fun _ _ _ _ _ => (pe_cmpR op_inSQ (pv 1) (pe_gv (by rfl) g_NAME_CHARACTERS) rfl))) pa_nil))))))), ?_⟩
  (with_reducible refine w_seq ?_)
  (with_reducible refine w_ifS ?_)
  (with_reducible refine w_orT ?_)
  (with_reducible refine w_notT ?_)
  (with_reducible refine w_B ?_)
  (with_reducible refine w_cb ?_)
  (with_reducible refine w_cons ?_)
  ((with_reducible refine' w_var ?hv ?_); (case hv => exact rfl))
  (with_reducible refine w_cons ?_)
  (with_reducible refine w_c ?_)
  (with_reducible refine w_nil ?_)
  (with_reducible refine w_isiS ?_)
  (with_reducible refine w_bl ?_)
  (with_reducible refine w_nT ?_)
  (with_reducible refine w_notT ?_)
  (with_reducible refine w_test ?_)
  (with_reducible refine w_chain ?_)
  (with_reducible refine w_c ?_)
  (with_reducible refine w_cb ?_)
  (with_reducible refine w_cons ?_)
  ((with_reducible refine' w_var ?hv ?_); (case hv => exact rfl))
  (with_reducible refine w_nil ?_)
  refine w_lenSQ (Nat.le_trans hl (by decide)) ?_
  (with_reducible refine w_I0 ?_)
  (with_reducible refine w_bl ?_)
  have no : ¬ (1 ≤ x.length ∧ x.length ≤ 30) → Q (.bl false) H := fun e => by
    have := q H (Same.refl H)
    unfold nameOk at this
    rw [decide_eq_false e] at this
    exact this
  refine w_dec (fun e1 => ?_) (fun e1 => ?_)
  · (with_reducible refine w_c ?_)
    (with_reducible refine w_I0 ?_)
    (with_reducible refine w_bl ?_)
    refine w_ndec (fun e2 => ?_) (fun e2 => ?_)
    · (with_reducible refine w_ret ?_)
      (with_reducible refine w_c ?_)
      exact no (by omega)
    · (with_reducible refine w_next ?_)
      (with_reducible refine w_ret ?_)
      (with_reducible refine w_andV ?_)
      (with_reducible refine w_op ?_)
      (with_reducible refine w_op ?_)
      ((with_reducible refine' w_var ?hv ?_); (case hv => exact rfl))
      (with_reducible refine w_c ?_)
      obtain ⟨c, r, ex⟩ : ∃ c r, TL.tl x = c :: r := by
        cases z : TL.tl x with
        | nil => rw [TL.len_tl, z] at e1; simp at e1
        | cons c r => exact ⟨c, r, rfl⟩
      refine ⟨x, 0, c, rfl, rfl, Nat.le_trans hl (by decide), (by show atI (TL.tl x) 0 = some c; rw [ex]; have z := atI_nat (show (c :: r)[0]? = some c from rfl); exact z), ?_⟩
      (with_reducible refine w_c ?_)
      (with_reducible refine w_inSg ?_)
      (with_reducible refine w_bl ?_)
      have qc : decide (c ∈ lowA) = true → ∀ H', Same H H' → Q (.bl ((TL.tl x).all fun c => decide (c ∈ nameA))) H' := fun e3 H' s' => by
        have := q H' s'
        unfold nameOk at this
        rw [decide_eq_true (show 1 ≤ x.length ∧ x.length ≤ 30 by omega), Bool.true_and, ex, List.head?_cons] at this
        simp only [e3, Bool.true_and] at this
        rw [ex]
        exact this
      refine w_dec (fun e3 => ?_) (fun e3 => ?_)
      · (with_reducible refine w_cb ?_)
        (with_reducible refine w_cons ?_)
        (with_reducible refine w_lc ?_)
        (with_reducible refine w_iSt ?_)
        ((with_reducible refine' w_var ?hv ?_); (case hv => exact rfl))
        have hsz : x.cps.size ≤ 100000 := hl
        refine w_lcS (fun D i H' => H D = none ∧ Same H H' ∧ H' D = some (.lst ((((TL.tl x).take i).map fun c => decide (c ∈ nameA)).map V.bl))) (fun D nD => ⟨nD, Same.new nD, upd_same⟩) (fun D i c' H' hc h => ?_) (fun D H' nD h => ?_)
        · obtain ⟨nD, s1, hD⟩ := h
          have hil : i < x.cps.size := (Array.getElem?_eq_some_iff.mp hc).1
          have hc' : (TL.tl x)[i]? = some c' := by simpa using hc
          (with_reducible refine w_name ?_)
          refine ⟨rfl, ?_⟩
          (with_reducible refine w_yes ?_)
          (with_reducible refine w_itT ?_)
          (with_reducible refine w_op ?_)
          ((with_reducible refine' w_var ?hv ?_); (case hv => exact rfl))
          (with_reducible refine w_c ?_)
          (with_reducible refine w_inSg ?_)
          refine ⟨_, hD, by rw [List.length_map, List.length_map, List.length_take]; exact Nat.lt_of_le_of_lt (show _ ≤ 100000 by omega) (by decide), nD, fun y o hy => ?_, ?_⟩
          · rw [upd_ne (ne_of_none hy nD)]; exact s1 _ _ hy
          · rw [take_more hc', List.map_append, List.map_append]; exact upd_same
        · obtain ⟨_, s1, hD⟩ := h
          rw [List.take_of_length_le (show (TL.tl x).length ≤ x.cps.size by simp)] at hD
          (with_reducible refine w_nil ?_)
          refine w_allB hD ?_
          rw [List.all_map]
          skip
          exact qc (decide_eq_true e3) H' s1
      · skip
        have := q H (Same.refl H)
        unfold nameOk at this
        rw [decide_eq_true (show 1 ≤ x.length ∧ x.length ≤ 30 by omega), Bool.true_and, ex, List.head?_cons] at this
        simp only [decide_eq_false (show ¬ c ∈ lowA from e3), Bool.false_and] at this
        exact this
  · (with_reducible refine w_bl ?_)
    (with_reducible refine w_nF ?_)
    (with_reducible refine w_ret ?_)
    (with_reducible refine w_c ?_)
    exact no (by omega)
def spNum : Sp := fun vs H Q _ => ∃ x : Str, vs = [.str x] ∧ x.length ≤ 100000 ∧ ∀ H', Same H H' → Q (optV (numT x)) H'
theorem ok_number_of (b_len : mg "len" = none) (b_all : mg "all" = none) (b_int : mg "int" = none) (b_str : mg "str" = none) (g_DIGITS : GV mg "DIGITS" (.str "0123456789")) (g_LONGEST_NUMBER : GV mg "LONGEST_NUMBER" (.int 11)) (Z : St1 K mg "_number_of" s_number_of ["text"]) : Cd P w K mg base 1 "_number_of" spNum := by
  refine Z.cd sc_number_of (fun vs H Q E h => by obtain ⟨x, rfl, _⟩ := h; rfl) (fun f cdv A outer s H vs Q E hr h => ?_)
  obtain ⟨x, rfl, hl, q⟩ := h
  refine ⟨_, (Evl.pss_cut (ps_set (i := 1) sc_number_of.nd rfl (.inl rfl) (pe_ifExp (pt_val (pe_m1 PySem.F.slot_str_startswith PySem.F.type_str_startswith mt_startsQ (pv 0) pe_str)) (pe_slice sl_str (pv 0) (po_some pe_int) po_none) (pv 0)))
      (pss_cons (ps_if (PW.pt (pw_or (pt_cmpR op_eq (pv 1) pe_str (nomark _)) (pw_or (pt_cmpR op_gt (pe_callB call_lenSQ (by rfl) b_len PySem.boot_len (pa_cons (pv 0) pa_nil)) (pe_gv (by rfl) g_LONGEST_NUMBER) (nomark _)) (pw_or1 (pt_not (pt_val (pe_callB (cr_all rfl) (by rfl) b_all (by decide +kernel) (pa_cons (pe_lc (own := [("sign", 2)]) rfl sc_number_of.nd (pi_str (pv 1)) (blkOk_by (own := [("sign", 2)]) (N := ["text", "digits", "sign"]) (sc := (defScope s_number_of)) (by decide +kernel)) (fun _ _ _ _ _ => (pg_name (i := 2) sc_number_of.nd rfl (.inl rfl))) (fun _ _ _ _ _ => pts_nil) (fun _ _ _ _ _ => (pe_cmpR op_inSQ (pv 2) (pe_gv (by rfl) g_DIGITS) rfl))) pa_nil)))))))) (pss_one (ps_ret pe_non)) pss_nil)
      (pss_one (ps_ret (pe_ifExp (pt_cmpR op_eq (pe_callTy call_strQ (by rfl) b_str (by decide +kernel) (pa_cons (pe_callTy call_intSQ (by rfl) b_int (by decide +kernel) (pa_cons (pv 0) pa_nil)) pa_nil)) (pv 0) (nomark _)) (pe_callTy call_intSQ (by rfl) b_int (by decide +kernel) (pa_cons (pv 0) pa_nil)) pe_non))))), ?_⟩
  have hz : x.length ≤ sizeLine := Nat.le_trans hl (by decide)
  skip
  refine Evl.q_cut (M := fun σ' H' => H' = H ∧ σ' = [some (.str x), some (.str (digA x)), none]) ?_ ?_
  · (with_reducible refine w_asg ?_)
    (with_reducible refine w_if ?_)
    (with_reducible refine w_B ?_)
    (with_reducible refine w_m1 ?_)
    ((with_reducible refine' w_var ?hv ?_); (case hv => exact rfl))
    (with_reducible refine w_isS ?_)
    (with_reducible refine w_c ?_)
    (with_reducible refine w_starts ?_)
    (with_reducible refine w_bl ?_)
    by_cases hs : Txt.startswith x ("-" : Str) = true
    · rw [if_pos hs]
      (with_reducible refine w_sl ?_)
      ((with_reducible refine' w_var ?hv ?_); (case hv => exact rfl))
      (with_reducible refine w_part ?_)
      (with_reducible refine w_c ?_)
      (with_reducible refine w_exI ?_)
      (with_reducible refine w_noPart ?_)
      refine w_slS hz ?_
      (with_reducible refine w_name ?_)
      exact ⟨rfl, by unfold digA; rw [if_pos hs]; rfl⟩
    · rw [if_neg hs]
      ((with_reducible refine' w_var ?hv ?_); (case hv => exact rfl))
      (with_reducible refine w_name ?_)
      exact ⟨rfl, by unfold digA; rw [if_neg hs]; rfl⟩
  rintro σ' H' ⟨rfl, rfl⟩
  have hdz : (digA x).length ≤ 100000 := by
    unfold digA
    split
    · exact Nat.le_trans (cutS_length _ _ _) hl
    · exact hl
  (with_reducible refine w_seq ?_)
  (with_reducible refine w_ifS ?_)
  (with_reducible refine w_orT ?_)
  (with_reducible refine w_test ?_)
  (with_reducible refine w_op ?_)
  ((with_reducible refine' w_var ?hv ?_); (case hv => exact rfl))
  (with_reducible refine w_c ?_)
  (with_reducible refine w_eqS ?_)
  (with_reducible refine w_bl ?_)
  have no : (digA x = ("" : Str) ∨ 11 < x.length ∨ ((TL.tl (digA x)).all isDg) = false) → ∀ H3, Same H' H3 → Q .non H3 := fun e H3 s3 => by
    have := q H3 s3
    unfold numT at this
    rw [if_pos e] at this
    exact this
  refine w_dec (fun e1 => ?_) (fun e1 => ?_)
  · (with_reducible refine w_itT ?_)
    (with_reducible refine w_ret ?_)
    (with_reducible refine w_c ?_)
    exact no (.inl e1) H' (Same.refl H')
  · (with_reducible refine w_orT ?_)
    (with_reducible refine w_test ?_)
    (with_reducible refine w_op ?_)
    (with_reducible refine w_cb ?_)
    (with_reducible refine w_cons ?_)
    ((with_reducible refine' w_var ?hv ?_); (case hv => exact rfl))
    (with_reducible refine w_nil ?_)
    refine w_lenSQ hz ?_
    (with_reducible refine w_c ?_)
    (with_reducible refine w_I0 ?_)
    (with_reducible refine w_bl ?_)
    refine w_dec (fun e2 => ?_) (fun e2 => ?_)
    · (with_reducible refine w_itT ?_)
      (with_reducible refine w_ret ?_)
      (with_reducible refine w_c ?_)
      exact no (.inr (.inl (by omega))) H' (Same.refl H')
    · (with_reducible refine w_notT ?_)
      (with_reducible refine w_B ?_)
      (with_reducible refine w_cb ?_)
      (with_reducible refine w_cons ?_)
      (with_reducible refine w_lc ?_)
      (with_reducible refine w_iSt ?_)
      ((with_reducible refine' w_var ?hv ?_); (case hv => exact rfl))
      have hsz : (digA x).cps.size ≤ 100000 := hdz
      refine w_lcS (fun D i H2 => H' D = none ∧ Same H' H2 ∧ H2 D = some (.lst ((((TL.tl (digA x)).take i).map isDg).map V.bl))) (fun D nD => ⟨nD, Same.new nD, upd_same⟩) (fun D i c' H2 hc h => ?_) (fun D H2 nD h => ?_)
      · obtain ⟨nD, s1, hD⟩ := h
        have hil : i < (digA x).cps.size := (Array.getElem?_eq_some_iff.mp hc).1
        have hc' : (TL.tl (digA x))[i]? = some c' := by simpa using hc
        (with_reducible refine w_name ?_)
        refine ⟨rfl, ?_⟩
        (with_reducible refine w_yes ?_)
        (with_reducible refine w_itT ?_)
        (with_reducible refine w_op ?_)
        ((with_reducible refine' w_var ?hv ?_); (case hv => exact rfl))
        (with_reducible refine w_c ?_)
        (with_reducible refine w_inSg ?_)
        refine ⟨_, hD, by rw [List.length_map, List.length_map, List.length_take]; exact Nat.lt_of_le_of_lt (show _ ≤ 100000 by omega) (by decide), nD, fun y o hy => ?_, ?_⟩
        · rw [upd_ne (ne_of_none hy nD)]; exact s1 _ _ hy
        · rw [take_more hc', List.map_append, List.map_append]; exact upd_same
      · obtain ⟨_, s1, hD⟩ := h
        rw [List.take_of_length_le (show (TL.tl (digA x)).length ≤ (digA x).cps.size by simp)] at hD
        (with_reducible refine w_nil ?_)
        refine w_allB hD ?_
        rw [List.all_map]
        (with_reducible refine w_bl ?_)
        cases e3 : (TL.tl (digA x)).all isDg with
        | false =>
          rw [show (TL.tl (digA x)).all (id ∘ isDg) = false from e3]
          (with_reducible refine w_nF ?_)
          (with_reducible refine w_ret ?_)
          (with_reducible refine w_c ?_)
          exact no (.inr (.inr e3)) H2 s1
        | true =>
          rw [show (TL.tl (digA x)).all (id ∘ isDg) = true from e3]
          (with_reducible refine w_nT ?_)
          (with_reducible refine w_next ?_)
          (with_reducible refine w_ret ?_)
          (with_reducible refine w_if ?_)
          (with_reducible refine w_test ?_)
          (with_reducible refine w_op ?_)
          (with_reducible refine w_cb ?_)
          (with_reducible refine w_cons ?_)
          (with_reducible refine w_cb ?_)
          (with_reducible refine w_cons ?_)
          ((with_reducible refine' w_var ?hv ?_); (case hv => exact rfl))
          (with_reducible refine w_nil ?_)
          obtain ⟨n, hn, hlg⟩ := num_ok e1 (by omega) e3
          have hx4 : x.length ≤ 640 := by omega
          have qn : ∀ H3, Same H' H3 → Q (if dcT n = x then .int n else .non) H3 := fun H3 s3 => by
            have := q H3 s3
            unfold numT at this
            rw [if_neg (by
              rintro (z | z | z)
              · exact e1 z
              · omega
              · rw [e3] at z; cases z)] at this
            simp only [hn] at this
            split at this <;> rename_i e <;> simp only [e, if_true, if_false] <;> exact this
          refine w_intS hn hx4 ?_
          (with_reducible refine w_nil ?_)
          refine ⟨n, rfl, hlg, ?_⟩
          ((with_reducible refine' w_var ?hv ?_); (case hv => exact rfl))
          (with_reducible refine w_eqS ?_)
          (with_reducible refine w_bl ?_)
          refine w_dec (fun e4 => ?_) (fun e4 => ?_)
          · (with_reducible refine w_cb ?_)
            (with_reducible refine w_cons ?_)
            ((with_reducible refine' w_var ?hv ?_); (case hv => exact rfl))
            (with_reducible refine w_nil ?_)
            refine w_intS hn hx4 ?_
            skip
            have := qn H2 s1
            rw [if_pos (show dcT n = x from e4)] at this
            exact this
          · (with_reducible refine w_c ?_)
            have := qn H2 s1
            rw [if_neg (show ¬ dcT n = x from e4)] at this
            exact this
/-- the value of an operand's text -/
def valT (c : Nat) (t : Str) : Option Int :=
  (if c = 100 ∨ c = 115 then (if Txt.startswith t ("r" : Str) = true then numT (cutS t (some 1) none) else none) else numT t).filter (inB c)
def spVal : Sp := fun vs H Q _ => ∃ (c : Nat) (x : Str), vs = [.str (SS [c]), .str x] ∧ c ∈ kinds ∧ x.length ≤ 100000 ∧ ∀ H', Same H H' → Q (optV (valT c x)) H'
theorem filt {o : Option Int} {p : Int → Bool} : o.any p = true → o.filter p = o := by
  cases o with
  | none => intro h; cases h
  | some i => intro h; have : p i = true := h; simp [Option.filter, this]
theorem filtN {o : Option Int} {p : Int → Bool} : o.any p = false → o.filter p = none := by
  cases o with
  | none => intro h; rfl
  | some i => intro h; have : p i = false := h; simp [Option.filter, this]
theorem ok_value_of (c_number_of : Cd P w K mg base 1 "_number_of" spNum) (c_is_operand : Cd P w K mg base 2 "is_operand" spIsOp) (Z : St1 K mg "_value_of" s_value_of ["kind", "operand"]) : Cd P w K mg base 3 "_value_of" spVal := by
  refine Z.cd sc_value_of (fun vs H Q E h => by obtain ⟨c, x, rfl, _⟩ := h; rfl) (fun f cdv A outer s H vs Q E hr h => ?_)
  obtain ⟨c, x, rfl, hc, hl, q⟩ := h
  have hz : x.length ≤ sizeLine := Nat.le_trans hl (by decide)
  refine ⟨_, (Evl.pss_cut (ps_if (pt_cmpR op_inSQ (pv 0) pe_str rfl) (pss_one (ps_set (i := 2) sc_value_of.nd rfl (.inl rfl) (pe_ifExp (pt_val (pe_m1 PySem.F.slot_str_startswith PySem.F.type_str_startswith mt_startsQ (pv 1) pe_str)) (pe_cd c_number_of hr (by first | decide | omega) (by rfl) (pa_cons (pe_slice sl_str (pv 1) (po_some pe_int) po_none) pa_nil)) pe_non))) (pss_one (ps_set (i := 2) sc_value_of.nd rfl (.inl rfl) (pe_cd c_number_of hr (by first | decide | omega) (by rfl) (pa_cons (pv 1) pa_nil)))))
      (pss_one (ps_ret (pe_ifExp (pt_val (pe_cd c_is_operand hr (by first | decide | omega) (by rfl) (pa_cons (pv 0) (pa_cons (pv 2) pa_nil)))) (pv 2) pe_non)))), ?_⟩
  refine Evl.q_cut (M := fun σ' H' => Same H H' ∧ ∃ o : Option Int, valT c x = o.filter (inB c) ∧ σ' = [some (.str (SS [c])), some (.str x), some (optV o)]) ?_ ?_
  · (with_reducible refine w_ifS ?_)
    (with_reducible refine w_test ?_)
    (with_reducible refine w_op ?_)
    ((with_reducible refine' w_var ?hv ?_); (case hv => exact rfl))
    (with_reducible refine w_c ?_)
    (with_reducible refine w_inSg ?_)
    (with_reducible refine w_bl ?_)
    refine w_dec (fun e => ?_) (fun e => ?_)
    · have e' : c = 100 ∨ c = 115 := by simpa using (show c ∈ [100, 115] from e)
      (with_reducible refine w_asg ?_)
      (with_reducible refine w_if ?_)
      (with_reducible refine w_B ?_)
      (with_reducible refine w_m1 ?_)
      ((with_reducible refine' w_var ?hv ?_); (case hv => exact rfl))
      (with_reducible refine w_isS ?_)
      (with_reducible refine w_c ?_)
      (with_reducible refine w_starts ?_)
      (with_reducible refine w_bl ?_)
      by_cases hs : Txt.startswith x ("r" : Str) = true
      · rw [hs]
        (with_reducible refine w_itT ?_)
        (with_reducible refine w_call ?_)
        (with_reducible refine w_cons ?_)
        (with_reducible refine w_sl ?_)
        ((with_reducible refine' w_var ?hv ?_); (case hv => exact rfl))
        (with_reducible refine w_part ?_)
        (with_reducible refine w_c ?_)
        (with_reducible refine w_exI ?_)
        (with_reducible refine w_noPart ?_)
        refine w_slS hz ?_
        refine ⟨_, rfl, Nat.le_trans (cutS_length _ _ _) hl, fun H1 s1 => ?_⟩
        (with_reducible refine w_name ?_)
        exact ⟨s1, numT (cutS x (some 1) none), by unfold valT; rw [if_pos e', if_pos hs], rfl⟩
      · have hs' : Txt.startswith x ("r" : Str) = false := by simpa using hs
        rw [hs']
        (with_reducible refine w_itF ?_)
        (with_reducible refine w_c ?_)
        (with_reducible refine w_name ?_)
        exact ⟨Same.refl H, none, by unfold valT; rw [if_pos e', if_neg hs], rfl⟩
    · have e' : ¬ (c = 100 ∨ c = 115) := fun z => e (show c ∈ [100, 115] by simpa using z)
      (with_reducible refine w_asg ?_)
      (with_reducible refine w_call ?_)
      (with_reducible refine w_cons ?_)
      ((with_reducible refine' w_var ?hv ?_); (case hv => exact rfl))
      (with_reducible refine w_nil ?_)
      refine ⟨_, rfl, hl, fun H1 s1 => ?_⟩
      (with_reducible refine w_name ?_)
      exact ⟨s1, numT x, by unfold valT; rw [if_neg e'], rfl⟩
  · rintro σ' H1 ⟨s1, o, ev, rfl⟩
    (with_reducible refine w_ret ?_)
    (with_reducible refine w_if ?_)
    (with_reducible refine w_B ?_)
    (with_reducible refine w_call ?_)
    (with_reducible refine w_cons ?_)
    ((with_reducible refine' w_var ?hv ?_); (case hv => exact rfl))
    (with_reducible refine w_cons ?_)
    ((with_reducible refine' w_var ?hv ?_); (case hv => exact rfl))
    (with_reducible refine w_nil ?_)
    refine ⟨c, o, rfl, hc, ?_⟩
    have qq := q H1 s1
    rw [ev] at qq
    cases hb : o.any (inB c) with
    | true =>
      rw [filt hb] at qq
      (with_reducible refine w_bl ?_)
      (with_reducible refine w_itT ?_)
      ((with_reducible refine' w_var ?hv ?_); (case hv => exact rfl))
      exact qq
    | false =>
      rw [filtN hb] at qq
      (with_reducible refine w_bl ?_)
      (with_reducible refine w_itF ?_)
      (with_reducible refine w_c ?_)
      exact qq
end
end K05


open PySem.W
namespace K05
theorem w_din {ty td : TE} {σ : L2.St} {H : Hp} {Q : VK} (q : ty σ H fun y H1 => td σ H1 fun x H2 => ∃ a o, x = .ref a ∧ DGet H2 a y o ∧ Q (.bl o.isSome) H2) : tDIn ty td σ H Q := q
theorem w_dnotin {ty td : TE} {σ : L2.St} {H : Hp} {Q : VK} (q : ty σ H fun y H1 => td σ H1 fun x H2 => ∃ a o, x = .ref a ∧ DGet H2 a y o ∧ Q (.bl (!o.isSome)) H2) : tDNotIn ty td σ H Q := q
local macro_rules | `(tactic| walk_at "w1") => `(tactic| first
  | (with_reducible refine w_din ?_)
  | (with_reducible refine w_dnotin ?_)
  | (with_reducible refine w_endsQ ?_)
  | (with_reducible refine w_m1 ?_)
  | (with_reducible refine w_dget ?_)
  | (with_reducible refine w_dput ?_)
  | (with_reducible refine w_zSL ?_)
  | (with_reducible refine w_isS ?_))
theorem sc_may_name_label : FnScope ["op"] ["op"] (defScope s_may_name_label) := ⟨rfl, rfl, rfl, by decide +kernel, rfl, by decide +kernel, by decide +kernel⟩
theorem sc_word_of_line : FnScope ["line", "labels", "place", "op", "_", "rest", "operands", "number", "values", "operand", "kind"] ["line", "labels", "place"] (defScope s_word_of_line) := ⟨rfl, rfl, rfl, by decide +kernel, rfl, by decide +kernel, by decide +kernel⟩
/-! ### the table of labels -/
structure Ent where
  nm : Str
  a : Addr
  ix : Nat
  ct : Nat
def kvsE (T : List Ent) : List (Key × V) := T.map fun e => (Sum.inr e.nm, .ref e.a)
structure LabAt (H : Hp) (p : Addr) (T : List Ent) : Prop where
  hp : H p = some (.dK (kvsE T))
  ha : ∀ e ∈ T, H e.a = some (.tup [.int (e.ix : Int), .int (e.ct : Int)])
def fndE (T : List Ent) (z : Str) : Option Ent := T.find? fun e => e.nm == z
theorem LabAt.same {H H' : Hp} {p : Addr} {T : List Ent} (h : LabAt H p T) (s : Same H H') : LabAt H' p T := ⟨s _ _ h.hp, fun e he => s _ _ (h.ha e he)⟩
theorem valE (z : Str) : ∀ T : List Ent, valV (kvsE T) (kS z) = (fndE T z).map fun e => .ref e.a
  | [] => rfl
  | e :: r => by
    have ih := valE z r
    unfold kvsE fndE valV at *
    rw [List.map_cons, List.find?_cons, List.find?_cons]
    by_cases h : e.nm = z
    · subst h
      simp [kS]
    · have h1 : (e.nm == z) = false := by simpa using h
      have h2 : ¬ ((Sum.inr e.nm : Key) = kS z) := fun w => h (Sum.inr.inj w)
      simp only [h1, decide_eq_false h2]
      exact ih
theorem LabAt.get {H : Hp} {p : Addr} {T : List Ent} (h : LabAt H p T) (z : Str) : DGet H p (.str z) ((fndE T z).map fun e => .ref e.a) := by
  have := DGet.k (k := kS z) h.hp
  rw [valE] at this
  exact this
theorem ixN_last (n : Nat) (h : 0 < n) : ixN n (-1) = some (n - 1) := by
  unfold ixN
  rw [if_neg (by decide), if_pos (by omega)]
  congr 1
  omega
def fmO (op : Str) : Option (Nat × Str) := (opsT.findIdx? fun p => p.1 == op).bind fun n => (opsT[n]?).map fun p => (n, p.2)
theorem forms_pos : ∀ f ∈ forms, 0 < f.cps.size ∧ f.length ≤ 10 := by decide +kernel
theorem fmO_in {op : Str} {n : Nat} {fm : Str} (h : fmO op = some (n, fm)) : opsT[n]? = some (op, fm) := by
  unfold fmO at h
  cases e : opsT.findIdx? fun p => p.1 == op with
  | none => rw [e] at h; cases h
  | some m =>
    obtain ⟨hl, h1, _⟩ := List.findIdx?_eq_some_iff_getElem.mp e
    rw [e] at h
    have e2 : opsT[m]? = some opsT[m] := List.getElem?_eq_getElem hl
    simp only [Option.bind_some, e2, Option.map_some, Option.some.injEq, Prod.mk.injEq] at h
    obtain ⟨rfl, rfl⟩ := h
    rw [e2, ← beq_iff_eq.mp h1]
theorem fnd_mem {T : List Ent} {z : Str} {e : Ent} (h : fndE T z = some e) : e ∈ T ∧ e.nm = z := ⟨List.mem_of_find?_eq_some h, by have := List.find?_some h; simpa using this⟩
theorem flat_strs (xs : List Str) : (xs.map V.str).all flatV = true := by
  rw [List.all_eq_true]
  intro v hv
  obtain ⟨s, _, rfl⟩ := List.mem_map.mp hv
  rfl
theorem inV_strs (k : Str) (xs : List Str) : inV (.str k) (xs.map V.str) = decide (k ∈ xs) := by
  induction xs with
  | nil => rfl
  | cons x r ih =>
    have e : inV (.str k) ((x :: r).map V.str) = (decide (x = k) || inV (.str k) (r.map V.str)) := rfl
    rw [e, ih, Bool.eq_iff_iff]
    simp only [Bool.or_eq_true, decide_eq_true_eq, List.mem_cons]
    constructor
    · rintro (h | h)
      · exact .inl h.symm
      · exact .inr h
    · rintro (h | h)
      · exact .inl h.symm
      · exact .inr h
theorem set_last {α : Type} (ini : List α) (x v : α) {n : Nat} (h : n = (ini ++ [x]).length - 1) : (ini ++ [x]).set n v = ini ++ [v] := by
  have e : n = ini.length := by rw [h, List.length_append]; simp
  rw [e, List.set_append_right _ _ (Nat.le_refl _), Nat.sub_self]
  rfl
theorem kinds_all : ∀ f ∈ forms, ∀ c ∈ f.cps.toList, c ∈ kinds := by decide +kernel
theorem flat_opt (xs : List (Option Int)) : (xs.map optV).all flatV = true := by
  rw [List.all_eq_true]
  intro v hv
  obtain ⟨s, _, rfl⟩ := List.mem_map.mp hv
  cases s <;> rfl
theorem inV_opt (xs : List (Option Int)) : inV .non (xs.map optV) = decide (none ∈ xs) := by
  induction xs with
  | nil => rfl
  | cons x r ih =>
    have e : inV .non ((x :: r).map optV) = (eqV (optV x) .non || inV .non (r.map optV)) := rfl
    rw [e, ih, Bool.eq_iff_iff]
    cases x with
    | none => simp [optV]; exact .inl rfl
    | some i =>
      have : eqV (optV (some i)) .non = false := rfl
      rw [this]
      simp
def brT : List Str := ["beq", "bne", "blt", "bge", "bltu", "bgeu"]
def mayN (op : Str) : Bool := decide (op = "jal") || decide (op ∈ brT)
def spMay : Sp := fun vs H Q _ => ∃ op : Str, vs = [.str op] ∧ Q (.bl (mayN op)) H
section
variable {P : Program} {w : World} {K : PySem.W.Frag} {mg : Str → Option Value} {base : Heap}
theorem ok_may {B : Addr} (g_BRANCHES : GV mg "BRANCHES" (.ref B)) (hB : WTup K B (brT.map V.str)) (Z : St1 K mg "_may_name_label" s_may_name_label ["op"]) : Cd P w K mg base 1 "_may_name_label" spMay := by
  refine Z.cd sc_may_name_label (fun vs H Q E h => by obtain ⟨o, rfl, _⟩ := h; rfl) (fun f cdv A outer s H vs Q E hr h => ?_)
  obtain ⟨o, rfl, q⟩ := h
  refine ⟨_, (pss_one (ps_ret (pe_or (pe_cmpR op_eq (pv 0) pe_str (nomark _)) (pe_one (pe_cmpR op_in_seq (pv 0) (pe_gv (by rfl) g_BRANCHES) rfl))))), ?_⟩
  (with_reducible refine w_ret ?_)
  (with_reducible refine w_orV ?_)
  (with_reducible refine w_op ?_)
  ((with_reducible refine' w_var ?hv ?_); (case hv => exact rfl))
  (with_reducible refine w_c ?_)
  (with_reducible refine w_eqS ?_)
  (with_reducible refine w_bl ?_)
  refine w_dec (fun e => ?_) (fun e => ?_)
  · skip
    have : mayN o = true := by unfold mayN; rw [decide_eq_true (show o = "jal" from e)]; rfl
    rw [this] at q
    exact q
  · (with_reducible refine w_op ?_)
    ((with_reducible refine' w_var ?hv ?_); (case hv => exact rfl))
    (with_reducible refine w_c ?_)
    have : mayN o = decide (o ∈ brT) := by unfold mayN; rw [decide_eq_false (show ¬ o = "jal" from e)]; rfl
    rw [this] at q
    exact w_inT (hB.sq H) rfl (flat_strs brT) (inV_strs o brT) q
end
/-! ### the word of a line -/
def opT0 (ln : Str) : Str := (Txt.partition ln (" " : Str)).1
def restT (ln : Str) : Str := (Txt.partition ln (" " : Str)).2.2
def opnds (ln : Str) : List Str := (Txt.split (restT ln) ("," : Str)).map fun o => Txt.stripChars o (" " : Str)
def lkE (T : List Ent) (z : Str) : Option Int := (fndE T z).map fun e => (e.ct : Int)
def fixL (op : Str) (os : List Str) (lk : Str → Option Int) (place : Int) : List Str :=
  if mayN op = true then match (os.getLast?).bind lk with
    | some c => os.dropLast ++ [dcT (c - place)]
    | none => os
  else os
def valsL (fm : Str) (os : List Str) : List (Option Int) := (fm.cps.toList.zip os).map fun p => valT p.1 p.2
def isW (i : Int) : Bool := decide (0 ≤ i) && decide (i ≤ 4294967295)
def wordL (ln : Str) (lk : Str → Option Int) (place : Int) : Option Int :=
  if opT0 ln = ("word" : Str) then (if (opnds ln).length = 1 then (numT ((opnds ln).getD 0 "")).filter isW else none)
  else match fmO (opT0 ln) with
    | none => none
    | some (n, fm) => if (opnds ln).length ≠ fm.cps.size then none
      else if none ∈ valsL fm (fixL (opT0 ln) (opnds ln) lk place) then none
      else some (encW n fm ((valsL fm (fixL (opT0 ln) (opnds ln) lk place)).filterMap id))
theorem opnds_le {ln : Str} {m : Nat} (h : ln.length ≤ m) : (∀ o ∈ opnds ln, o.length ≤ m) ∧ (opnds ln).length ≤ m + 1 := by
  obtain ⟨h1, h2⟩ := split_le (restT ln) ("," : Str) (by decide +kernel)
  have h3 : (restT ln).length ≤ ln.length := part3_le _ _
  refine ⟨fun o ho => ?_, by unfold opnds; rw [List.length_map]; omega⟩
  obtain ⟨p, hp, rfl⟩ := List.mem_map.mp ho
  exact Nat.le_trans (strip_le p) (Nat.le_trans (h1 p hp) (Nat.le_trans h3 h))
theorem vals_some {xs : List (Option Int)} : none ∉ xs → xs.map optV = (xs.filterMap id).map V.int := by
  intro h
  induction xs with
  | nil => rfl
  | cons x r ih =>
    cases x with
    | none => exact absurd List.mem_cons_self h
    | some i =>
      rw [List.map_cons, ih (fun z => h (List.mem_cons_of_mem _ z))]
      rfl
theorem val_in {c : Nat} {t : Str} {i : Int} (h : valT c t = some i) : (bnd c).1 ≤ i ∧ i ≤ (bnd c).2 := by
  unfold valT at h
  have := (Option.filter_eq_some_iff.mp h).2
  unfold inB at this
  simpa using this
theorem vals_fits {fm : Str} {os : List Str} (hf : fm ∈ forms) (hl : os.length = fm.cps.size) (hn : none ∉ valsL fm os) : Fits fm ((valsL fm os).filterMap id) := by
  have b1 : bnd 100 = (0, 15) := rfl
  have b2 : bnd 115 = (0, 15) := rfl
  have b3 : bnd 105 = (-8192, 8191) := rfl
  have b4 : bnd 106 = (-131072, 131071) := rfl
  have b5 : bnd 117 = (0, 262143) := rfl
  have get : ∀ c (t : Str), valT c t ≠ none → ∃ i, valT c t = some i ∧ (bnd c).1 ≤ i ∧ i ≤ (bnd c).2 := fun c t h => by
    cases e : valT c t with
    | none => exact absurd e h
    | some i => exact ⟨i, rfl, val_in e⟩
  have len3 : ∀ {n : Nat}, os.length = n → n = 3 → ∃ a b c, os = [a, b, c] := fun h1 h2 => by
    rw [h2] at h1
    match os, h1 with
    | [a, b, c], _ => exact ⟨a, b, c, rfl⟩
  have len2 : ∀ {n : Nat}, os.length = n → n = 2 → ∃ a b, os = [a, b] := fun h1 h2 => by
    rw [h2] at h1
    match os, h1 with
    | [a, b], _ => exact ⟨a, b, rfl⟩
  have len1 : ∀ {n : Nat}, os.length = n → n = 1 → ∃ a, os = [a] := fun h1 h2 => by
    rw [h2] at h1
    match os, h1 with
    | [a], _ => exact ⟨a, rfl⟩
  have n3 : ∀ {x y z : Nat} {a b c : Str}, valsL fm os = [valT x a, valT y b, valT z c] → ∃ i j k, (valsL fm os).filterMap id = [i, j, k] ∧ ((bnd x).1 ≤ i ∧ i ≤ (bnd x).2) ∧ ((bnd y).1 ≤ j ∧ j ≤ (bnd y).2) ∧ ((bnd z).1 ≤ k ∧ k ≤ (bnd z).2) := fun {x y z a b c} h => by
    rw [h] at hn ⊢
    obtain ⟨i, ei, bi⟩ := get x a (fun z => hn (by rw [z]; simp))
    obtain ⟨j, ej, bj⟩ := get y b (fun z => hn (by rw [z]; simp))
    obtain ⟨k, ek, bk⟩ := get z c (fun z => hn (by rw [z]; simp))
    rw [ei, ej, ek]
    exact ⟨i, j, k, rfl, bi, bj, bk⟩
  have n2 : ∀ {x y : Nat} {a b : Str}, valsL fm os = [valT x a, valT y b] → ∃ i j, (valsL fm os).filterMap id = [i, j] ∧ ((bnd x).1 ≤ i ∧ i ≤ (bnd x).2) ∧ ((bnd y).1 ≤ j ∧ j ≤ (bnd y).2) := fun {x y a b} h => by
    rw [h] at hn ⊢
    obtain ⟨i, ei, bi⟩ := get x a (fun z => hn (by rw [z]; simp))
    obtain ⟨j, ej, bj⟩ := get y b (fun z => hn (by rw [z]; simp))
    rw [ei, ej]
    exact ⟨i, j, rfl, bi, bj⟩
  have n1 : ∀ {x : Nat} {a : Str}, valsL fm os = [valT x a] → ∃ i, (valsL fm os).filterMap id = [i] ∧ ((bnd x).1 ≤ i ∧ i ≤ (bnd x).2) := fun {x a} h => by
    rw [h] at hn ⊢
    obtain ⟨i, ei, bi⟩ := get x a (fun z => hn (by rw [z]; simp))
    rw [ei]
    exact ⟨i, rfl, bi⟩
  simp only [forms, List.mem_cons, List.not_mem_nil, or_false] at hf
  rcases hf with rfl | rfl | rfl | rfl | rfl | rfl | rfl
  · obtain ⟨a, b, c, rfl⟩ := len3 hl (by decide +kernel)
    obtain ⟨i, j, k, e, hi, hj, hk⟩ := n3 (x := 100) (y := 115) (z := 115) (a := a) (b := b) (c := c) rfl
    rw [e]
    rw [b1] at hi; rw [b2] at hj hk
    exact .dss ⟨hi.1, by have := hi.2; omega⟩ ⟨hj.1, by have := hj.2; omega⟩ ⟨hk.1, by have := hk.2; omega⟩
  · obtain ⟨a, b, c, rfl⟩ := len3 hl (by decide +kernel)
    obtain ⟨i, j, k, e, hi, hj, hk⟩ := n3 (x := 100) (y := 115) (z := 105) (a := a) (b := b) (c := c) rfl
    rw [e]
    rw [b1] at hi; rw [b2] at hj; rw [b3] at hk
    exact .dsi ⟨hi.1, by have := hi.2; omega⟩ ⟨hj.1, by have := hj.2; omega⟩ hk
  · obtain ⟨a, b, c, rfl⟩ := len3 hl (by decide +kernel)
    obtain ⟨i, j, k, e, hi, hj, hk⟩ := n3 (x := 115) (y := 115) (z := 105) (a := a) (b := b) (c := c) rfl
    rw [e]
    rw [b2] at hi hj; rw [b3] at hk
    exact .ssi ⟨hi.1, by have := hi.2; omega⟩ ⟨hj.1, by have := hj.2; omega⟩ hk
  · obtain ⟨a, b, rfl⟩ := len2 hl (by decide +kernel)
    obtain ⟨i, j, e, hi, hj⟩ := n2 (x := 100) (y := 117) (a := a) (b := b) rfl
    rw [e]
    rw [b1] at hi; rw [b5] at hj
    exact .du ⟨hi.1, by have := hi.2; omega⟩ ⟨hj.1, by have := hj.2; omega⟩
  · obtain ⟨a, b, rfl⟩ := len2 hl (by decide +kernel)
    obtain ⟨i, j, e, hi, hj⟩ := n2 (x := 100) (y := 106) (a := a) (b := b) rfl
    rw [e]
    rw [b1] at hi; rw [b4] at hj
    exact .dj ⟨hi.1, by have := hi.2; omega⟩ hj
  · obtain ⟨a, rfl⟩ := len1 hl (by decide +kernel)
    obtain ⟨i, e, hi⟩ := n1 (x := 100) (a := a) rfl
    rw [e]
    rw [b1] at hi
    exact .d ⟨hi.1, by have := hi.2; omega⟩
  · obtain ⟨a, rfl⟩ := len1 hl (by decide +kernel)
    obtain ⟨i, e, hi⟩ := n1 (x := 115) (a := a) rfl
    rw [e]
    rw [b2] at hi
    exact .s ⟨hi.1, by have := hi.2; omega⟩
def spWordL (P : Str → Prop) : Sp := fun vs H Q _ => ∃ (ln : Str) (p : Addr) (T : List Ent) (place : Nat), vs = [.str ln, .ref p, .int (place : Int)] ∧ LabAt H p T ∧ ln.length ≤ 10000 ∧ P (opT0 ln) ∧ place ≤ 10000 ∧ (∀ e ∈ T, e.ct ≤ 10000) ∧ ∀ H', Same H H' → Q (optV (wordL ln (lkE T) place)) H'
section
variable {P : Program} {w : World} {K : PySem.W.Frag} {mg : Str → Option Value} {base : Heap}
theorem ok_word_of_line {O F : Addr} (T0 : Env0 K w mg O F) {kn : Str → Prop} (forms : ∀ z, kn z → z ≠ "word" → KGet K w F z ((fmO z).map fun p => .str p.2)) (b_len : mg "len" = none) (b_zip : mg "zip" = none) (b_str : mg "str" = none) (c_number_of : Cd P w K mg base 1 "_number_of" spNum) (c_is_word : Cd P w K mg base 2 "is_word" spIsW) (c_may_name_label : Cd P w K mg base 1 "_may_name_label" spMay) (c_value_of : Cd P w K mg base 3 "_value_of" spVal) (c_encode : Cd P w K mg base 1 "encode" (spEnc K)) (Z : St1 K mg "_word_of_line" s_word_of_line ["line", "labels", "place"]) : Cd P w K mg base 4 "_word_of_line" (spWordL kn) := by
  have g_FORMS := T0.g_FORMS
  refine Z.cd sc_word_of_line (fun vs H Q E h => by obtain ⟨ln, p, T, place, rfl, _⟩ := h; rfl) (fun f cdv A outer s H vs Q E hr h => ?_)
  obtain ⟨ln, p, T, place, rfl, hT, hl, hkn, hpl, hct, q⟩ := h
  have hu := Nat.lt_trans (Nat.add_lt_add_left (by decide : 1 < 64) _) hr.units
  have hz : ln.length ≤ sizeLine := Nat.le_trans hl (by decide)
  refine ⟨_, (pss_cons (ps_asg (pe_m1 PySem.F.slot_str_partition PySem.F.type_str_partition mt_partQ (pv 0) pe_str) (pg_tup rfl (pgs_cons (pg_name (i := 3) sc_word_of_line.nd rfl (.inl rfl)) (pgs_cons (pg_name (i := 4) sc_word_of_line.nd rfl (.inl rfl)) (pgs_cons (pg_name (i := 5) sc_word_of_line.nd rfl (.inl rfl)) pgs_nil)))))
      (Evl.pss_cut (ps_setLc (i := 6) (own := [("operand", 9)]) rfl sc_word_of_line.nd rfl rfl (sw_true rfl rfl rfl (by decide +kernel)) (pi_list (pe_m1 PySem.F.slot_str_split PySem.F.type_str_split mt_splitQ (pv 5) pe_str)) (blkOk_by (own := [("operand", 9)]) (N := ["line", "labels", "place", "op", "_", "rest", "operands", "number", "values", "operand", "kind"]) (sc := (defScope s_word_of_line)) (by decide +kernel)) (fun _ _ _ _ _ => (pg_name (i := 9) sc_word_of_line.nd rfl (.inl rfl))) (fun _ _ _ _ _ => pts_nil) (fun _ _ _ _ _ => (pe_m1 PySem.F.slot_str_strip PySem.F.type_str_strip mt_stripQ (pv 9) pe_str)))
      (pss_cons (ps_if (pt_cmpR op_eq (pv 3) pe_str (nomark _)) (pss_cons (ps_set (i := 7) sc_word_of_line.nd rfl (.inl rfl) (pe_ifExp (pt_cmpR op_eq (pe_callB call_lenQ (by rfl) b_len PySem.boot_len (pa_cons (pv 6) pa_nil)) pe_int (nomark _)) (pe_cd c_number_of hr (by first | decide | omega) (by rfl) (pa_cons (pe_ix ix_list (pv 6) pe_int (fun _ _ => rfl)) pa_nil)) pe_non))
      (pss_one (ps_ret (pe_ifExp (pt_val (pe_cd c_is_word hr (by first | decide | omega) (by rfl) (pa_cons (pv 7) pa_nil))) (pv 7) pe_non)))) pss_nil)
      (pss_cons (ps_if (PW.pt (pw_or (pt_cmpR op_notInKG (pv 3) (pe_gv (by rfl) g_FORMS) rfl) (pw_or1 (pt_cmpR op_ne (pe_callB call_lenQ (by rfl) b_len PySem.boot_len (pa_cons (pv 6) pa_nil)) (pe_callB call_lenSQ (by rfl) b_len PySem.boot_len (pa_cons (pe_ix ix_kdict (pe_gv (by rfl) g_FORMS) (pv 3) (fun _ _ => rfl)) pa_nil)) (nomark _))))) (pss_one (ps_ret pe_non)) pss_nil)
      (Evl.pss_cut (ps_if (PW.pt (pw_and (pt_val (pe_cd c_may_name_label hr (by first | decide | omega) (by rfl) (pa_cons (pv 3) pa_nil))) (pw_and1 (pt_cmp (pc_din hu (pe_ix ix_list (pv 6) (pe_un un_neg pe_int) (fun _ _ => rfl)) (pv 1)))))) (pss_one (ps_asg (pe_callTy call_strQ (by rfl) b_str (by decide +kernel) (pa_cons (pe_op op_sub (pe_ix ix_tup (pe_dget hu (pv 1) (pe_ix ix_list (pv 6) (pe_un un_neg pe_int) (fun _ _ => rfl)) (fun _ _ => rfl)) pe_int (fun _ _ => rfl)) (pv 2)) pa_nil)) (pg_sub (pv 6) (pe_un un_neg pe_int) set_list))) pss_nil)
      (Evl.pss_cut (ps_setLc (i := 8) (own := [("kind", 10), ("operand", 9)]) rfl sc_word_of_line.nd rfl rfl (sw_true rfl rfl rfl (by decide +kernel)) (pi_zipSL (by rfl) b_zip (pa_cons (pe_ix ix_kdict (pe_gv (by rfl) g_FORMS) (pv 3) (fun _ _ => rfl)) (pa_cons (pv 6) pa_nil))) (blkOk_by (own := [("kind", 10), ("operand", 9)]) (N := ["line", "labels", "place", "op", "_", "rest", "operands", "number", "values", "operand", "kind"]) (sc := (defScope s_word_of_line)) (by decide +kernel)) (fun _ _ _ _ _ => (pg_tupK (K' := K) (n := 2) (by rfl) (by rfl) (pgs_cons (pg_name (i := 10) sc_word_of_line.nd (by rfl) (Or.inl (by rfl)) (by first | exact Or.inl rfl | exact Or.inr rfl)) (pgs_cons (pg_name (i := 9) sc_word_of_line.nd (by rfl) (Or.inl (by rfl)) (by first | exact Or.inl rfl | exact Or.inr rfl)) pgs_nil)))) (fun _ _ _ _ _ => pts_nil) (fun _ _ _ _ _ => (pe_cd c_value_of hr (by first | decide | omega) (by rfl) (pa_cons (pv 10) (pa_cons (pv 9) pa_nil)))))
      (pss_one (ps_ret (pe_ifExp (pt_cmpR op_in_seq pe_non (pv 8) rfl) pe_non (pe_cd c_encode hr (by first | decide | omega) (by rfl) (pa_cons (pe_tup (pa_cons (pv 3) (StX.pa_star (pv 8) pa_nil))) pa_nil))))))))))), ?_⟩
  (with_reducible refine w_seq ?_)
  (with_reducible refine w_asg ?_)
  (with_reducible refine w_m1 ?_)
  ((with_reducible refine' w_var ?hv ?_); (case hv => exact rfl))
  (with_reducible refine w_isS ?_)
  (with_reducible refine w_c ?_)
  refine w_partQ (by decide +kernel) hz fun t H1 n1 s1 ht => ?_
  ((with_reducible refine' w_gTup ?hh ?hn ?_); (case hh => assumption); (case hn => exact rfl))
  (with_reducible refine w_gCons ?_)
  (with_reducible refine w_name ?_)
  (with_reducible refine w_gCons ?_)
  (with_reducible refine w_name ?_)
  (with_reducible refine w_gCons ?_)
  (with_reducible refine w_name ?_)
  (with_reducible refine w_gNil ?_)
  have hr3 : (restT ln).length ≤ 10000 := Nat.le_trans (part3_le _ _) hl
  refine Evl.q_cut (M := fun σ' H' => Same H H' ∧ ∃ (pe : Addr) (v4 : Option V), H pe = none ∧ H' pe = some (.lst ((opnds ln).map V.str)) ∧ σ' = [some (.str ln), some (.ref p), some (.int (place : Int)), some (.str (opT0 ln)), v4, some (.str (restT ln)), some (.ref pe), none, none, none, none]) ?_ ?_
  · (with_reducible refine w_asg ?_)
    (with_reducible refine w_lc ?_)
    (with_reducible refine w_iL ?_)
    (with_reducible refine w_m1 ?_)
    ((with_reducible refine' w_var ?hv ?_); (case hv => exact rfl))
    (with_reducible refine w_isS ?_)
    (with_reducible refine w_c ?_)
    obtain ⟨sl1, sl2⟩ := split_le (restT ln) ("," : Str) (by decide +kernel)
    refine w_splitQ (by decide +kernel) (show (restT ln).length + 2 ≤ sizeLine from Nat.le_trans (Nat.add_le_add_right hr3 2) (by decide)) fun pp H2 np s2 hp => ?_
    let ys : Nat → List Str := fun i => ((Txt.split (restT ln) ("," : Str)).take i).map fun o => Txt.stripChars o (" " : Str)
    refine w_lcL ((Txt.split (restT ln) ("," : Str)).map V.str) (fun D i H' => H2 D = none ∧ Same H2 H' ∧ H' D = some (.lst ((ys i).map V.str))) (.of hp) (fun D nD => ⟨nD, Same.new nD, upd_same⟩) (fun D i H' _ h => .of (h.2.1 _ _ hp)) (fun D i x H' hx h => ?_) (fun D H' nD h => ?_)
    · obtain ⟨nD, sm, hD⟩ := h
      obtain ⟨o, ho, rfl⟩ : ∃ o, (Txt.split (restT ln) ("," : Str))[i]? = some o ∧ x = .str o := by
        rw [List.getElem?_map] at hx
        obtain ⟨o, h1, h2⟩ := Option.map_eq_some_iff.mp hx
        exact ⟨o, h1, h2.symm⟩
      have hol : o.length ≤ sizeLine := Nat.le_trans (sl1 o (List.mem_of_getElem? ho)) (Nat.le_trans hr3 (by decide))
      have hil : i < (Txt.split (restT ln) ("," : Str)).length := (List.getElem?_eq_some_iff.mp ho).1
      (with_reducible refine w_name ?_)
      refine ⟨rfl, ?_⟩
      (with_reducible refine w_yes ?_)
      (with_reducible refine w_itT ?_)
      (with_reducible refine w_m1 ?_)
      ((with_reducible refine' w_var ?hv ?_); (case hv => exact rfl))
      (with_reducible refine w_isS ?_)
      (with_reducible refine w_c ?_)
      refine w_stripQ hol ?_
      refine ⟨_, hD, by rw [List.length_map, List.length_map, List.length_take]; exact Nat.lt_of_le_of_lt (show _ ≤ 10001 by omega) (by decide), nD, fun y o' hy => ?_, ?_⟩
      · rw [upd_ne (ne_of_none hy nD)]; exact sm _ _ hy
      · show upd _ _ _ _ = some (.lst ((ys (i + 1)).map V.str))
        have e : ys (i + 1) = ys i ++ [Txt.stripChars o (" " : Str)] := by
          show List.map _ _ = _
          rw [take_more ho, List.map_append]
          rfl
        rw [e, List.map_append]
        exact upd_same
    · obtain ⟨_, sm, hD⟩ := h
      (with_reducible refine w_name ?_)
      refine ⟨s1.trans (s2.trans sm), D, some (.str (Txt.partition ln (" " : Str)).2.1), fresh (s1.trans s2) nD, ?_, rfl⟩
      · have e : ys ((Txt.split (restT ln) ("," : Str)).map V.str).length = opnds ln := by
          show List.map _ _ = _
          rw [List.length_map, List.take_length]
          rfl
        rw [e] at hD
        exact hD
  · rintro σ' H2 ⟨s2, pe, v4, npe, hpe, rfl⟩
    obtain ⟨ole, oll⟩ := opnds_le hl
    (with_reducible refine w_seq ?_)
    (with_reducible refine w_ifS ?_)
    (with_reducible refine w_test ?_)
    (with_reducible refine w_op ?_)
    ((with_reducible refine' w_var ?hv ?_); (case hv => exact rfl))
    (with_reducible refine w_c ?_)
    (with_reducible refine w_eqS ?_)
    (with_reducible refine w_bl ?_)
    by_cases ew : opT0 ln = ("word" : Str)
    · have qw : ∀ H3, Same H H3 → Q (optV (if (opnds ln).length = 1 then (numT ((opnds ln).getD 0 "")).filter isW else none)) H3 := fun H3 s3 => by
        have := q H3 s3
        unfold wordL at this
        rw [if_pos ew] at this
        exact this
      refine w_decT ew ?_
      (with_reducible refine w_seq ?_)
      (with_reducible refine w_asg ?_)
      (with_reducible refine w_if ?_)
      (with_reducible refine w_test ?_)
      (with_reducible refine w_op ?_)
      (with_reducible refine w_cb ?_)
      (with_reducible refine w_cons ?_)
      ((with_reducible refine' w_var ?hv ?_); (case hv => exact rfl))
      (with_reducible refine w_nil ?_)
      ((with_reducible refine' w_lenL ?hh ?_); (case hh => assumption))
      (with_reducible refine w_c ?_)
      (with_reducible refine w_eqI ?_)
      (with_reducible refine w_bl ?_)
      rw [List.length_map]
      refine w_dec (fun e1 => ?_) (fun e1 => ?_)
      · obtain ⟨o0, eo⟩ : ∃ o, opnds ln = [o] := List.length_eq_one_iff.mp (by omega)
        rw [eo] at hpe qw ole
        have ol0 := ole o0 List.mem_cons_self
        (with_reducible refine w_call ?_)
        (with_reducible refine w_cons ?_)
        (with_reducible refine w_op ?_)
        ((with_reducible refine' w_var ?hv ?_); (case hv => exact rfl))
        (with_reducible refine w_c ?_)
        ((with_reducible refine' w_ixL ?hh ?ha ?_); (case hh => assumption); (case ha => exact rfl))
        (with_reducible refine w_nil ?_)
        refine ⟨o0, rfl, Nat.le_trans ol0 (by decide), fun H3 s3 => ?_⟩
        (with_reducible refine w_name ?_)
        (with_reducible refine w_ret ?_)
        (with_reducible refine w_if ?_)
        (with_reducible refine w_B ?_)
        (with_reducible refine w_call ?_)
        (with_reducible refine w_cons ?_)
        ((with_reducible refine' w_var ?hv ?_); (case hv => exact rfl))
        (with_reducible refine w_nil ?_)
        refine ⟨numT o0, rfl, ?_⟩
        have qq := qw H3 (s2.trans s3)
        rw [if_pos (show [o0].length = 1 from rfl)] at qq
        cases hb : (numT o0).any isW with
        | true =>
          rw [show ([o0].getD 0 "") = o0 from rfl, filt hb] at qq
          rw [show ((numT o0).any fun i => decide (0 ≤ i) && decide (i ≤ 4294967295)) = true from hb]
          (with_reducible refine w_bl ?_)
          (with_reducible refine w_itT ?_)
          ((with_reducible refine' w_var ?hv ?_); (case hv => exact rfl))
          exact qq
        | false =>
          rw [show ([o0].getD 0 "") = o0 from rfl, filtN hb] at qq
          rw [show ((numT o0).any fun i => decide (0 ≤ i) && decide (i ≤ 4294967295)) = false from hb]
          (with_reducible refine w_bl ?_)
          (with_reducible refine w_itF ?_)
          (with_reducible refine w_c ?_)
          exact qq
      · (with_reducible refine w_c ?_)
        (with_reducible refine w_name ?_)
        (with_reducible refine w_ret ?_)
        (with_reducible refine w_if ?_)
        (with_reducible refine w_B ?_)
        (with_reducible refine w_call ?_)
        (with_reducible refine w_cons ?_)
        ((with_reducible refine' w_var ?hv ?_); (case hv => exact rfl))
        (with_reducible refine w_nil ?_)
        have qq := qw H2 s2
        rw [if_neg (by omega)] at qq
        refine ⟨none, rfl, ?_⟩
        (with_reducible refine w_bl ?_)
        exact qq
    · refine w_decF ew ?_
      (with_reducible refine w_next ?_)
      (with_reducible refine w_seq ?_)
      (with_reducible refine w_ifS ?_)
      (with_reducible refine w_orT ?_)
      (with_reducible refine w_test ?_)
      (with_reducible refine w_op ?_)
      ((with_reducible refine' w_var ?hv ?_); (case hv => exact rfl))
      (with_reducible refine w_c ?_)
      have hf := forms _ hkn ew
      refine w_notInKG hf ?_
      cases ef : fmO (opT0 ln) with
      | none =>
        have qn : ∀ H3, Same H H3 → Q .non H3 := fun H3 s3 => by
          have := q H3 s3
          unfold wordL at this
          rw [if_neg ew, ef] at this
          exact this
        simp only [Option.map_none, Option.isSome_none]
        (with_reducible refine w_bl ?_)
        (with_reducible refine w_nF ?_)
        exact qn H2 s2
      | some nf =>
        obtain ⟨n, fm⟩ := nf
        rw [ef] at hf
        have hk : KDct K w F (opT0 ln) (.str fm) := KGet.dct hf
        have qn : ∀ H3, Same H H3 → Q (optV (if (opnds ln).length ≠ fm.cps.size then none
      else if none ∈ valsL fm (fixL (opT0 ln) (opnds ln) (lkE T) place) then none
      else some (encW n fm ((valsL fm (fixL (opT0 ln) (opnds ln) (lkE T) place)).filterMap id)))) H3 := fun H3 s3 => by
          have := q H3 s3
          unfold wordL at this
          rw [if_neg ew, ef] at this
          exact this
        simp only [Option.map_some, Option.isSome_some]
        (with_reducible refine w_bl ?_)
        (with_reducible refine w_nT ?_)
        (with_reducible refine w_test ?_)
        (with_reducible refine w_op ?_)
        (with_reducible refine w_cb ?_)
        (with_reducible refine w_cons ?_)
        ((with_reducible refine' w_var ?hv ?_); (case hv => exact rfl))
        (with_reducible refine w_nil ?_)
        ((with_reducible refine' w_lenL ?hh ?_); (case hh => assumption))
        (with_reducible refine w_cb ?_)
        (with_reducible refine w_cons ?_)
        (with_reducible refine w_op ?_)
        (with_reducible refine w_c ?_)
        ((with_reducible refine' w_var ?hv ?_); (case hv => exact rfl))
        refine w_ixD hk ?_
        have hin := fmO_in ef
        obtain ⟨fpos, hfz⟩ := forms_pos _ (ops_forms _ (List.mem_of_getElem? hin))
        (with_reducible refine w_nil ?_)
        refine w_lenSQ (Nat.le_trans hfz (by decide)) ?_
        rw [List.length_map]
        (with_reducible refine w_neI ?_)
        (with_reducible refine w_bl ?_)
        refine w_ndec (fun e1 => ?_) (fun e1 => ?_)
        · (with_reducible refine w_ret ?_)
          (with_reducible refine w_c ?_)
          have qq := qn H2 s2
          rw [if_pos (fun z => e1 (by rw [z]; rfl))] at qq
          exact qq
        · have hlen : (opnds ln).length = fm.cps.size := by
            have : ((opnds ln).length : Int) = (fm.cps.size : Int) := e1
            omega
          simp only [if_neg (fun z : ¬ _ => z hlen)] at qn
          obtain ⟨ini, o9, eos⟩ : ∃ ini o9, opnds ln = ini ++ [o9] := by
            rcases List.eq_nil_or_concat (opnds ln) with z | ⟨r, d, z⟩
            · exact absurd (show fm.cps.size = 0 by rw [← hlen, z]; rfl) (Nat.ne_of_gt fpos)
            · exact ⟨r, d, by rw [z, List.concat_eq_append]⟩
          (with_reducible refine w_next ?_)
          refine Evl.q_cut (M := fun σ' H' => Same H H' ∧ ∃ (v4 : Option V), H' pe = some (.lst ((fixL (opT0 ln) (opnds ln) (lkE T) place).map V.str)) ∧ σ' = [some (.str ln), some (.ref p), some (.int (place : Int)), some (.str (opT0 ln)), v4, some (.str (restT ln)), some (.ref pe), none, none, none, none]) ?_ ?_
          · (with_reducible refine w_ifS ?_)
            (with_reducible refine w_andT ?_)
            (with_reducible refine w_B ?_)
            (with_reducible refine w_call ?_)
            (with_reducible refine w_cons ?_)
            ((with_reducible refine' w_var ?hv ?_); (case hv => exact rfl))
            (with_reducible refine w_nil ?_)
            refine ⟨opT0 ln, rfl, ?_⟩
            (with_reducible refine w_bl ?_)
            cases hm : mayN (opT0 ln) with
            | false =>
              (with_reducible refine w_itF ?_)
              (with_reducible refine w_itF ?_)
              (with_reducible refine w_next ?_)
              refine ⟨s2, v4, ?_, rfl⟩
              rw [hpe]
              unfold fixL
              rw [hm, if_neg (by decide)]
            | true =>
              (with_reducible refine w_itT ?_)
              (with_reducible refine w_B ?_)
              (with_reducible refine w_din ?_)
              (with_reducible refine w_op ?_)
              ((with_reducible refine' w_var ?hv ?_); (case hv => exact rfl))
              (with_reducible refine w_un ?_)
              (with_reducible refine w_c ?_)
              (with_reducible refine w_U ?_)
              have hlast : atI ((opnds ln).map V.str) (-1) = some (.str o9) := by
                rw [eos, List.map_append]
                exact atI_last _ _
              have o9l : o9.length ≤ 10000 := ole o9 (by rw [eos]; simp)
              have elk : (opnds ln).getLast? = some o9 := by rw [eos]; simp
              refine w_ixL hpe hlast ?_
              ((with_reducible refine' w_var ?hv ?_); (case hv => exact rfl))
              refine ⟨p, _, rfl, (hT.same s2).get o9, ?_⟩
              cases hfe : fndE T o9 with
              | none =>
                simp only [Option.map_none, Option.isSome_none]
                (with_reducible refine w_bl ?_)
                (with_reducible refine w_itF ?_)
                (with_reducible refine w_next ?_)
                refine ⟨s2, v4, ?_, rfl⟩
                rw [hpe]
                unfold fixL lkE
                rw [hm, if_pos rfl, elk, Option.bind_some, hfe]
                rfl
              | some e =>
                obtain ⟨em, en⟩ := fnd_mem hfe
                simp only [Option.map_some, Option.isSome_some]
                (with_reducible refine w_bl ?_)
                (with_reducible refine w_itT ?_)
                (with_reducible refine w_asg ?_)
                (with_reducible refine w_cb ?_)
                (with_reducible refine w_cons ?_)
                (with_reducible refine w_op ?_)
                (with_reducible refine w_op ?_)
                (with_reducible refine w_dget ?_)
                ((with_reducible refine' w_var ?hv ?_); (case hv => exact rfl))
                (with_reducible refine w_op ?_)
                ((with_reducible refine' w_var ?hv ?_); (case hv => exact rfl))
                (with_reducible refine w_un ?_)
                (with_reducible refine w_c ?_)
                (with_reducible refine w_U ?_)
                refine w_ixL hpe hlast ?_
                skip
                refine w_kDG (hT.same s2).hp (by rw [valE, hfe]; rfl) ?_
                have hea := (hT.same s2).ha e em
                have hec := hct e em
                (with_reducible refine w_c ?_)
                ((with_reducible refine' w_ixT ?hh ?ha ?_); (case hh => assumption); (case ha => exact rfl))
                ((with_reducible refine' w_var ?hv ?_); (case hv => exact rfl))
                (with_reducible refine w_I0 ?_)
                (with_reducible refine w_nil ?_)
                refine w_strI (by omega) ?_
                (with_reducible refine w_sub ?_)
                ((with_reducible refine' w_var ?hv ?_); (case hv => exact rfl))
                (with_reducible refine w_un ?_)
                (with_reducible refine w_c ?_)
                (with_reducible refine w_U ?_)
                refine w_setL hpe (ixN_last _ (by rw [List.length_map, hlen]; exact fpos)) fun H4 hp4 b4 => ?_
                skip
                have hfx : fixL (opT0 ln) (opnds ln) (lkE T) place = ini ++ [dcT ((e.ct : Int) - place)] := by
                  unfold fixL lkE
                  rw [hm, if_pos rfl, elk, Option.bind_some, hfe]
                  simp only [Option.map_some]
                  rw [eos, List.dropLast_concat]
                refine ⟨fun b o hb => b4 b o (fun z => by rw [z, npe] at hb; cases hb) (s2 _ _ hb), v4, ?_, rfl⟩
                rw [hp4, hfx, eos, List.map_append, List.map_append]
                refine congrArg some (congrArg HO.lst (set_last _ _ _ ?_))
                rw [List.length_append, List.length_map, List.length_append]
                simp
          · rintro σ' H3 ⟨s3, v4, hpe3, rfl⟩
            have qn3 := fun H' (s4 : Same H3 H') => qn H' (s3.trans s4)
            have lo : (fixL (opT0 ln) (opnds ln) (lkE T) place).length = fm.cps.size := by
              rw [← hlen]
              unfold fixL
              split
              · split
                · rw [eos, List.dropLast_concat]; simp
                · rfl
              · rfl
            have lb : ∀ o ∈ fixL (opT0 ln) (opnds ln) (lkE T) place, o.length ≤ 10000 := by
              intro o ho
              unfold fixL at ho
              split at ho
              · split at ho
                · rename_i c hc
                  rcases List.mem_append.mp ho with h | h
                  · exact ole o (List.dropLast_subset _ h)
                  · rw [List.mem_singleton.mp h]
                    obtain ⟨o', h1, h2⟩ := Option.bind_eq_some_iff.mp hc
                    unfold lkE at h2
                    obtain ⟨e, h3, rfl⟩ := Option.map_eq_some_iff.mp h2
                    have := hct e (fnd_mem h3).1
                    exact Nat.le_trans (dcT_len (by omega)) (by decide)
                · exact ole o ho
              · exact ole o ho
            have hfz' : fm.cps.size ≤ 10 := hfz
            generalize hos : fixL (opT0 ln) (opnds ln) (lkE T) place = os at *
            refine Evl.q_cut (M := fun σ' H' => Same H3 H' ∧ ∃ (pv : Addr) (v4 v9 v10 : Option V), H' pv = some (.lst ((valsL fm os).map optV)) ∧ σ' = [some (.str ln), some (.ref p), some (.int (place : Int)), some (.str (opT0 ln)), v4, some (.str (restT ln)), some (.ref pe), none, some (.ref pv), v9, v10]) ?_ ?_
            · (with_reducible refine w_asg ?_)
              (with_reducible refine w_lc ?_)
              (with_reducible refine w_zSL ?_)
              (with_reducible refine w_cons ?_)
              (with_reducible refine w_op ?_)
              (with_reducible refine w_c ?_)
              ((with_reducible refine' w_var ?hv ?_); (case hv => exact rfl))
              refine w_ixD hk ?_
              (with_reducible refine w_cons ?_)
              ((with_reducible refine' w_var ?hv ?_); (case hv => exact rfl))
              (with_reducible refine w_nil ?_)
              have zl : (fm.cps.toList.zip os).length = os.length := by rw [List.length_zip]; simp only [Array.length_toList, ← lo, Nat.min_self]
              let ys : Nat → List (Option Int) := fun i => ((fm.cps.toList.zip os).take i).map fun p => valT p.1 p.2
              refine w_lcZL (os.map V.str) (fun D i H' => H3 D = none ∧ Same H3 H' ∧ H' D = some (.lst ((ys i).map optV)) ∧ (ys i).length ≤ i) (.of hpe3) (by rw [List.length_map]; exact lo.symm) (fun D nD => ⟨nD, Same.new nD, upd_same, Nat.le_refl _⟩) (fun D i H' ⟨_, sm', _⟩ => .of (sm' _ _ hpe3)) ?_ ?_
              · rintro D i c y T9 H' H'' hc hy ⟨nD, sm', hD, hul⟩ nT sT hT9
                obtain ⟨x, hx, rfl⟩ : ∃ x, os[i]? = some x ∧ y = .str x := by
                  rw [List.getElem?_map] at hy
                  obtain ⟨x, h1, h2⟩ := Option.map_eq_some_iff.mp hy
                  exact ⟨x, h1, h2.symm⟩
                have hil : i < os.length := (List.getElem?_eq_some_iff.mp hx).1
                have hz9 : (fm.cps.toList.zip os)[i]? = some (c, x) := by
                  rw [List.getElem?_zip_eq_some]
                  exact ⟨by simpa using hc, hx⟩
                have tk := take_more hz9
                have ey : ys (i + 1) = ys i ++ [valT c x] := by
                  show List.map _ _ = _
                  rw [tk, List.map_append]
                  rfl
                ((with_reducible refine' w_gTup ?hh ?hn ?_); (case hh => assumption); (case hn => exact rfl))
                (with_reducible refine w_gCons ?_)
                (with_reducible refine w_name ?_)
                (with_reducible refine w_gCons ?_)
                (with_reducible refine w_name ?_)
                (with_reducible refine w_gNil ?_)
                refine ⟨rfl, ?_⟩
                (with_reducible refine w_yes ?_)
                (with_reducible refine w_itT ?_)
                (with_reducible refine w_call ?_)
                (with_reducible refine w_cons ?_)
                ((with_reducible refine' w_var ?hv ?_); (case hv => exact rfl))
                (with_reducible refine w_cons ?_)
                ((with_reducible refine' w_var ?hv ?_); (case hv => exact rfl))
                (with_reducible refine w_nil ?_)
                refine ⟨c, x, rfl, kinds_all _ (ops_forms _ (List.mem_of_getElem? hin)) c (List.mem_of_getElem? (show fm.cps.toList[i]? = some c by simpa using hc)), Nat.le_trans (lb x (List.mem_of_getElem? hx)) (by decide), fun H9 s9 => ?_⟩
                refine ⟨_, s9 _ _ (sT _ _ hD), by rw [List.length_map]; exact Nat.lt_of_le_of_lt (show _ ≤ 100 by omega) (by decide), nD, fun b o h => ?_, ?_, ?_⟩
                · rw [upd_ne (ne_of_none h nD)]; exact s9 _ _ (sT _ _ (sm' b o h))
                · rw [ey, List.map_append]; exact upd_same
                · rw [ey, List.length_append]; exact Nat.succ_le_succ hul
              · rintro D H' nD ⟨_, sm', hD, _⟩
                (with_reducible refine w_name ?_)
                have ee : ys (os.map V.str).length = valsL fm os := by
                  show List.map _ _ = _
                  rw [List.length_map, ← zl, List.take_length]
                  rfl
                rw [ee] at hD
                exact ⟨sm', D, _, _, _, hD, rfl⟩
            · rintro σ' H4 ⟨s4, pv, v4, v9, v10, hpv, rfl⟩
              (with_reducible refine w_ret ?_)
              (with_reducible refine w_if ?_)
              (with_reducible refine w_test ?_)
              (with_reducible refine w_op ?_)
              (with_reducible refine w_c ?_)
              ((with_reducible refine' w_var ?hv ?_); (case hv => exact rfl))
              refine w_inL hpv rfl (flat_opt _) (inV_opt _) ?_
              (with_reducible refine w_bl ?_)
              have qq := qn3 H4 s4
              refine w_dec (fun e5 => ?_) (fun e5 => ?_)
              · rw [if_pos e5] at qq
                (with_reducible refine w_c ?_)
                exact qq
              · have qq2 := qn3
                rw [if_neg e5] at qq2
                (with_reducible refine w_call ?_)
                (with_reducible refine w_cons ?_)
                (with_reducible refine w_tup ?_)
                (with_reducible refine w_cons ?_)
                ((with_reducible refine' w_var ?hv ?_); (case hv => exact rfl))
                (with_reducible refine w_star ?_)
                ((with_reducible refine' w_var ?hv ?_); (case hv => exact rfl))
                have ev := vals_some e5
                have hft : Fits fm ((valsL fm os).filterMap id) := vals_fits (ops_forms _ (List.mem_of_getElem? hin)) lo e5
                rw [ev] at hpv
                refine w_stR hpv ?_
                (with_reducible refine w_nil ?_)
                obtain ⟨_, l3, _⟩ := hft.len
                refine w_kTup (by simp only [List.length_append, List.length_map, List.length_cons, List.length_nil]; exact Nat.le_of_lt (small1000 (by omega))) fun t5 H5 nt5 st5 ht5 => ?_
                replace ht5 : H5 t5 = some (.tup (insV (opT0 ln) ((valsL fm os).filterMap id))) := by simpa [insV] using ht5
                (with_reducible refine w_nil ?_)
                refine ⟨t5, n, opT0 ln, fm, _, rfl, .of ht5, ⟨hin, hft⟩, fun H6 s6 => ?_⟩
                skip
                exact qq2 H6 (s4.trans (st5.trans s6))
end
end K05


open PySem.W
namespace K05
def kEnL (K : PySem.W.Frag) (R : It → Hp → Prop) : List V → Hp → Prop := fun vs H1 => ∃ a xs, vs = [.ref a] ∧ SqL K H1 a xs ∧ R (Ite K a) H1
theorem w_iEnL {K : PySem.W.Frag} {ta : TA} {σ : L2.St} {H : Hp} {R : It → Hp → Prop} (q : ta σ H (kEnL K R)) : iEnum K ta σ H R := q
theorem w_forEL {K : PySem.W.Frag} {g : TG} {tb : TS} {D : Ends} {σ : L2.St} {H : Hp} {a : Addr} (xs : List V) (Pv : Nat → L2.St → Hp → Prop) (hq : SqL K H a xs) (h0 : Pv 0 σ H) (hl : ∀ i σ H, Pv i σ H → SqL K H a xs)
    (hs : ∀ i x σ H t H1, xs[i]? = some x → Pv i σ H → H t = none → Same H H1 → H1 t = some (.tup [.int (i : Nat), x]) → g (.ref t) σ H1 fun σ2 H2 => tb { D with nx := Pv (i + 1), ct := Pv (i + 1), bk := D.nx } σ2 H2)
    (hd : ∀ σ H, Pv xs.length σ H → D.nx σ H) : kEnL K (kFor g tb D σ) [.ref a] H := by
  refine ⟨a, xs, rfl, hq, fun i m σ H => m = xs.length - i ∧ i ≤ xs.length ∧ Pv i σ H, ⟨xs.length, by simp, Nat.zero_le _, h0⟩, ?_⟩
  rintro i m σ H ⟨rfl, hi, p⟩
  have q := hl i σ H p
  by_cases hlt : i < xs.length
  · refine .inr ⟨⟨xs, xs[i], q, List.getElem?_eq_getElem hlt⟩, Pv (i + 1), fun σ' H' p' => ⟨xs.length - (i + 1), by omega, rfl, hlt, p'⟩, fun v H' y => ?_⟩
    obtain ⟨T, y, rfl, nT, rfl, hy⟩ := y
    exact hs i y σ H T _ (hy xs q) p nT (Same.new nT) upd_same
  · have e : i = xs.length := by omega
    subst e
    exact .inl ⟨⟨xs, q, Nat.le_refl _⟩, hd σ H p⟩
theorem w_raiseAs {C : Addr} {W : WX} {ta : TA} {D : Ends} {σ : L2.St} {H : Hp} (q : ta σ H fun vs H1 => ∃ n : Int, vs = [.int n] ∧ n.natAbs < 4294967296 ∧ ∀ d, H1 d = none → W (.ref C) (some d) σ (upd H1 d (.xd [(("line" : Str), .int n)]))) : tRaiseAs C W ta D σ H := q
local macro_rules | `(tactic| walk_at "w1") => `(tactic| first
  | (with_reducible refine w_raiseAs ?_)
  | (with_reducible refine w_din ?_)
  | (with_reducible refine w_dnotin ?_)
  | (with_reducible refine w_endsQ ?_)
  | (with_reducible refine w_m1 ?_)
  | (with_reducible refine w_dget ?_)
  | (with_reducible refine w_dput ?_)
  | (with_reducible refine w_zSL ?_)
  | (with_reducible refine w_iEnL ?_)
  | (with_reducible refine w_isS ?_))
theorem sc_is_silent : FnScope ["line"] ["line"] (defScope s_is_silent) := ⟨rfl, rfl, rfl, by decide +kernel, rfl, by decide +kernel, by decide +kernel⟩
theorem sc_first_labels : FnScope ["lines", "labels", "count", "index", "line"] ["lines"] (defScope s_first_labels) := ⟨rfl, rfl, rfl, by decide +kernel, rfl, by decide +kernel, by decide +kernel⟩
theorem sc_assemble : FnScope ["text", "lines", "labels", "words", "index", "line", "name", "word"] ["text"] (defScope s_assemble) := ⟨rfl, rfl, rfl, by decide +kernel, rfl, by decide +kernel, by decide +kernel⟩
/-! ### lines -/
def silS (t : Str) : Bool := decide (t = ("" : Str)) || Txt.startswith t ("#" : Str)
def labS (t : Str) : Bool := Txt.endswith t (":" : Str)
def nmT (t : Str) : Str := cutS t none (some (-1))
abbrev Lab : Type := Str × Nat × Nat
def fndL (L : List Lab) (z : Str) : Option Lab := L.find? fun e => e.1 == z
/-- the table of labels, and the number of words, behind the first k lines -/
def stepF (k : Nat) (s : Nat × List Lab) (t : Str) : Nat × List Lab :=
  if silS t = true then s
  else if labS t = false then (s.1 + 1, s.2)
  else if nameOk (nmT t) = true ∧ fndL s.2 (nmT t) = none then (s.1, s.2 ++ [(nmT t, k, s.1)])
  else s
def fst_ (ts : List Str) : Nat → Nat × List Lab
  | 0 => (0, [])
  | k + 1 => match ts[k]? with
    | some t => stepF k (fst_ ts k) t
    | none => fst_ ts k
def spSil : Sp := fun vs H Q _ => ∃ t : Str, vs = [.str t] ∧ Q (.bl (silS t)) H
def trip (e : Ent) : Lab := (e.nm, e.ix, e.ct)
theorem fnd_trip (z : Str) : ∀ T : List Ent, fndL (T.map trip) z = (fndE T z).map trip := fun T => by
  unfold fndL fndE
  rw [List.find?_map]
  rfl
theorem putE {T : List Ent} {e : Ent} (h : fndE T e.nm = none) : putK (kvsE T) (kS e.nm) (.ref e.a) = kvsE (T ++ [e]) := by
  rw [putK_new _ (by rw [valE, h]; rfl)]
  unfold kvsE
  rw [List.map_append]
  rfl
def spFirstL : Sp := fun vs H Q _ => ∃ (p : Addr) (ts : List Str), vs = [.ref p] ∧ H p = some (.lst (ts.map V.str)) ∧ ts.length ≤ 900 ∧ (∀ t ∈ ts, t.length ≤ 10000) ∧ ∀ d T H', H d = none → Same H H' → LabAt H' d T → T.map trip = (fst_ ts ts.length).2 → Q (.ref d) H'
section
variable {P : Program} {w : World} {K : PySem.W.Frag} {mg : Str → Option Value} {base : Heap}
theorem ok_is_silent (Z : St1 K mg "_is_silent" s_is_silent ["line"]) : Cd P w K mg base 1 "_is_silent" spSil := by
  refine Z.cd sc_is_silent (fun vs H Q E h => by obtain ⟨o, rfl, _⟩ := h; rfl) (fun f cdv A outer s H vs Q E hr h => ?_)
  obtain ⟨t, rfl, q⟩ := h
  refine ⟨_, (pss_one (ps_ret (pe_or (pe_cmpR op_eq (pv 0) pe_str (nomark _)) (pe_one (pe_m1 PySem.F.slot_str_startswith PySem.F.type_str_startswith mt_startsQ (pv 0) pe_str))))), ?_⟩
  (with_reducible refine w_ret ?_)
  (with_reducible refine w_orV ?_)
  (with_reducible refine w_op ?_)
  ((with_reducible refine' w_var ?hv ?_); (case hv => exact rfl))
  (with_reducible refine w_c ?_)
  (with_reducible refine w_eqS ?_)
  (with_reducible refine w_bl ?_)
  refine w_dec (fun e => ?_) (fun e => ?_)
  · have : silS t = true := by unfold silS; rw [decide_eq_true (show t = ("" : Str) from e)]; rfl
    rw [this] at q
    skip
    exact q
  · have : silS t = Txt.startswith t ("#" : Str) := by unfold silS; rw [decide_eq_false (show ¬ t = ("" : Str) from e)]; rfl
    rw [this] at q
    (with_reducible refine w_m1 ?_)
    ((with_reducible refine' w_var ?hv ?_); (case hv => exact rfl))
    (with_reducible refine w_isS ?_)
    (with_reducible refine w_c ?_)
    (with_reducible refine w_starts ?_)
    exact q
theorem ok_first_labels (b_enumerate : mg "enumerate" = none) (c_is_silent : Cd P w K mg base 1 "_is_silent" spSil) (c_is_name : Cd P w K mg base 1 "is_name" spName) (Z : St1 K mg "_first_labels" s_first_labels ["lines"]) : Cd P w K mg base 2 "_first_labels" spFirstL := by
  refine Z.cd sc_first_labels (fun vs H Q E h => by obtain ⟨p, ts, rfl, _⟩ := h; rfl) (fun f cdv A outer s H vs Q E hr h => ?_)
  obtain ⟨p, ts, rfl, hp, hl, ht, q⟩ := h
  have hu := Nat.lt_trans (Nat.add_lt_add_left (by decide : 1 < 64) _) hr.units
  refine ⟨_, (pss_cons (ps_set (i := 1) sc_first_labels.nd rfl (.inl rfl) pe_dnewK)
      (pss_cons (ps_set (i := 2) sc_first_labels.nd rfl (.inl rfl) pe_int)
      (pss_cons (ps_for PassesOwn.never rfl (pi_enum (by rfl) b_enumerate (pa_cons (pv 0) pa_nil)) (pg_tup rfl (pgs_cons (pg_name (i := 3) sc_first_labels.nd rfl (.inl rfl)) (pgs_cons (pg_name (i := 4) sc_first_labels.nd rfl (.inl rfl)) pgs_nil)))
      (pss_cons (ps_if (pt_val (pe_cd c_is_silent hr (by first | decide | omega) (by rfl) (pa_cons (pv 4) pa_nil))) (pss_one ps_continue) pss_nil)
      (pss_one (ps_if (pt_not (pt_val (pe_m1 PySem.F.slot_str_endswith PySem.F.type_str_endswith mt_endsQ (pv 4) pe_str))) (pss_one (ps_aug (i := 2) sc_first_labels.nd rfl (.inl rfl) pe_int ip_add)) (pss_one (ps_if (PW.pt (pw_and (pt_val (pe_cd c_is_name hr (by first | decide | omega) (by rfl) (pa_cons (pe_slice sl_str (pv 4) po_none (po_some (pe_un un_neg pe_int))) pa_nil))) (pw_and1 (pt_cmp (pc_dnotin hu (pe_slice sl_str (pv 4) po_none (po_some (pe_un un_neg pe_int))) (pv 1)))))) (pss_one (ps_dput hu (pv 1) (pe_slice sl_str (pv 4) po_none (po_some (pe_un un_neg pe_int))) (pe_tup (pa_cons (pv 3) (pa_cons (pv 2) pa_nil))) rfl)) pss_nil))))))
      (pss_one (ps_ret (pv 1)))))), ?_⟩
  (with_reducible refine w_seq ?_)
  (with_reducible refine w_asg ?_)
  refine w_dnewK fun d H1 nd s1 hd => ?_
  (with_reducible refine w_name ?_)
  (with_reducible refine w_seq ?_)
  (with_reducible refine w_asg ?_)
  (with_reducible refine w_c ?_)
  (with_reducible refine w_name ?_)
  (with_reducible refine w_seq ?_)
  (with_reducible refine w_for ?_)
  (with_reducible refine w_iEnL ?_)
  (with_reducible refine w_cons ?_)
  ((with_reducible refine' w_var ?hv ?_); (case hv => exact rfl))
  (with_reducible refine w_nil ?_)
  refine w_forEL (ts.map V.str) (fun i σ H' => Same H H' ∧ ∃ (T : List Ent) (v3 v4 : Option V), LabAt H' d T ∧ T.map trip = (fst_ ts i).2 ∧ T.length ≤ i ∧ σ = [some (.ref p), some (.ref d), some (.int ((fst_ ts i).1 : Int)), v3, v4]) (.of (s1 _ _ hp)) ⟨s1, [], none, none, ⟨hd, fun _ h => (by cases h)⟩, rfl, Nat.le_refl _, rfl⟩ (fun i σ H' h => .of (h.1 _ _ hp)) (fun i x σ H2 t H3 hx h nt s3 h3 => ?_) (fun σ H2 h => ?_)
  · obtain ⟨s2, T, v3, v4, hT, eT, lT, rfl⟩ := h
    obtain ⟨o, ho, rfl⟩ : ∃ o, ts[i]? = some o ∧ x = .str o := by
      rw [List.getElem?_map] at hx
      obtain ⟨o, h1, h2⟩ := Option.map_eq_some_iff.mp hx
      exact ⟨o, h1, h2.symm⟩
    have hol := ht o (List.mem_of_getElem? ho)
    have hil : i < ts.length := (List.getElem?_eq_some_iff.mp ho).1
    have st : fst_ ts (i + 1) = stepF i (fst_ ts i) o := by
      show (match ts[i]? with | some t => stepF i (fst_ ts i) t | none => fst_ ts i) = _
      rw [ho]
    have hT3 := hT.same s3
    have s23 := s2.trans s3
    generalize fst_ ts i = S0 at *
    obtain ⟨c, L⟩ := S0
    simp only at eT
    ((with_reducible refine' w_gTup ?hh ?hn ?_); (case hh => assumption); (case hn => exact rfl))
    (with_reducible refine w_gCons ?_)
    (with_reducible refine w_name ?_)
    (with_reducible refine w_gCons ?_)
    (with_reducible refine w_name ?_)
    (with_reducible refine w_gNil ?_)
    (with_reducible refine w_seq ?_)
    (with_reducible refine w_ifS ?_)
    (with_reducible refine w_B ?_)
    (with_reducible refine w_call ?_)
    (with_reducible refine w_cons ?_)
    ((with_reducible refine' w_var ?hv ?_); (case hv => exact rfl))
    (with_reducible refine w_nil ?_)
    refine ⟨o, rfl, ?_⟩
    cases hsil : silS o with
    | true =>
      have e1 : stepF i (c, L) o = (c, L) := if_pos hsil
      rw [e1] at st
      (with_reducible refine w_bl ?_)
      (with_reducible refine w_itT ?_)
      exact ⟨s23, T, _, _, hT3, by rw [st]; exact eT, Nat.le_succ_of_le lT, by rw [st]; rfl⟩
    | false =>
      have hno : ¬ silS o = true := by rw [hsil]; decide
      (with_reducible refine w_bl ?_)
      (with_reducible refine w_itF ?_)
      (with_reducible refine w_next ?_)
      (with_reducible refine w_ifS ?_)
      (with_reducible refine w_notT ?_)
      (with_reducible refine w_B ?_)
      (with_reducible refine w_m1 ?_)
      ((with_reducible refine' w_var ?hv ?_); (case hv => exact rfl))
      (with_reducible refine w_isS ?_)
      (with_reducible refine w_c ?_)
      (with_reducible refine w_endsQ ?_)
      (with_reducible refine w_bl ?_)
      cases hlab : labS o with
      | false =>
        have e1 : stepF i (c, L) o = (c + 1, L) := (if_neg hno).trans (if_pos hlab)
        rw [e1] at st
        rw [show Txt.endswith o (":" : Str) = false from hlab]
        (with_reducible refine w_nF ?_)
        ((with_reducible refine' w_aug ?hh ?_); (case hh => exact rfl))
        (with_reducible refine w_c ?_)
        (with_reducible refine w_ipI ?_)
        exact ⟨s23, T, _, _, hT3, by rw [st]; exact eT, Nat.le_succ_of_le lT, by rw [st]; rfl⟩
      | true =>
        rw [show Txt.endswith o (":" : Str) = true from hlab]
        have hnl : ¬ labS o = false := by rw [hlab]; decide
        have hoz : o.length ≤ sizeLine := Nat.le_trans hol (by decide)
        have hnz : (nmT o).length ≤ 100000 := Nat.le_trans (cutS_length _ _ _) (Nat.le_trans hol (by decide))
        (with_reducible refine w_nT ?_)
        (with_reducible refine w_ifS ?_)
        (with_reducible refine w_andT ?_)
        (with_reducible refine w_B ?_)
        (with_reducible refine w_call ?_)
        (with_reducible refine w_cons ?_)
        (with_reducible refine w_sl ?_)
        ((with_reducible refine' w_var ?hv ?_); (case hv => exact rfl))
        (with_reducible refine w_noPart ?_)
        (with_reducible refine w_part ?_)
        (with_reducible refine w_un ?_)
        (with_reducible refine w_c ?_)
        (with_reducible refine w_U ?_)
        (with_reducible refine w_exI ?_)
        refine w_slS hoz ?_
        (with_reducible refine w_nil ?_)
        refine ⟨nmT o, rfl, hnz, fun H4 s4 => ?_⟩
        have hT4 := hT3.same s4
        have s24 := s23.trans s4
        cases hnm : nameOk (nmT o) with
        | false =>
          have e1 : stepF i (c, L) o = (c, L) := (if_neg hno).trans ((if_neg hnl).trans (if_neg (fun z => by rw [hnm] at z; cases z.1)))
          rw [e1] at st
          (with_reducible refine w_bl ?_)
          (with_reducible refine w_itF ?_)
          (with_reducible refine w_itF ?_)
          (with_reducible refine w_next ?_)
          exact ⟨s24, T, _, _, hT4, by rw [st]; exact eT, Nat.le_succ_of_le lT, by rw [st]; rfl⟩
        | true =>
          (with_reducible refine w_bl ?_)
          (with_reducible refine w_itT ?_)
          (with_reducible refine w_B ?_)
          (with_reducible refine w_dnotin ?_)
          (with_reducible refine w_sl ?_)
          ((with_reducible refine' w_var ?hv ?_); (case hv => exact rfl))
          (with_reducible refine w_noPart ?_)
          (with_reducible refine w_part ?_)
          (with_reducible refine w_un ?_)
          (with_reducible refine w_c ?_)
          (with_reducible refine w_U ?_)
          (with_reducible refine w_exI ?_)
          refine w_slS hoz ?_
          ((with_reducible refine' w_var ?hv ?_); (case hv => exact rfl))
          refine ⟨d, _, rfl, hT4.get (nmT o), ?_⟩
          have efl : fndL L (nmT o) = (fndE T (nmT o)).map trip := by rw [← eT, fnd_trip]
          cases hfe : fndE T (nmT o) with
          | some e =>
            rw [hfe] at efl
            have e1 : stepF i (c, L) o = (c, L) := (if_neg hno).trans ((if_neg hnl).trans (if_neg (fun z => by rw [efl] at z; cases z.2)))
            rw [e1] at st
            simp only [Option.map_some, Option.isSome_some]
            (with_reducible refine w_bl ?_)
            (with_reducible refine w_nT ?_)
            (with_reducible refine w_next ?_)
            exact ⟨s24, T, _, _, hT4, by rw [st]; exact eT, Nat.le_succ_of_le lT, by rw [st]; rfl⟩
          | none =>
            rw [hfe] at efl
            have e1 : stepF i (c, L) o = (c, L ++ [(nmT o, i, c)]) := (if_neg hno).trans ((if_neg hnl).trans (if_pos ⟨hnm, efl⟩))
            rw [e1] at st
            simp only [Option.map_none, Option.isSome_none]
            (with_reducible refine w_bl ?_)
            (with_reducible refine w_nF ?_)
            (with_reducible refine w_dput ?_)
            (with_reducible refine w_tup ?_)
            (with_reducible refine w_cons ?_)
            ((with_reducible refine' w_var ?hv ?_); (case hv => exact rfl))
            (with_reducible refine w_cons ?_)
            ((with_reducible refine' w_var ?hv ?_); (case hv => exact rfl))
            (with_reducible refine w_nil ?_)
            refine w_kTup (by show 2 ≤ sizeLine; decide) fun t5 H5 nt5 s5 ht5 => ?_
            ((with_reducible refine' w_var ?hv ?_); (case hv => exact rfl))
            (with_reducible refine w_sl ?_)
            ((with_reducible refine' w_var ?hv ?_); (case hv => exact rfl))
            (with_reducible refine w_noPart ?_)
            (with_reducible refine w_part ?_)
            (with_reducible refine w_un ?_)
            (with_reducible refine w_c ?_)
            (with_reducible refine w_U ?_)
            (with_reducible refine w_exI ?_)
            refine w_slS hoz ?_
            refine w_kDP (hT4.same s5).hp (by unfold kvsE; rw [List.length_map]; omega) (putE (e := ⟨nmT o, t5, i, c⟩) hfe) fun H6 hd6 b6 => ?_
            have hdne : ∀ b oo, H b = some oo → b ≠ d := fun b oo hb z => by rw [z, nd] at hb; cases hb
            refine ⟨fun b oo hb => b6 b oo (hdne b oo hb) (s5 _ _ (s24 _ _ hb)), T ++ [⟨nmT o, t5, i, c⟩], some (.int (i : Int)), some (.str o), ⟨hd6, fun e he => ?_⟩, ?_, ?_, ?_⟩
            · rcases List.mem_append.mp he with he | he
              · have := (hT4.same s5).ha e he
                exact b6 _ _ (fun z => by rw [z, (hT4.same s5).hp] at this; cases this) this
              · rw [List.mem_singleton.mp he]
                exact b6 _ _ (fun z => by
                  have := (hT4.same s5).hp
                  rw [← z, ht5] at this
                  cases this) ht5
            · rw [st, List.map_append, eT]; rfl
            · rw [List.length_append]; exact Nat.succ_le_succ lT
            · rw [st]; rfl
  · obtain ⟨s2, T, v3, v4, hT, eT, lT, rfl⟩ := h
    (with_reducible refine w_ret ?_)
    ((with_reducible refine' w_var ?hv ?_); (case hv => exact rfl))
    rw [List.length_map] at eT
    exact q d T H2 nd s2 hT eT
end
/-! ### assemble -/
def tsOf (x : Str) : List Str := (Txt.split x ("\n" : Str)).map fun l => Txt.stripChars l (" " : Str)
def lkL (L : List Lab) (z : Str) : Option Int := (fndL L z).map fun e => (e.2.2 : Int)
inductive AsR
  | ok (ws : List Int)
  | err (n : Nat)
def stepA (L : List Lab) (k : Nat) (ws : List Int) (t : Str) : AsR :=
  if silS t = true then .ok ws
  else if labS t = true then (match fndL L (nmT t) with
    | some e => if e.2.1 = k then .ok ws else .err (k + 1)
    | none => .err (k + 1))
  else match wordL t (lkL L) ws.length with
    | some w => .ok (ws ++ [w])
    | none => .err (k + 1)
def ast_ (L : List Lab) (ts : List Str) : Nat → AsR
  | 0 => .ok []
  | k + 1 => match ast_ L ts k with
    | .err n => .err n
    | .ok ws => match ts[k]? with
      | some t => stepA L k ws t
      | none => .ok ws
def asmR (x : Str) : AsR := ast_ (fst_ (tsOf x) (tsOf x).length).2 (tsOf x) (tsOf x).length
theorem ast_err {L : List Lab} {ts : List Str} {n : Nat} : ∀ {m k : Nat}, ast_ L ts k = .err n → k ≤ m → ast_ L ts m = .err n
  | 0, k, h, hk => by
    obtain rfl : k = 0 := by omega
    exact h
  | m + 1, k, h, hk => by
    rcases Nat.lt_or_ge m k with z | z
    · obtain rfl : k = m + 1 := by omega
      exact h
    · have := ast_err (m := m) h z
      show (match ast_ L ts m with
        | .err n => AsR.err n
        | .ok ws => match ts[m]? with
          | some t => stepA L m ws t
          | none => .ok ws) = _
      rw [this]
theorem fst_len (ts : List Str) : ∀ k, (fst_ ts k).1 ≤ k ∧ ∀ e ∈ (fst_ ts k).2, e.2.1 < k ∧ e.2.2 ≤ k
  | 0 => ⟨Nat.le_refl _, fun _ h => by cases h⟩
  | k + 1 => by
    obtain ⟨h1, h2⟩ := fst_len ts k
    have h3 : ∀ e ∈ (fst_ ts k).2, e.2.1 < k + 1 ∧ e.2.2 ≤ k + 1 := fun e he => ⟨by have := (h2 e he).1; omega, by have := (h2 e he).2; omega⟩
    show (match ts[k]? with
      | some t => stepF k (fst_ ts k) t
      | none => fst_ ts k).1 ≤ _ ∧ ∀ e ∈ (match ts[k]? with
      | some t => stepF k (fst_ ts k) t
      | none => fst_ ts k).2, _
    cases ts[k]? with
    | none => exact ⟨by show (fst_ ts k).1 ≤ _; omega, h3⟩
    | some t =>
      simp only
      unfold stepF
      split
      · exact ⟨by omega, h3⟩
      · split
        · exact ⟨by show _ + 1 ≤ _; omega, h3⟩
        · split
          · refine ⟨by show (fst_ ts k).1 ≤ _; omega, fun e he => ?_⟩
            rcases List.mem_append.mp he with he | he
            · exact h3 e he
            · rw [List.mem_singleton.mp he]
              exact ⟨Nat.lt_succ_self _, by show (fst_ ts k).1 ≤ _; omega⟩
          · exact ⟨by omega, h3⟩
theorem ast_len {L : List Lab} {ts : List Str} : ∀ {k : Nat} {ws : List Int}, ast_ L ts k = .ok ws → ws.length ≤ k
  | 0, ws, h => by cases h; exact Nat.le_refl _
  | k + 1, ws, h => by
    have h' : (match ast_ L ts k with
      | .err n => .err n
      | .ok ws => match ts[k]? with
        | some t => stepA L k ws t
        | none => .ok ws) = AsR.ok ws := h
    cases e : ast_ L ts k with
    | err n => rw [e] at h'; cases h'
    | ok w0 =>
      have := ast_len e
      rw [e] at h'
      simp only at h'
      cases e2 : ts[k]? with
      | none => rw [e2] at h'; cases h'; omega
      | some t =>
        rw [e2] at h'
        simp only at h'
        unfold stepA at h'
        split at h'
        · cases h'; omega
        · split at h'
          · split at h'
            · split at h'
              · cases h'; omega
              · cases h'
            · cases h'
          · split at h'
            · cases h'; rw [List.length_append]; simp; omega
            · cases h'
def spAsm (C : Addr) (kn : Str → Prop) : Sp := fun vs H Q E => ∃ x : Str, vs = [.str x] ∧ x.length ≤ 9000 ∧ (tsOf x).length ≤ 900 ∧ (∀ t ∈ tsOf x, silS t = false → labS t = false → kn (opT0 t)) ∧
  (∀ ws, asmR x = .ok ws → ∀ p H', H p = none → Same H H' → H' p = some (.lst (ws.map V.int)) → Q (.ref p) H') ∧
  (∀ n, asmR x = .err n → ∀ d H', H d = none → Same H H' → H' d = some (.xd [(("line" : Str), .int (n : Int))]) → E (.ref C) (some d) H')
section
variable {P : Program} {w : World} {K : PySem.W.Frag} {mg : Str → Option Value} {base : Heap}
theorem ok_assemble {C fI : Addr} {kn : Str → Prop} (TE : OwnE.Txt P K mg C fI) (b_enumerate : mg "enumerate" = none) (b_len : mg "len" = none) (c_is_silent : Cd P w K mg base 1 "_is_silent" spSil) (c_first_labels : Cd P w K mg base 2 "_first_labels" spFirstL) (c_word_of_line : Cd P w K mg base 4 "_word_of_line" (spWordL kn))
    {f : Addr} {fd : FuncData} (F : Fun K "assemble" "assemble" s_assemble f fd) : FnOk P w K mg base (L2.CX P w) 5 f fd ["text"] (spAsm C kn) := by
  refine F.okX sc_assemble (fun vs H Q E h => by obtain ⟨x, rfl, _⟩ := h; rfl) (fun cdv A outer s H vs Q E hr h => ?_)
  obtain ⟨x, rfl, hx, hts, hkn, qok, qer⟩ := h
  have hu := Nat.lt_trans (Nat.add_lt_add_left (by decide : 1 < 64) _) hr.units
  refine ⟨_, (Evl.pss_cut (ps_setLc (i := 1) (own := [("line", 5)]) rfl sc_assemble.nd rfl rfl (sw_true rfl rfl rfl (by decide +kernel)) (pi_list (pe_m1 PySem.F.slot_str_split PySem.F.type_str_split mt_splitQ (pv 0) pe_str)) (blkOk_by (own := [("line", 5)]) (N := ["text", "lines", "labels", "words", "index", "line", "name", "word"]) (sc := (defScope s_assemble)) (by decide +kernel)) (fun _ _ _ _ _ => (pg_name (i := 5) sc_assemble.nd rfl (.inl rfl))) (fun _ _ _ _ _ => pts_nil) (fun _ _ _ _ _ => (pe_m1 PySem.F.slot_str_strip PySem.F.type_str_strip mt_stripQ (pv 5) pe_str)))
      (Evl.pss_cut (ps_set (i := 2) sc_assemble.nd rfl (.inl rfl) (pe_cd c_first_labels hr (by first | decide | omega) (by rfl) (pa_cons (pv 1) pa_nil)))
      (Evl.pss_cut (ps_set (i := 3) sc_assemble.nd rfl (.inl rfl) (pe_lst pa_nil))
      (pss_cons (ps_for (passes_of rfl) rfl (pi_enum (by rfl) b_enumerate (pa_cons (pv 1) pa_nil)) (pg_tup rfl (pgs_cons (pg_name (i := 4) sc_assemble.nd rfl (.inl rfl)) (pgs_cons (pg_name (i := 5) sc_assemble.nd rfl (.inl rfl)) pgs_nil)))
      (pss_cons (ps_if (pt_val (pe_cd c_is_silent hr (by first | decide | omega) (by rfl) (pa_cons (pv 5) pa_nil))) (pss_one ps_continue) pss_nil)
      (pss_cons (ps_if (pt_val (pe_m1 PySem.F.slot_str_endswith PySem.F.type_str_endswith mt_endsQ (pv 5) pe_str)) (pss_cons (ps_set (i := 6) sc_assemble.nd rfl (.inl rfl) (pe_slice sl_str (pv 5) po_none (po_some (pe_un un_neg pe_int))))
      (pss_cons (ps_if (PW.pt (pw_or (pt_cmp (pc_dnotin hu (pv 6) (pv 2))) (pw_or1 (pt_cmpR op_ne (pe_ix ix_tup (pe_dget hu (pv 2) (pv 6) (fun _ _ => rfl)) pe_int (fun _ _ => rfl)) (pv 4) (nomark _))))) (pss_one (ps_raiseAs rfl TE hr (takes_of rfl rfl rfl rfl) (pa_cons (pe_op op_add (pv 4) pe_int) pa_nil))) pss_nil)
      (pss_one ps_continue))) pss_nil)
      (pss_cons (ps_set (i := 7) sc_assemble.nd rfl (.inl rfl) (pe_cd c_word_of_line hr (by first | decide | omega) (by rfl) (pa_cons (pv 5) (pa_cons (pv 2) (pa_cons (pe_callB call_lenQ (by rfl) b_len PySem.boot_len (pa_cons (pv 3) pa_nil)) pa_nil)))))
      (pss_cons (ps_if (pt_cmpR op_isN (pv 7) pe_non (nomark _)) (pss_one (ps_raiseAs rfl TE hr (takes_of rfl rfl rfl rfl) (pa_cons (pe_op op_add (pv 4) pe_int) pa_nil))) pss_nil)
      (pss_one (ps_expr (pe_bm PySem.F.plainAttrs_list PySem.F.slot_list_append PySem.F.type_list_append mt_append (pv 3) (pa_cons (pv 7) pa_nil)))))))))
      (pss_one (ps_ret (pv 3))))))), ?_⟩
  refine Evl.q_cut (M := fun σ' H' => Same H H' ∧ ∃ pl : Addr, H' pl = some (.lst ((tsOf x).map V.str)) ∧ σ' = [some (.str x), some (.ref pl), none, none, none, none, none, none]) ?_ ?_
  · (with_reducible refine w_asg ?_)
    (with_reducible refine w_lc ?_)
    (with_reducible refine w_iL ?_)
    (with_reducible refine w_m1 ?_)
    ((with_reducible refine' w_var ?hv ?_); (case hv => exact rfl))
    (with_reducible refine w_isS ?_)
    (with_reducible refine w_c ?_)
    obtain ⟨sl1, sl2⟩ := split_le x ("\n" : Str) (by decide +kernel)
    refine w_splitQ (by decide +kernel) (Nat.le_trans (Nat.add_le_add_right hx 2) (by decide)) fun pp H2 np s2 hp => ?_
    let ys : Nat → List Str := fun i => ((Txt.split x ("\n" : Str)).take i).map fun o => Txt.stripChars o (" " : Str)
    refine w_lcL ((Txt.split x ("\n" : Str)).map V.str) (fun D i H' => H2 D = none ∧ Same H2 H' ∧ H' D = some (.lst ((ys i).map V.str))) (.of hp) (fun D nD => ⟨nD, Same.new nD, upd_same⟩) (fun D i H' _ h => .of (h.2.1 _ _ hp)) (fun D i xx H' hx9 h => ?_) (fun D H' nD h => ?_)
    · obtain ⟨nD, sm, hD⟩ := h
      obtain ⟨o, ho, rfl⟩ : ∃ o, (Txt.split x ("\n" : Str))[i]? = some o ∧ xx = .str o := by
        rw [List.getElem?_map] at hx9
        obtain ⟨o, h1, h2⟩ := Option.map_eq_some_iff.mp hx9
        exact ⟨o, h1, h2.symm⟩
      have hol : o.length ≤ sizeLine := Nat.le_trans (sl1 o (List.mem_of_getElem? ho)) (Nat.le_trans hx (by decide))
      have hil : i < (Txt.split x ("\n" : Str)).length := (List.getElem?_eq_some_iff.mp ho).1
      (with_reducible refine w_name ?_)
      refine ⟨rfl, ?_⟩
      (with_reducible refine w_yes ?_)
      (with_reducible refine w_itT ?_)
      (with_reducible refine w_m1 ?_)
      ((with_reducible refine' w_var ?hv ?_); (case hv => exact rfl))
      (with_reducible refine w_isS ?_)
      (with_reducible refine w_c ?_)
      refine w_stripQ hol ?_
      refine ⟨_, hD, by rw [List.length_map, List.length_map, List.length_take]; exact Nat.lt_of_le_of_lt (show _ ≤ 10001 by omega) (by decide), nD, fun y o' hy => ?_, ?_⟩
      · rw [upd_ne (ne_of_none hy nD)]; exact sm _ _ hy
      · show upd _ _ _ _ = some (.lst ((ys (i + 1)).map V.str))
        have e : ys (i + 1) = ys i ++ [Txt.stripChars o (" " : Str)] := by
          show List.map _ _ = _
          rw [take_more ho, List.map_append]
          rfl
        rw [e, List.map_append]
        exact upd_same
    · obtain ⟨_, sm, hD⟩ := h
      (with_reducible refine w_name ?_)
      have e : ys ((Txt.split x ("\n" : Str)).map V.str).length = tsOf x := by
        show List.map _ _ = _
        rw [List.length_map, List.take_length]
        rfl
      rw [e] at hD
      exact ⟨s2.trans sm, D, hD, rfl⟩
  · rintro σ' H1 ⟨s1, pl, hpl, rfl⟩
    have tle : ∀ t ∈ tsOf x, t.length ≤ 9000 := fun t ht => by
      obtain ⟨o, ho, rfl⟩ := List.mem_map.mp ht
      exact Nat.le_trans (strip_le o) (Nat.le_trans ((split_le x ("\n" : Str) (by decide +kernel)).1 o ho) hx)
    unfold asmR at qok qer
    generalize hts2 : tsOf x = ts at *
    refine Evl.q_cut (M := fun σ' H' => Same H1 H' ∧ ∃ (d : Addr) (T : List Ent), LabAt H' d T ∧ T.map trip = (fst_ ts ts.length).2 ∧ σ' = [some (.str x), some (.ref pl), some (.ref d), none, none, none, none, none]) ?_ ?_
    · (with_reducible refine w_asg ?_)
      (with_reducible refine w_call ?_)
      (with_reducible refine w_cons ?_)
      ((with_reducible refine' w_var ?hv ?_); (case hv => exact rfl))
      (with_reducible refine w_nil ?_)
      refine ⟨pl, ts, rfl, hpl, hts, fun t ht => Nat.le_trans (tle t ht) (by decide), fun d T H2 nd s2 hT eT => ?_⟩
      (with_reducible refine w_name ?_)
      exact ⟨s2, d, T, hT, eT, rfl⟩
    · rintro σ' H2 ⟨s2, d, T, hT, eT, rfl⟩
      have hTc : ∀ e ∈ T, e.ct ≤ 10000 := fun e he => by
        have := ((fst_len ts ts.length).2 (trip e) (by rw [← eT]; exact List.mem_map_of_mem he)).2
        have z : e.ct ≤ ts.length := this
        omega
      generalize hL : (fst_ ts ts.length).2 = L at *
      have elk : lkE T = lkL L := funext fun z => by
        unfold lkE lkL
        rw [← eT, fnd_trip]
        cases fndE T z <;> rfl
      refine Evl.q_cut (M := fun σ' H' => ∃ pw : Addr, H2 pw = none ∧ Same H2 H' ∧ H' pw = some (.lst []) ∧ σ' = [some (.str x), some (.ref pl), some (.ref d), some (.ref pw), none, none, none, none]) ?_ ?_
      · (with_reducible refine w_asg ?_)
        (with_reducible refine w_lst ?_)
        (with_reducible refine w_nil ?_)
        refine w_kLst (Nat.zero_le _) fun pw H3 nw s3 hw => ?_
        (with_reducible refine w_name ?_)
        exact ⟨pw, nw, s3, hw, rfl⟩
      · rintro σ' H3 ⟨pw, nw, s3, hw, rfl⟩
        (with_reducible refine w_seq ?_)
        (with_reducible refine w_for ?_)
        (with_reducible refine w_iEnL ?_)
        (with_reducible refine w_cons ?_)
        ((with_reducible refine' w_var ?hv ?_); (case hv => exact rfl))
        (with_reducible refine w_nil ?_)
        have s02 := s1.trans s2
        have npw : H pw = none := fresh s02 nw
        refine w_forEL (ts.map V.str) (fun i σ H' => Same H2 H' ∧ ∃ (ws : List Int) (v4 v5 v6 v7 : Option V), ast_ L ts i = .ok ws ∧ H' pw = some (.lst (ws.map V.int)) ∧ σ = [some (.str x), some (.ref pl), some (.ref d), some (.ref pw), v4, v5, v6, v7]) (.of ((s2.trans s3) _ _ hpl)) ⟨s3, [], none, none, none, none, rfl, hw, rfl⟩ (fun i σ H' h => .of (h.1 _ _ (s2 _ _ hpl))) (fun i xx σ H4 t9 H5 hx9 h nt s5 h5 => ?_) (fun σ H4 h => ?_)
        · obtain ⟨s4, ws, v4, v5, v6, v7, ea, hw4, rfl⟩ := h
          obtain ⟨o, ho, rfl⟩ : ∃ o, ts[i]? = some o ∧ xx = .str o := by
            rw [List.getElem?_map] at hx9
            obtain ⟨o, h1, h2⟩ := Option.map_eq_some_iff.mp hx9
            exact ⟨o, h1, h2.symm⟩
          have hol := tle o (List.mem_of_getElem? ho)
          have hoz : o.length ≤ sizeLine := Nat.le_trans hol (by decide)
          have hil : i < ts.length := (List.getElem?_eq_some_iff.mp ho).1
          have hwl := ast_len ea
          have st : ast_ L ts (i + 1) = stepA L i ws o := by
            show (match ast_ L ts i with
              | .err n => AsR.err n
              | .ok ws => match ts[i]? with
                | some t => stepA L i ws t
                | none => .ok ws) = _
            rw [ea, ho]
          have s25 := s4.trans s5
          have hT5 := hT.same s25
          have hw5 := s5 _ _ hw4
          have bad : stepA L i ws o = .err (i + 1) → ∀ H6, Same H5 H6 → ∃ n : Int, [V.int ((i : Int) + 1)] = [.int n] ∧ n.natAbs < 4294967296 ∧ ∀ d, H6 d = none → E (.ref C) (some d) (upd H6 d (.xd [(("line" : Str), .int n)])) := fun e H6 s6 => by
            refine ⟨(i : Int) + 1, rfl, by omega, fun dd nd => ?_⟩
            have s06 := s02.trans (s25.trans s6)
            have := qer (i + 1) (ast_err (st.trans e) hil) dd (upd H6 dd (.xd [(("line" : Str), .int ((i : Int) + 1))])) (fresh s06 nd) (s06.trans (Same.new nd)) upd_same
            exact this
          ((with_reducible refine' w_gTup ?hh ?hn ?_); (case hh => assumption); (case hn => exact rfl))
          (with_reducible refine w_gCons ?_)
          (with_reducible refine w_name ?_)
          (with_reducible refine w_gCons ?_)
          (with_reducible refine w_name ?_)
          (with_reducible refine w_gNil ?_)
          (with_reducible refine w_seq ?_)
          (with_reducible refine w_ifS ?_)
          (with_reducible refine w_B ?_)
          (with_reducible refine w_call ?_)
          (with_reducible refine w_cons ?_)
          ((with_reducible refine' w_var ?hv ?_); (case hv => exact rfl))
          (with_reducible refine w_nil ?_)
          refine ⟨o, rfl, ?_⟩
          cases hsil : silS o with
          | true =>
            have e1 : stepA L i ws o = .ok ws := if_pos hsil
            (with_reducible refine w_bl ?_)
            (with_reducible refine w_itT ?_)
            exact ⟨s25, ws, _, _, _, _, st.trans e1, hw5, rfl⟩
          | false =>
            have hno : ¬ silS o = true := by rw [hsil]; decide
            (with_reducible refine w_bl ?_)
            (with_reducible refine w_itF ?_)
            (with_reducible refine w_next ?_)
            (with_reducible refine w_seq ?_)
            (with_reducible refine w_ifS ?_)
            (with_reducible refine w_B ?_)
            (with_reducible refine w_m1 ?_)
            ((with_reducible refine' w_var ?hv ?_); (case hv => exact rfl))
            (with_reducible refine w_isS ?_)
            (with_reducible refine w_c ?_)
            (with_reducible refine w_endsQ ?_)
            (with_reducible refine w_bl ?_)
            cases hlab : labS o with
            | true =>
              rw [show Txt.endswith o (":" : Str) = true from hlab]
              (with_reducible refine w_itT ?_)
              (with_reducible refine w_seq ?_)
              (with_reducible refine w_asg ?_)
              (with_reducible refine w_sl ?_)
              ((with_reducible refine' w_var ?hv ?_); (case hv => exact rfl))
              (with_reducible refine w_noPart ?_)
              (with_reducible refine w_part ?_)
              (with_reducible refine w_un ?_)
              (with_reducible refine w_c ?_)
              (with_reducible refine w_U ?_)
              (with_reducible refine w_exI ?_)
              refine w_slS hoz ?_
              (with_reducible refine w_name ?_)
              (with_reducible refine w_seq ?_)
              (with_reducible refine w_ifS ?_)
              (with_reducible refine w_orT ?_)
              (with_reducible refine w_B ?_)
              (with_reducible refine w_dnotin ?_)
              ((with_reducible refine' w_var ?hv ?_); (case hv => exact rfl))
              ((with_reducible refine' w_var ?hv ?_); (case hv => exact rfl))
              refine ⟨d, _, rfl, hT5.get (nmT o), ?_⟩
              have efl : fndL L (nmT o) = (fndE T (nmT o)).map trip := by rw [← eT, fnd_trip]
              cases hfe : fndE T (nmT o) with
              | none =>
                rw [hfe] at efl
                have e1 : stepA L i ws o = .err (i + 1) := (if_neg hno).trans ((if_pos hlab).trans (by rw [efl]; rfl))
                simp only [Option.map_none, Option.isSome_none]
                (with_reducible refine w_bl ?_)
                (with_reducible refine w_nF ?_)
                rw [if_pos trivial]
                (with_reducible refine w_raiseAs ?_)
                (with_reducible refine w_cons ?_)
                (with_reducible refine w_op ?_)
                ((with_reducible refine' w_var ?hv ?_); (case hv => exact rfl))
                (with_reducible refine w_c ?_)
                (with_reducible refine w_I0 ?_)
                (with_reducible refine w_nil ?_)
                exact bad e1 H5 (Same.refl H5)
              | some e =>
                rw [hfe] at efl
                obtain ⟨em, en⟩ := fnd_mem hfe
                simp only [Option.map_some, Option.isSome_some]
                (with_reducible refine w_bl ?_)
                (with_reducible refine w_nT ?_)
                (with_reducible refine w_test ?_)
                (with_reducible refine w_op ?_)
                (with_reducible refine w_op ?_)
                (with_reducible refine w_dget ?_)
                ((with_reducible refine' w_var ?hv ?_); (case hv => exact rfl))
                ((with_reducible refine' w_var ?hv ?_); (case hv => exact rfl))
                refine w_kDG hT5.hp (by rw [valE]; show (fndE T (nmT o)).map _ = _; rw [hfe]; rfl) ?_
                have hea := hT5.ha e em
                (with_reducible refine w_c ?_)
                ((with_reducible refine' w_ixT ?hh ?ha ?_); (case hh => assumption); (case ha => exact rfl))
                ((with_reducible refine' w_var ?hv ?_); (case hv => exact rfl))
                (with_reducible refine w_neI ?_)
                (with_reducible refine w_bl ?_)
                refine w_ndec (fun e5 => ?_) (fun e5 => ?_)
                · have e1 : stepA L i ws o = .err (i + 1) := (if_neg hno).trans ((if_pos hlab).trans (by rw [efl]; exact if_neg (fun z => e5 (by rw [show e.ix = i from z]))))
                  (with_reducible refine w_raiseAs ?_)
                  (with_reducible refine w_cons ?_)
                  (with_reducible refine w_op ?_)
                  ((with_reducible refine' w_var ?hv ?_); (case hv => exact rfl))
                  (with_reducible refine w_c ?_)
                  (with_reducible refine w_I0 ?_)
                  (with_reducible refine w_nil ?_)
                  exact bad e1 H5 (Same.refl H5)
                · have e1 : stepA L i ws o = .ok ws := (if_neg hno).trans ((if_pos hlab).trans (by rw [efl]; exact if_pos (show e.ix = i by omega)))
                  (with_reducible refine w_next ?_)
                  exact ⟨s25, ws, _, _, _, _, st.trans e1, hw5, rfl⟩
            | false =>
              have hnl : ¬ labS o = true := by rw [hlab]; decide
              rw [show Txt.endswith o (":" : Str) = false from hlab]
              (with_reducible refine w_itF ?_)
              (with_reducible refine w_next ?_)
              (with_reducible refine w_seq ?_)
              (with_reducible refine w_asg ?_)
              (with_reducible refine w_call ?_)
              (with_reducible refine w_cons ?_)
              ((with_reducible refine' w_var ?hv ?_); (case hv => exact rfl))
              (with_reducible refine w_cons ?_)
              ((with_reducible refine' w_var ?hv ?_); (case hv => exact rfl))
              (with_reducible refine w_cons ?_)
              (with_reducible refine w_cb ?_)
              (with_reducible refine w_cons ?_)
              ((with_reducible refine' w_var ?hv ?_); (case hv => exact rfl))
              (with_reducible refine w_nil ?_)
              ((with_reducible refine' w_lenL ?hh ?_); (case hh => assumption))
              (with_reducible refine w_nil ?_)
              rw [List.length_map]
              refine ⟨o, d, T, ws.length, rfl, hT5, Nat.le_trans hol (by decide), hkn o (List.mem_of_getElem? ho) hsil hlab, by omega, hTc, fun H6 s6 => ?_⟩
              rw [elk]
              cases hw9 : wordL o (lkL L) ws.length with
              | none =>
                have e1 : stepA L i ws o = .err (i + 1) := (if_neg hno).trans ((if_neg hnl).trans (by rw [hw9]))
                simp only [optV]
                (with_reducible refine w_name ?_)
                (with_reducible refine w_seq ?_)
                (with_reducible refine w_ifS ?_)
                (with_reducible refine w_test ?_)
                (with_reducible refine w_op ?_)
                ((with_reducible refine' w_var ?hv ?_); (case hv => exact rfl))
                (with_reducible refine w_c ?_)
                refine ⟨rfl, ?_⟩
                (with_reducible refine w_bl ?_)
                refine w_decT rfl ?_
                (with_reducible refine w_raiseAs ?_)
                (with_reducible refine w_cons ?_)
                (with_reducible refine w_op ?_)
                ((with_reducible refine' w_var ?hv ?_); (case hv => exact rfl))
                (with_reducible refine w_c ?_)
                (with_reducible refine w_I0 ?_)
                (with_reducible refine w_nil ?_)
                exact bad e1 H6 s6
              | some w9 =>
                have e1 : stepA L i ws o = .ok (ws ++ [w9]) := (if_neg hno).trans ((if_neg hnl).trans (by rw [hw9]))
                simp only [optV]
                (with_reducible refine w_name ?_)
                (with_reducible refine w_seq ?_)
                (with_reducible refine w_ifS ?_)
                (with_reducible refine w_test ?_)
                (with_reducible refine w_op ?_)
                ((with_reducible refine' w_var ?hv ?_); (case hv => exact rfl))
                (with_reducible refine w_c ?_)
                refine ⟨rfl, ?_⟩
                (with_reducible refine w_bl ?_)
                refine w_decF (fun z => by cases z) ?_
                (with_reducible refine w_next ?_)
                (with_reducible refine w_drop ?_)
                (with_reducible refine w_bm ?_)
                ((with_reducible refine' w_var ?hv ?_); (case hv => exact rfl))
                have hw6 := s6 _ _ hw5
                ((with_reducible refine' w_tyL ?hh ?_); (case hh => assumption))
                (with_reducible refine w_cons ?_)
                ((with_reducible refine' w_var ?hv ?_); (case hv => exact rfl))
                (with_reducible refine w_nil ?_)
                refine w_append hw6 (by rw [List.length_map]; exact Nat.lt_of_le_of_lt (show _ ≤ 1000 by omega) (by decide)) fun H7 hp7 b7 => ?_
                skip
                refine ⟨fun b oo hb => b7 b oo (fun z => by rw [z, nw] at hb; cases hb) (s6 _ _ (s25 _ _ hb)), ws ++ [w9], _, _, _, _, st.trans e1, ?_, rfl⟩
                rw [hp7, List.map_append]
                rfl
        · obtain ⟨s4, ws, v4, v5, v6, v7, ea, hw4, rfl⟩ := h
          (with_reducible refine w_ret ?_)
          ((with_reducible refine' w_var ?hv ?_); (case hv => exact rfl))
          rw [List.length_map] at ea
          exact qok ws ea pw H4 npw (s02.trans s4) hw4
end
end K05


open PySem.W
namespace K05
local macro_rules | `(tactic| walk_at "w1") => `(tactic| first
  | (with_reducible refine w_m1 ?_)
  | (with_reducible refine w_isS ?_))
theorem sc_law_row : FnScope ["draw", "at", "op", "a", "b", "imm"] ["draw"] (defScope s_law_row) := ⟨rfl, rfl, rfl, by decide +kernel, rfl, by decide +kernel, by decide +kernel⟩
theorem sc_law_shown : FnScope ["row", "label", "at", "many", "texts", "k"] ["row", "label"] (defScope s_law_shown) := ⟨rfl, rfl, rfl, by decide +kernel, rfl, by decide +kernel, by decide +kernel⟩
theorem sc_law_wrong : FnScope ["draw"] ["draw"] (defScope s_law_wrong) := ⟨rfl, rfl, rfl, by decide +kernel, rfl, by decide +kernel, by decide +kernel⟩
def shw (fm : Str) (xs : List Int) (lab : Str) : List Str := if lab = ("" : Str) then opsTx fm xs else (opsTx fm xs).dropLast ++ [lab]
def spShown (K : PySem.W.Frag) : Sp := fun vs H Q _ => ∃ (t : Addr) (n : Nat) (op fm : Str) (xs : List Int) (lab : Str), vs = [.ref t, .str lab] ∧ SqT K H t (insV op xs) ∧ Ins n op fm xs ∧ ∀ p H', H p = none → Same H H' → H' p = some (.lst ((shw fm xs lab).map V.str)) → Q (.ref p) H'
def bads : List Str := (["add r1, r2", "add r1, r2, r16", "addi r1, r2, 8192", "addi r1, r2, 08", "lui r1, -1", "jal r0, 131072", "beq r1, r2, nowhere", "word 4294967296", "word", "mov r1, r2"] : List Str) ++ (["put 3", "x y:", "Start:", "add r1 r2 r3", "get r1, r2", "word -1", "exit r01", "jal r0, -131073", "sb r1, r2, ", "a:b"] : List Str)
def spWrong : Sp := fun vs H Q _ => ∃ (d c : Addr), vs = [.ref d] ∧ DrawC H d c ∧ ∀ x ∈ bads, ∀ H', DrawC H' d c → But d H H' → Q (.str x) H'
def spRow : Sp := fun vs H Q _ => ∃ (d c : Addr), vs = [.ref d] ∧ DrawC H d c ∧ ∀ n op fm xs t H', Ins n op fm xs → DrawC H' d c → But d H H' → H t = none → H' t = some (.tup (insV op xs)) → Q (.ref t) H'
section
variable {P : Program} {w : World} {K : PySem.W.Frag} {mg : Str → Option Value} {base : Heap}
theorem ok_law_wrong (c_law_take : Cd P w K mg base 1 "_law_take" spTake) (Z : St1 K mg "_law_wrong" s_law_wrong ["draw"]) : Cd P w K mg base 2 "_law_wrong" spWrong := by
  refine Z.cd sc_law_wrong (fun vs H Q E h => by obtain ⟨d, c, rfl, _⟩ := h; rfl) (fun f cdv A outer s H vs Q E hr h => ?_)
  obtain ⟨d, c, rfl, hd, q⟩ := h
  refine ⟨_, (pss_one (ps_ret (pe_ix ix_list (pe_lst (pa_cons pe_str (pa_cons pe_str (pa_cons pe_str (pa_cons pe_str (pa_cons pe_str (pa_cons pe_str (pa_cons pe_str (pa_cons pe_str (pa_cons pe_str (pa_cons pe_str (pa_cons pe_str (pa_cons pe_str (pa_cons pe_str (pa_cons pe_str (pa_cons pe_str (pa_cons pe_str (pa_cons pe_str (pa_cons pe_str (pa_cons pe_str (pa_cons pe_str pa_nil))))))))))))))))))))) (pe_cd c_law_take hr (by first | decide | omega) (by rfl) (pa_cons (pv 0) (pa_cons pe_int pa_nil))) (fun _ _ => rfl)))), ?_⟩
  (with_reducible refine w_ret ?_)
  (with_reducible refine w_op ?_)
  (with_reducible refine w_lst ?_)
  (with_reducible refine w_cons ?_)
  (with_reducible refine w_c ?_)
  (with_reducible refine w_cons ?_)
  (with_reducible refine w_c ?_)
  (with_reducible refine w_cons ?_)
  (with_reducible refine w_c ?_)
  (with_reducible refine w_cons ?_)
  (with_reducible refine w_c ?_)
  (with_reducible refine w_cons ?_)
  (with_reducible refine w_c ?_)
  (with_reducible refine w_cons ?_)
  (with_reducible refine w_c ?_)
  (with_reducible refine w_cons ?_)
  (with_reducible refine w_c ?_)
  (with_reducible refine w_cons ?_)
  (with_reducible refine w_c ?_)
  (with_reducible refine w_cons ?_)
  (with_reducible refine w_c ?_)
  (with_reducible refine w_cons ?_)
  (with_reducible refine w_c ?_)
  (with_reducible refine w_cons ?_)
  (with_reducible refine w_c ?_)
  (with_reducible refine w_cons ?_)
  (with_reducible refine w_c ?_)
  (with_reducible refine w_cons ?_)
  (with_reducible refine w_c ?_)
  (with_reducible refine w_cons ?_)
  (with_reducible refine w_c ?_)
  (with_reducible refine w_cons ?_)
  (with_reducible refine w_c ?_)
  (with_reducible refine w_cons ?_)
  (with_reducible refine w_c ?_)
  (with_reducible refine w_cons ?_)
  (with_reducible refine w_c ?_)
  (with_reducible refine w_cons ?_)
  (with_reducible refine w_c ?_)
  (with_reducible refine w_cons ?_)
  (with_reducible refine w_c ?_)
  (with_reducible refine w_cons ?_)
  (with_reducible refine w_c ?_)
  (with_reducible refine w_nil ?_)
  refine w_kLst (by show 20 ≤ sizeLine; decide) fun l H1 nl s1 hl => ?_
  (with_reducible refine w_call ?_)
  (with_reducible refine w_cons ?_)
  ((with_reducible refine' w_var ?hv ?_); (case hv => exact rfl))
  (with_reducible refine w_cons ?_)
  (with_reducible refine w_c ?_)
  (with_reducible refine w_nil ?_)
  refine w_take (hd.same s1) (by decide) (by decide) fun r H2 r0 r1 hd2 b2 => ?_
  skip
  have hl2 : H2 l = some (.lst (bads.map V.str)) := b2 l _ (hd.ne nl) hl
  obtain ⟨v, hv, ea⟩ := pick_any (bads.map V.str) r0 (show r < ((20 : Nat) : Int) from r1)
  obtain ⟨x, hx, rfl⟩ := List.mem_map.mp hv
  refine w_ixL hl2 ea ?_
  exact q x hx H2 hd2 (fun b o ne h => b2 b o ne (s1 _ _ h))
theorem ixN_top (n : Nat) (h : 0 < n) : ixN n ((n : Int) - 1) = some (n - 1) := by
  unfold ixN
  rw [if_pos (by omega), if_pos (by omega)]
  congr 1
  omega
theorem but_new {H H' : Hp} {d c t : Addr} (b : But d H H') (hd : DrawC H' d c) (n : H' t = none) : H t = none := by
  cases e : H t with
  | none => rfl
  | some o =>
    have := b t o (hd.ne n) e
    rw [n] at this
    cases this
theorem pickI (l : List Int) {k : Int} (h0 : 0 ≤ k) (h1 : k < l.length) : ∃ v, v ∈ l ∧ atI (l.map V.int) k = some (.int v) := by
  obtain ⟨n, rfl⟩ := Int.eq_ofNat_of_zero_le h0
  have hn : n < l.length := by omega
  exact ⟨l[n], List.getElem_mem hn, atI_nat (by rw [List.getElem?_map, List.getElem?_eq_getElem hn]; rfl)⟩
theorem ok_law_row (c_law_ops : Cd P w K mg base 1 "_law_ops" spOps) (c_law_take : Cd P w K mg base 1 "_law_take" spTake) (Z : St1 K mg "_law_row" s_law_row ["draw"]) : Cd P w K mg base 2 "_law_row" spRow := by
  refine Z.cd sc_law_row (fun vs H Q E h => by obtain ⟨d, c, rfl, _⟩ := h; rfl) (fun f cdv A outer s H vs Q E hr h => ?_)
  obtain ⟨d, c, rfl, hd, q⟩ := h
  refine ⟨_, (pss_cons (ps_set (i := 1) sc_law_row.nd rfl (.inl rfl) (pe_cd c_law_take hr (by first | decide | omega) (by rfl) (pa_cons (pv 0) (pa_cons pe_int pa_nil))))
      (pss_cons (ps_set (i := 2) sc_law_row.nd rfl (.inl rfl) (pe_ix ix_list (pe_cd0 c_law_ops hr (by first | decide | omega) (by rfl)) (pv 1) (fun _ _ => rfl)))
      (pss_cons (ps_set (i := 3) sc_law_row.nd rfl (.inl rfl) (pe_cd c_law_take hr (by first | decide | omega) (by rfl) (pa_cons (pv 0) (pa_cons pe_int pa_nil))))
      (pss_cons (ps_set (i := 4) sc_law_row.nd rfl (.inl rfl) (pe_cd c_law_take hr (by first | decide | omega) (by rfl) (pa_cons (pv 0) (pa_cons pe_int pa_nil))))
      (Evl.pss_cut (ps_set (i := 5) sc_law_row.nd rfl (.inl rfl) (pe_ix ix_list (pe_lst (pa_cons pe_int (pa_cons pe_int (pa_cons (pe_un un_neg pe_int) (pa_cons pe_int (pa_cons (pe_un un_neg pe_int) (pa_cons (pe_op op_sub (pe_cd c_law_take hr (by first | decide | omega) (by rfl) (pa_cons (pv 0) (pa_cons pe_int pa_nil))) pe_int) pa_nil))))))) (pe_cd c_law_take hr (by first | decide | omega) (by rfl) (pa_cons (pv 0) (pa_cons pe_int pa_nil))) (fun _ _ => rfl)))
      (pss_cons (ps_if (pt_cmpR op_lt (pv 1) pe_int (nomark _)) (pss_one (ps_ret (pe_tup (pa_cons (pv 2) (pa_cons (pv 3) (pa_cons (pv 4) (pa_cons (pe_cd c_law_take hr (by first | decide | omega) (by rfl) (pa_cons (pv 0) (pa_cons pe_int pa_nil))) pa_nil))))))) pss_nil)
      (pss_cons (ps_if (pt_cmpR op_in_seq (pv 2) (pe_lst (pa_cons pe_str (pa_cons pe_str (pa_cons pe_str pa_nil)))) rfl) (pss_one (ps_ret (pe_tup (pa_cons (pv 2) (pa_cons (pv 3) pa_nil))))) pss_nil)
      (pss_cons (ps_if (pt_cmpR op_eq (pv 2) pe_str (nomark _)) (pss_one (ps_ret (pe_tup (pa_cons (pv 2) (pa_cons (pv 3) (pa_cons (pe_ix ix_list (pe_lst (pa_cons pe_int (pa_cons (pe_op op_sub (pe_op op_pow pe_int pe_int) pe_int) (pa_cons (pe_cd c_law_take hr (by first | decide | omega) (by rfl) (pa_cons (pv 0) (pa_cons (pe_op op_pow pe_int pe_int) pa_nil))) pa_nil)))) (pe_cd c_law_take hr (by first | decide | omega) (by rfl) (pa_cons (pv 0) (pa_cons pe_int pa_nil))) (fun _ _ => rfl)) pa_nil)))))) pss_nil)
      (pss_cons (ps_if (pt_cmpR op_eq (pv 2) pe_str (nomark _)) (pss_one (ps_ret (pe_tup (pa_cons (pv 2) (pa_cons (pv 3) (pa_cons (pe_ix ix_list (pe_lst (pa_cons pe_int (pa_cons pe_int (pa_cons (pe_un un_neg pe_int) (pa_cons (pe_op op_sub (pe_cd c_law_take hr (by first | decide | omega) (by rfl) (pa_cons (pv 0) (pa_cons (pe_op op_pow pe_int pe_int) pa_nil))) (pe_op op_pow pe_int pe_int)) pa_nil))))) (pe_cd c_law_take hr (by first | decide | omega) (by rfl) (pa_cons (pv 0) (pa_cons pe_int pa_nil))) (fun _ _ => rfl)) pa_nil)))))) pss_nil)
      (pss_one (ps_ret (pe_tup (pa_cons (pv 2) (pa_cons (pv 3) (pa_cons (pv 4) (pa_cons (pv 5) pa_nil)))))))))))))))), ?_⟩
  (with_reducible refine w_seq ?_)
  (with_reducible refine w_asg ?_)
  (with_reducible refine w_call ?_)
  (with_reducible refine w_cons ?_)
  ((with_reducible refine' w_var ?hv ?_); (case hv => exact rfl))
  (with_reducible refine w_cons ?_)
  (with_reducible refine w_c ?_)
  (with_reducible refine w_nil ?_)
  refine w_take hd (by decide) (by decide) fun a0 H1 a0a a0b hd1 b1 => ?_
  (with_reducible refine w_name ?_)
  (with_reducible refine w_seq ?_)
  (with_reducible refine w_asg ?_)
  (with_reducible refine w_op ?_)
  (with_reducible refine w_call ?_)
  (with_reducible refine w_nil ?_)
  refine ⟨rfl, fun p H2 np s2 hp => ?_⟩
  ((with_reducible refine' w_var ?hv ?_); (case hv => exact rfl))
  have hn : a0.toNat < opsT.length := by show _ < 38; omega
  have hn8 : a0.toNat < 38 := hn
  obtain ⟨op, fm, hop⟩ : ∃ op fm, opsT[a0.toNat]? = some (op, fm) := ⟨_, _, List.getElem?_eq_getElem hn⟩
  obtain ⟨f1, f2, f3, f4⟩ := op_read _ hn8 _ hop
  simp only at f1 f2 f3 f4
  have hfm := ops_forms _ (List.mem_of_getElem? hop)
  refine w_ixL (v := .str op) hp (atI_of (by omega) (by rw [List.getElem?_map, List.getElem?_map, hop]; rfl)) ?_
  (with_reducible refine w_name ?_)
  (with_reducible refine w_seq ?_)
  (with_reducible refine w_asg ?_)
  (with_reducible refine w_call ?_)
  (with_reducible refine w_cons ?_)
  ((with_reducible refine' w_var ?hv ?_); (case hv => exact rfl))
  (with_reducible refine w_cons ?_)
  (with_reducible refine w_c ?_)
  (with_reducible refine w_nil ?_)
  refine w_take (hd1.same s2) (by decide) (by decide) fun a H3 a0' a1 hd3 b3 => ?_
  (with_reducible refine w_name ?_)
  (with_reducible refine w_seq ?_)
  (with_reducible refine w_asg ?_)
  (with_reducible refine w_call ?_)
  (with_reducible refine w_cons ?_)
  ((with_reducible refine' w_var ?hv ?_); (case hv => exact rfl))
  (with_reducible refine w_cons ?_)
  (with_reducible refine w_c ?_)
  (with_reducible refine w_nil ?_)
  refine w_take hd3 (by decide) (by decide) fun b H4 b0' b1' hd4 b4 => ?_
  (with_reducible refine w_name ?_)
  have bt : But d H H4 := fun x o ne h => b4 x o ne (b3 x o ne (s2 _ _ (b1 x o ne h)))
  refine Evl.q_cut (M := fun σ' H' => DrawC H' d c ∧ But d H H' ∧ ∃ imm : Int, -8192 ≤ imm ∧ imm ≤ 8191 ∧ σ' = [some (.ref d), some (.int a0), some (.str op), some (.int a), some (.int b), some (.int imm)]) ?_ ?_
  · (with_reducible refine w_asg ?_)
    (with_reducible refine w_op ?_)
    (with_reducible refine w_lst ?_)
    (with_reducible refine w_cons ?_)
    (with_reducible refine w_c ?_)
    (with_reducible refine w_cons ?_)
    (with_reducible refine w_c ?_)
    (with_reducible refine w_cons ?_)
    (with_reducible refine w_un ?_)
    (with_reducible refine w_c ?_)
    (with_reducible refine w_U ?_)
    (with_reducible refine w_cons ?_)
    (with_reducible refine w_c ?_)
    (with_reducible refine w_cons ?_)
    (with_reducible refine w_un ?_)
    (with_reducible refine w_c ?_)
    (with_reducible refine w_U ?_)
    (with_reducible refine w_cons ?_)
    (with_reducible refine w_op ?_)
    (with_reducible refine w_call ?_)
    (with_reducible refine w_cons ?_)
    ((with_reducible refine' w_var ?hv ?_); (case hv => exact rfl))
    (with_reducible refine w_cons ?_)
    (with_reducible refine w_c ?_)
    (with_reducible refine w_nil ?_)
    refine w_take hd4 (by decide) (by decide) fun i0 H5 i00 i01 hd5 b5 => ?_
    (with_reducible refine w_c ?_)
    (with_reducible refine w_I0 ?_)
    (with_reducible refine w_nil ?_)
    refine w_kLst (by show 6 ≤ sizeLine; decide) fun l H6 nl s6 hl => ?_
    (with_reducible refine w_call ?_)
    (with_reducible refine w_cons ?_)
    ((with_reducible refine' w_var ?hv ?_); (case hv => exact rfl))
    (with_reducible refine w_cons ?_)
    (with_reducible refine w_c ?_)
    (with_reducible refine w_nil ?_)
    refine w_take (hd5.same s6) (by decide) (by decide) fun r H7 r0 r1 hd7 b7 => ?_
    skip
    have hl7 : H7 l = some (.lst (([0, 1, -1, 8191, -8192, i0 - 8192] : List Int).map V.int)) := b7 l _ (hd5.ne nl) hl
    obtain ⟨v, hv, ea⟩ := pickI [0, 1, -1, 8191, -8192, i0 - 8192] r0 (show r < ((6 : Nat) : Int) from r1)
    refine w_ixL hl7 ea ?_
    (with_reducible refine w_name ?_)
    refine ⟨hd7, fun x o ne h => b7 x o ne (s6 _ _ (b5 x o ne (bt x o ne h))), v, ?_, ?_, rfl⟩ <;>
    · simp only [List.mem_cons, List.not_mem_nil, or_false] at hv
      rcases hv with rfl | rfl | rfl | rfl | rfl | rfl <;> omega
  · rintro σ' H5 ⟨hd5, b5, imm, i0, i1, rfl⟩
    (with_reducible refine w_seq ?_)
    (with_reducible refine w_ifS ?_)
    (with_reducible refine w_test ?_)
    (with_reducible refine w_op ?_)
    ((with_reducible refine' w_var ?hv ?_); (case hv => exact rfl))
    (with_reducible refine w_c ?_)
    (with_reducible refine w_I0 ?_)
    (with_reducible refine w_bl ?_)
    have ra : R16 a := ⟨a0', a1⟩
    have rb : R16 b := ⟨b0', b1'⟩
    refine w_dec (fun e1 => ?_) (fun e1 => ?_)
    · (with_reducible refine w_ret ?_)
      (with_reducible refine w_tup ?_)
      (with_reducible refine w_cons ?_)
      ((with_reducible refine' w_var ?hv ?_); (case hv => exact rfl))
      (with_reducible refine w_cons ?_)
      ((with_reducible refine' w_var ?hv ?_); (case hv => exact rfl))
      (with_reducible refine w_cons ?_)
      ((with_reducible refine' w_var ?hv ?_); (case hv => exact rfl))
      (with_reducible refine w_cons ?_)
      (with_reducible refine w_call ?_)
      (with_reducible refine w_cons ?_)
      ((with_reducible refine' w_var ?hv ?_); (case hv => exact rfl))
      (with_reducible refine w_cons ?_)
      (with_reducible refine w_c ?_)
      (with_reducible refine w_nil ?_)
      refine w_take hd5 (by decide) (by decide) fun k H6 k0 k1 hd6 b6 => ?_
      (with_reducible refine w_nil ?_)
      refine w_kTup (by show 4 ≤ sizeLine; decide) fun t H7 nt s7 ht => ?_
      have ef : fm = "dss" := f4.mp (by omega)
      subst ef
      have bh : But d H H6 := fun x o ne h => b6 x o ne (b5 x o ne h)
      exact q a0.toNat op "dss" [a, b, k] t H7 ⟨hop, .dss ra rb ⟨k0, k1⟩⟩ (hd6.same s7) (fun x o ne h => s7 _ _ (bh x o ne h)) (but_new bh hd6 nt) ht
    · (with_reducible refine w_next ?_)
      (with_reducible refine w_seq ?_)
      (with_reducible refine w_ifS ?_)
      (with_reducible refine w_test ?_)
      (with_reducible refine w_op ?_)
      ((with_reducible refine' w_var ?hv ?_); (case hv => exact rfl))
      (with_reducible refine w_lst ?_)
      (with_reducible refine w_cons ?_)
      (with_reducible refine w_c ?_)
      (with_reducible refine w_cons ?_)
      (with_reducible refine w_c ?_)
      (with_reducible refine w_cons ?_)
      (with_reducible refine w_c ?_)
      (with_reducible refine w_nil ?_)
      have ndss : fm ≠ "dss" := fun z => e1 (by have := f4.mpr z; omega)
      refine w_kLst (by show 3 ≤ sizeLine; decide) fun l H6 nl s6 hl => ?_
      have b6 : But d H H6 := fun x o ne h => s6 _ _ (b5 x o ne h)
      have hd6 := hd5.same s6
      refine w_inL hl rfl (by rfl) f1 ?_
      (with_reducible refine w_bl ?_)
      simp only [forms, List.mem_cons, List.not_mem_nil, or_false] at hfm
      refine w_dec (fun e2 => ?_) (fun e2 => ?_)
      · (with_reducible refine w_ret ?_)
        (with_reducible refine w_tup ?_)
        (with_reducible refine w_cons ?_)
        ((with_reducible refine' w_var ?hv ?_); (case hv => exact rfl))
        (with_reducible refine w_cons ?_)
        ((with_reducible refine' w_var ?hv ?_); (case hv => exact rfl))
        (with_reducible refine w_nil ?_)
        refine w_kTup (by show 2 ≤ sizeLine; decide) fun t H7 nt s7 ht => ?_
        rcases e2 with rfl | rfl
        · exact q a0.toNat op "d" [a] t H7 ⟨hop, .d ra⟩ (hd6.same s7) (fun x o ne h => s7 _ _ (b6 x o ne h)) (but_new b6 hd6 nt) ht
        · exact q a0.toNat op "s" [a] t H7 ⟨hop, .s ra⟩ (hd6.same s7) (fun x o ne h => s7 _ _ (b6 x o ne h)) (but_new b6 hd6 nt) ht
      · (with_reducible refine w_next ?_)
        (with_reducible refine w_seq ?_)
        (with_reducible refine w_ifS ?_)
        (with_reducible refine w_test ?_)
        (with_reducible refine w_op ?_)
        ((with_reducible refine' w_var ?hv ?_); (case hv => exact rfl))
        (with_reducible refine w_c ?_)
        (with_reducible refine w_eqS ?_)
        (with_reducible refine w_bl ?_)
        refine w_dec (fun e3 => ?_) (fun e3 => ?_)
        · have ef : fm = "du" := f2.mp e3
          subst ef
          (with_reducible refine w_ret ?_)
          (with_reducible refine w_tup ?_)
          (with_reducible refine w_cons ?_)
          ((with_reducible refine' w_var ?hv ?_); (case hv => exact rfl))
          (with_reducible refine w_cons ?_)
          ((with_reducible refine' w_var ?hv ?_); (case hv => exact rfl))
          (with_reducible refine w_cons ?_)
          (with_reducible refine w_op ?_)
          (with_reducible refine w_lst ?_)
          (with_reducible refine w_cons ?_)
          (with_reducible refine w_c ?_)
          (with_reducible refine w_cons ?_)
          (with_reducible refine w_op ?_)
          (with_reducible refine w_op ?_)
          (with_reducible refine w_c ?_)
          (with_reducible refine w_c ?_)
          (with_reducible refine w_p18 ?_)
          (with_reducible refine w_c ?_)
          (with_reducible refine w_I0 ?_)
          (with_reducible refine w_cons ?_)
          (with_reducible refine w_call ?_)
          (with_reducible refine w_cons ?_)
          ((with_reducible refine' w_var ?hv ?_); (case hv => exact rfl))
          (with_reducible refine w_cons ?_)
          (with_reducible refine w_op ?_)
          (with_reducible refine w_c ?_)
          (with_reducible refine w_c ?_)
          (with_reducible refine w_p18 ?_)
          (with_reducible refine w_nil ?_)
          refine w_take hd6 (by decide) (by decide) fun i0 H7 i00 i01 hd7 b7 => ?_
          (with_reducible refine w_nil ?_)
          refine w_kLst (by show 3 ≤ sizeLine; decide) fun l8 H8 nl8 s8 hl8 => ?_
          (with_reducible refine w_call ?_)
          (with_reducible refine w_cons ?_)
          ((with_reducible refine' w_var ?hv ?_); (case hv => exact rfl))
          (with_reducible refine w_cons ?_)
          (with_reducible refine w_c ?_)
          (with_reducible refine w_nil ?_)
          refine w_take (hd7.same s8) (by decide) (by decide) fun r H9 r0 r1 hd9 b9 => ?_
          skip
          have hl9 : H9 l8 = some (.lst (([0, 262143, i0] : List Int).map V.int)) := b9 l8 _ (hd7.ne nl8) hl8
          obtain ⟨v, hv, ea⟩ := pickI [0, 262143, i0] r0 (show r < ((3 : Nat) : Int) from r1)
          refine w_ixL hl9 ea ?_
          (with_reducible refine w_nil ?_)
          refine w_kTup (by show 3 ≤ sizeLine; decide) fun t H10 nt s10 ht => ?_
          have bh : But d H H9 := fun x o ne h => b9 x o ne (s8 _ _ (b7 x o ne (b6 x o ne h)))
          refine q a0.toNat op "du" [a, v] t H10 ⟨hop, .du ra ?_⟩ (hd9.same s10) (fun x o ne h => s10 _ _ (bh x o ne h)) (but_new bh hd9 nt) ht
          simp only [List.mem_cons, List.not_mem_nil, or_false] at hv
          rcases hv with rfl | rfl | rfl <;> omega
        · (with_reducible refine w_next ?_)
          (with_reducible refine w_seq ?_)
          (with_reducible refine w_ifS ?_)
          (with_reducible refine w_test ?_)
          (with_reducible refine w_op ?_)
          ((with_reducible refine' w_var ?hv ?_); (case hv => exact rfl))
          (with_reducible refine w_c ?_)
          (with_reducible refine w_eqS ?_)
          (with_reducible refine w_bl ?_)
          refine w_dec (fun e4 => ?_) (fun e4 => ?_)
          · have ef : fm = "dj" := f3.mp e4
            subst ef
            (with_reducible refine w_ret ?_)
            (with_reducible refine w_tup ?_)
            (with_reducible refine w_cons ?_)
            ((with_reducible refine' w_var ?hv ?_); (case hv => exact rfl))
            (with_reducible refine w_cons ?_)
            ((with_reducible refine' w_var ?hv ?_); (case hv => exact rfl))
            (with_reducible refine w_cons ?_)
            (with_reducible refine w_op ?_)
            (with_reducible refine w_lst ?_)
            (with_reducible refine w_cons ?_)
            (with_reducible refine w_c ?_)
            (with_reducible refine w_cons ?_)
            (with_reducible refine w_c ?_)
            (with_reducible refine w_cons ?_)
            (with_reducible refine w_un ?_)
            (with_reducible refine w_c ?_)
            (with_reducible refine w_U ?_)
            (with_reducible refine w_cons ?_)
            (with_reducible refine w_op ?_)
            (with_reducible refine w_call ?_)
            (with_reducible refine w_cons ?_)
            ((with_reducible refine' w_var ?hv ?_); (case hv => exact rfl))
            (with_reducible refine w_cons ?_)
            (with_reducible refine w_op ?_)
            (with_reducible refine w_c ?_)
            (with_reducible refine w_c ?_)
            (with_reducible refine w_p18 ?_)
            (with_reducible refine w_nil ?_)
            refine w_take hd6 (by decide) (by decide) fun i0 H7 i00 i01 hd7 b7 => ?_
            (with_reducible refine w_op ?_)
            (with_reducible refine w_c ?_)
            (with_reducible refine w_c ?_)
            (with_reducible refine w_p17 ?_)
            (with_reducible refine w_I0 ?_)
            (with_reducible refine w_nil ?_)
            refine w_kLst (by show 4 ≤ sizeLine; decide) fun l8 H8 nl8 s8 hl8 => ?_
            (with_reducible refine w_call ?_)
            (with_reducible refine w_cons ?_)
            ((with_reducible refine' w_var ?hv ?_); (case hv => exact rfl))
            (with_reducible refine w_cons ?_)
            (with_reducible refine w_c ?_)
            (with_reducible refine w_nil ?_)
            refine w_take (hd7.same s8) (by decide) (by decide) fun r H9 r0 r1 hd9 b9 => ?_
            skip
            have hl9 : H9 l8 = some (.lst (([0, 131071, -131072, i0 - 131072] : List Int).map V.int)) := b9 l8 _ (hd7.ne nl8) hl8
            obtain ⟨v, hv, ea⟩ := pickI [0, 131071, -131072, i0 - 131072] r0 (show r < ((4 : Nat) : Int) from r1)
            refine w_ixL hl9 ea ?_
            (with_reducible refine w_nil ?_)
            refine w_kTup (by show 3 ≤ sizeLine; decide) fun t H10 nt s10 ht => ?_
            have bh : But d H H9 := fun x o ne h => b9 x o ne (s8 _ _ (b7 x o ne (b6 x o ne h)))
            refine q a0.toNat op "dj" [a, v] t H10 ⟨hop, .dj ra ?_⟩ (hd9.same s10) (fun x o ne h => s10 _ _ (bh x o ne h)) (but_new bh hd9 nt) ht
            simp only [List.mem_cons, List.not_mem_nil, or_false] at hv
            rcases hv with rfl | rfl | rfl | rfl <;> omega
          · (with_reducible refine w_next ?_)
            (with_reducible refine w_ret ?_)
            (with_reducible refine w_tup ?_)
            (with_reducible refine w_cons ?_)
            ((with_reducible refine' w_var ?hv ?_); (case hv => exact rfl))
            (with_reducible refine w_cons ?_)
            ((with_reducible refine' w_var ?hv ?_); (case hv => exact rfl))
            (with_reducible refine w_cons ?_)
            ((with_reducible refine' w_var ?hv ?_); (case hv => exact rfl))
            (with_reducible refine w_cons ?_)
            ((with_reducible refine' w_var ?hv ?_); (case hv => exact rfl))
            (with_reducible refine w_nil ?_)
            refine w_kTup (by show 4 ≤ sizeLine; decide) fun t H7 nt s7 ht => ?_
            rcases hfm with rfl | rfl | rfl | rfl | rfl | rfl | rfl
            · exact absurd rfl ndss
            · exact q a0.toNat op "dsi" [a, b, imm] t H7 ⟨hop, .dsi ra rb ⟨i0, i1⟩⟩ (hd6.same s7) (fun x o ne h => s7 _ _ (b6 x o ne h)) (but_new b6 hd6 nt) ht
            · exact q a0.toNat op "ssi" [a, b, imm] t H7 ⟨hop, .ssi ra rb ⟨i0, i1⟩⟩ (hd6.same s7) (fun x o ne h => s7 _ _ (b6 x o ne h)) (but_new b6 hd6 nt) ht
            · exact absurd (f2.mpr rfl) e3
            · exact absurd (f3.mpr rfl) e4
            · exact absurd (.inl rfl) e2
            · exact absurd (.inr rfl) e2
theorem ok_law_shown (b_len : mg "len" = none) (b_range : mg "range" = none) (b_str : mg "str" = none) (c_law_ops : Cd P w K mg base 1 "_law_ops" spOps) (Z : St1 K mg "_law_shown" s_law_shown ["row", "label"]) : Cd P w K mg base 2 "_law_shown" (spShown K) := by
  refine Z.cd sc_law_shown (fun vs H Q E h => by obtain ⟨t, n, op, fm, xs, lab, rfl, _⟩ := h; rfl) (fun f cdv A outer s H vs Q E hr h => ?_)
  obtain ⟨t, n, op, fm, xs, lab, rfl, ht, hi, q⟩ := h
  obtain ⟨fl, f3, fb⟩ := hi.fits.len
  have hn := hi.n38
  obtain ⟨at1, at2⟩ := first_at hi.at_
  refine ⟨_, (pss_cons (ps_set (i := 2) sc_law_shown.nd rfl (.inl rfl) (pe_bm PySem.F.plainAttrs_list PySem.F.slot_list_index PySem.F.type_list_index mt_index (pe_cd0 c_law_ops hr (by first | decide | omega) (by rfl)) (pa_cons (pe_ix ix_tup (pv 0) pe_int (fun _ _ => rfl)) pa_nil)))
      (Evl.pss_cut (ps_set (i := 3) sc_law_shown.nd rfl (.inl rfl) (pe_ifExp (PW.pt (pw_or (pt_cmpR op_eq (pe_callB call_lenQ (by rfl) b_len PySem.boot_len (pa_cons (pv 0) pa_nil)) pe_int (nomark _)) (pw_or1 (pt_cmpR op_in_seq (pv 2) (pe_lst (pa_cons pe_int (pa_cons pe_int pa_nil))) rfl)))) pe_int pe_int))
      (Evl.pss_cut (ps_if (pt_cmpR op_lt (pv 2) pe_int (nomark _)) (pss_one (ps_set (i := 3) sc_law_shown.nd rfl (.inl rfl) pe_int)) pss_nil)
      (pss_cons (ps_set (i := 4) sc_law_shown.nd rfl (.inl rfl) (pe_lst pa_nil))
      (Evl.pss_cut (ps_for PassesOwn.never rfl (pi_range2 (by rfl) b_range (pa_cons pe_int (pa_cons (pe_callB call_lenQ (by rfl) b_len PySem.boot_len (pa_cons (pv 0) pa_nil)) pa_nil))) (pg_name (i := 5) sc_law_shown.nd rfl (.inl rfl))
      (pss_one (ps_expr (pe_bm PySem.F.plainAttrs_list PySem.F.slot_list_append PySem.F.type_list_append mt_append (pv 4) (pa_cons (pe_ifExp (pt_cmpR op_le (pv 5) (pv 3) (nomark _)) (pe_op op_addSQ pe_str (pe_callTy call_strQ (by rfl) b_str (by decide +kernel) (pa_cons (pe_ix ix_tup (pv 0) (pv 5) (fun _ _ => rfl)) pa_nil))) (pe_callTy call_strQ (by rfl) b_str (by decide +kernel) (pa_cons (pe_ix ix_tup (pv 0) (pv 5) (fun _ _ => rfl)) pa_nil))) pa_nil)))))
      (pss_cons (ps_if (pt_cmpR op_ne (pv 1) pe_str (nomark _)) (pss_one (ps_asg (pv 1) (pg_sub (pv 4) (pe_op op_sub (pe_callB call_lenQ (by rfl) b_len PySem.boot_len (pa_cons (pv 4) pa_nil)) pe_int) set_list))) pss_nil)
      (pss_one (ps_ret (pv 4))))))))), ?_⟩
  (with_reducible refine w_seq ?_)
  (with_reducible refine w_asg ?_)
  (with_reducible refine w_bm ?_)
  (with_reducible refine w_call ?_)
  (with_reducible refine w_nil ?_)
  refine ⟨rfl, fun p H1 np sm hp => ?_⟩
  ((with_reducible refine' w_tyL ?hh ?_); (case hh => assumption))
  (with_reducible refine w_cons ?_)
  (with_reducible refine w_op ?_)
  ((with_reducible refine' w_var ?hv ?_); (case hv => exact rfl))
  (with_reducible refine w_c ?_)
  refine w_ixTs (sm.sqT ht) (atI_of (v := .str op) (by decide) rfl) ?_
  (with_reducible refine w_nil ?_)
  refine w_lix hp at1 at2 ?_
  (with_reducible refine w_name ?_)
  have el : (insV op xs).length = xs.length + 1 := by unfold insV; simp
  refine Evl.q_cut (M := fun σ' H' => Same H1 H' ∧ σ' = [some (.ref t), some (.str lab), some (.int n), some (.int (if xs.length = 1 ∨ n = 21 ∨ n = 33 then 1 else 2)), none, none]) ?_ ?_
  · (with_reducible refine w_asg ?_)
    (with_reducible refine w_if ?_)
    (with_reducible refine w_orT ?_)
    (with_reducible refine w_test ?_)
    (with_reducible refine w_op ?_)
    (with_reducible refine w_cb ?_)
    (with_reducible refine w_cons ?_)
    ((with_reducible refine' w_var ?hv ?_); (case hv => exact rfl))
    (with_reducible refine w_nil ?_)
    refine w_lenTn (xs.length + 1) (sm.sqT ht) el ?_
    (with_reducible refine w_c ?_)
    (with_reducible refine w_eqI ?_)
    (with_reducible refine w_bl ?_)
    refine w_dec (fun e => ?_) (fun e => ?_)
    · (with_reducible refine w_itT ?_)
      (with_reducible refine w_c ?_)
      (with_reducible refine w_name ?_)
      exact ⟨Same.refl _, by rw [if_pos (show xs.length = 1 ∨ n = 21 ∨ n = 33 from .inl (by omega))]; rfl⟩
    · (with_reducible refine w_test ?_)
      (with_reducible refine w_op ?_)
      ((with_reducible refine' w_var ?hv ?_); (case hv => exact rfl))
      (with_reducible refine w_lst ?_)
      (with_reducible refine w_cons ?_)
      (with_reducible refine w_c ?_)
      (with_reducible refine w_cons ?_)
      (with_reducible refine w_c ?_)
      (with_reducible refine w_nil ?_)
      refine w_kLst (by show 2 ≤ sizeLine; decide) fun l H4 nl s4 hl => ?_
      refine w_inL (b := decide (n = 21 ∨ n = 33)) hl rfl (by rfl) ?_ ?_
      · unfold inV
        simp only [List.any_cons, List.any_nil, eqV, Bool.or_false]
        apply Bool.eq_iff_iff.mpr
        simp
        omega
      · refine ⟨_, rfl, ?_⟩
        by_cases e2 : n = 21 ∨ n = 33
        · rw [decide_eq_true e2]
          (with_reducible refine w_itT ?_)
          (with_reducible refine w_c ?_)
          (with_reducible refine w_name ?_)
          exact ⟨s4, by rw [if_pos (show xs.length = 1 ∨ n = 21 ∨ n = 33 from .inr e2)]; rfl⟩
        · rw [decide_eq_false e2]
          (with_reducible refine w_itF ?_)
          (with_reducible refine w_c ?_)
          (with_reducible refine w_name ?_)
          exact ⟨s4, by rw [if_neg (show ¬ (xs.length = 1 ∨ n = 21 ∨ n = 33) from fun z => z.elim (fun z => by omega) e2)]; rfl⟩
  rintro σ2 H2 ⟨s2, rfl⟩
  refine Evl.q_cut (M := fun σ' H' => H' = H2 ∧ σ' = [some (.ref t), some (.str lab), some (.int n), some (.int (manyF n xs.length)), none, none]) ?_ ?_
  · (with_reducible refine w_ifS ?_)
    (with_reducible refine w_test ?_)
    (with_reducible refine w_op ?_)
    ((with_reducible refine' w_var ?hv ?_); (case hv => exact rfl))
    (with_reducible refine w_c ?_)
    (with_reducible refine w_I0 ?_)
    (with_reducible refine w_bl ?_)
    have l13 : n < 13 → xs.length ≠ 1 := fun h z => by
      have e := (op_dss n hn _ hi.at_).1.mpr h
      simp only at e
      have := hi.fits
      rw [e] at this
      cases this
      simp at z
    refine w_dec (fun e => ?_) (fun e => ?_)
    · (with_reducible refine w_asg ?_)
      (with_reducible refine w_c ?_)
      (with_reducible refine w_name ?_)
      refine ⟨rfl, ?_⟩
      have em : manyF n xs.length = 3 := by
        unfold manyF
        rw [if_neg (by have := l13 (by omega); omega), if_pos (by omega)]
      rw [em]
      rfl
    · (with_reducible refine w_next ?_)
      refine ⟨rfl, ?_⟩
      have em : manyF n xs.length = if xs.length = 1 ∨ n = 21 ∨ n = 33 then 1 else 2 := by
        unfold manyF
        rw [if_neg (show ¬ n < 13 by omega)]
      rw [em]
  rintro σ3 H3 ⟨rfl, rfl⟩
  have ht3 := (sm.trans s2).sqT ht
  (with_reducible refine w_seq ?_)
  (with_reducible refine w_asg ?_)
  (with_reducible refine w_lst ?_)
  (with_reducible refine w_nil ?_)
  refine w_kLst (Nat.zero_le _) fun D H4 nD s4 hD => ?_
  have ht4 := s4.sqT ht3
  (with_reducible refine w_name ?_)
  have zl : (opsTx fm xs).length = xs.length := by unfold opsTx; rw [List.length_map, List.length_zip]; simp only [Array.length_toList, fl, Nat.min_self]
  refine Evl.q_cut (M := fun σ' H' => Same H3 H' ∧ H' D = some (.lst ((opsTx fm xs).map V.str)) ∧ ∃ u : Option V, σ' = [some (.ref t), some (.str lab), some (.int n), some (.int (manyF n xs.length)), some (.ref D), u]) ?_ ?_
  · (with_reducible refine w_for ?_)
    (with_reducible refine w_rng2 ?_)
    (with_reducible refine w_cons ?_)
    (with_reducible refine w_c ?_)
    (with_reducible refine w_cons ?_)
    (with_reducible refine w_cb ?_)
    (with_reducible refine w_cons ?_)
    ((with_reducible refine' w_var ?hv ?_); (case hv => exact rfl))
    (with_reducible refine w_nil ?_)
    refine w_lenTn (xs.length + 1) ht4 el ?_
    (with_reducible refine w_nil ?_)
    refine w_forR2 xs.length (fun i σ' H' => Same H3 H' ∧ H' D = some (.lst (((opsTx fm xs).take i).map V.str)) ∧ ∃ u : Option V, σ' = [some (.ref t), some (.str lab), some (.int n), some (.int (manyF n xs.length)), some (.ref D), u]) (by omega) (by omega) ⟨s4, hD, none, rfl⟩ (fun i σ' H5 hi5 h => ?_) (fun σ' H5 h => ?_)
    · obtain ⟨s5, hD5, u, rfl⟩ := h
      have ht5 := s5.sqT ht3
      obtain ⟨x, hx⟩ : ∃ x, xs[i]? = some x := ⟨_, List.getElem?_eq_getElem hi5⟩
      obtain ⟨c, hc⟩ : ∃ c, fm.cps[i]? = some c := ⟨_, Array.getElem?_eq_getElem (by omega)⟩
      have hz : (fm.cps.toList.zip xs)[i]? = some (c, x) := by
        rw [List.getElem?_zip_eq_some]
        exact ⟨by simpa using hc, hx⟩
      have hy : (opsTx fm xs)[i]? = some (opT c x) := by unfold opsTx; rw [List.getElem?_map, hz]; rfl
      have tk := take_more hy
      have hb := fb x (List.mem_of_getElem? hx)
      have xa : atI (insV op xs) (1 + (i : Int)) = some (.int x) := atI_of (by omega) (by
        rw [show (1 + (i : Int)).toNat = i + 1 by omega]
        unfold insV
        rw [List.getElem?_cons_succ, List.getElem?_map, hx]
        rfl)
      have mo := many_ok hi hc
      have l1 : ("r" : Str).length = 1 := by decide +kernel
      have ld := dcT_len (i := x) (by omega)
      have ll : (((opsTx fm xs).take i).map V.str).length < sizeLine := by
        rw [List.length_map, List.length_take]
        exact small1000 (by omega)
      (with_reducible refine w_name ?_)
      (with_reducible refine w_drop ?_)
      (with_reducible refine w_bm ?_)
      ((with_reducible refine' w_var ?hv ?_); (case hv => exact rfl))
      ((with_reducible refine' w_tyL ?hh ?_); (case hh => assumption))
      (with_reducible refine w_cons ?_)
      (with_reducible refine w_if ?_)
      (with_reducible refine w_test ?_)
      (with_reducible refine w_op ?_)
      ((with_reducible refine' w_var ?hv ?_); (case hv => exact rfl))
      ((with_reducible refine' w_var ?hv ?_); (case hv => exact rfl))
      (with_reducible refine w_I0 ?_)
      (with_reducible refine w_bl ?_)
      refine w_dec (fun e => ?_) (fun e => ?_)
      · have eo : opT c x = ("r" : Str) ++ dcT x := if_pos (mo.mpr e)
        (with_reducible refine w_op ?_)
        (with_reducible refine w_c ?_)
        (with_reducible refine w_cb ?_)
        (with_reducible refine w_cons ?_)
        (with_reducible refine w_op ?_)
        ((with_reducible refine' w_var ?hv ?_); (case hv => exact rfl))
        ((with_reducible refine' w_var ?hv ?_); (case hv => exact rfl))
        refine w_ixTs ht5 xa ?_
        (with_reducible refine w_nil ?_)
        refine w_strI (by omega) ?_
        refine w_addS (by rw [l1]; exact Nat.le_trans (Nat.add_le_add_left ld 1) (by decide)) ?_
        (with_reducible refine w_nil ?_)
        refine w_append hD5 ll fun H6 hD6 b6 => ?_
        skip
        exact ⟨fun b o h => b6 b o (ne_of_none h nD) (s5 b o h), by rw [hD6, tk, List.map_append, eo]; rfl, _, rfl⟩
      · have eo : opT c x = dcT x := if_neg (fun z => e (mo.mp z))
        (with_reducible refine w_cb ?_)
        (with_reducible refine w_cons ?_)
        (with_reducible refine w_op ?_)
        ((with_reducible refine' w_var ?hv ?_); (case hv => exact rfl))
        ((with_reducible refine' w_var ?hv ?_); (case hv => exact rfl))
        refine w_ixTs ht5 xa ?_
        (with_reducible refine w_nil ?_)
        refine w_strI (by omega) ?_
        (with_reducible refine w_nil ?_)
        refine w_append hD5 ll fun H6 hD6 b6 => ?_
        skip
        exact ⟨fun b o h => b6 b o (ne_of_none h nD) (s5 b o h), by rw [hD6, tk, List.map_append, eo]; rfl, _, rfl⟩
    · obtain ⟨s5, hD5, u, rfl⟩ := h
      rw [← zl, List.take_length] at hD5
      exact ⟨s5, hD5, u, rfl⟩
  · rintro σ' H5 ⟨s5, hD5, u, rfl⟩
    have nD0 : H D = none := fresh (sm.trans s2) nD
    (with_reducible refine w_seq ?_)
    (with_reducible refine w_ifS ?_)
    (with_reducible refine w_test ?_)
    (with_reducible refine w_op ?_)
    ((with_reducible refine' w_var ?hv ?_); (case hv => exact rfl))
    (with_reducible refine w_c ?_)
    ((with_reducible refine w_ne ?hc ?_); (case hc => exact rfl))
    (with_reducible refine w_bl ?_)
    refine w_ndec (fun e => ?_) (fun e => ?_)
    · (with_reducible refine w_asg ?_)
      ((with_reducible refine' w_var ?hv ?_); (case hv => exact rfl))
      (with_reducible refine w_sub ?_)
      ((with_reducible refine' w_var ?hv ?_); (case hv => exact rfl))
      (with_reducible refine w_op ?_)
      (with_reducible refine w_cb ?_)
      (with_reducible refine w_cons ?_)
      ((with_reducible refine' w_var ?hv ?_); (case hv => exact rfl))
      (with_reducible refine w_nil ?_)
      ((with_reducible refine' w_lenL ?hh ?_); (case hh => assumption))
      (with_reducible refine w_c ?_)
      (with_reducible refine w_I0 ?_)
      obtain ⟨ini, o9, eos⟩ : ∃ ini o9, opsTx fm xs = ini ++ [o9] := by
        rcases List.eq_nil_or_concat (opsTx fm xs) with z | ⟨r, d, z⟩
        · rw [z] at zl
          have := hi.fits
          cases this <;> simp at zl
        · exact ⟨r, d, by rw [z, List.concat_eq_append]⟩
      have es : shw fm xs lab = ini ++ [lab] := by
        unfold shw
        rw [if_neg (fun z : lab = ("" : Str) => e (congrArg V.str z)), eos, List.dropLast_concat]
      refine w_setL hD5 (ixN_top _ (by rw [List.length_map, eos]; simp)) fun H6 hD6 b6 => ?_
      (with_reducible refine w_ret ?_)
      ((with_reducible refine' w_var ?hv ?_); (case hv => exact rfl))
      refine q D H6 nD0 (fun b o h => b6 b o (fun z => by rw [z, nD0] at h; cases h) (s5 _ _ ((sm.trans s2) _ _ h))) ?_
      rw [hD6, es, eos, List.map_append, List.map_append]
      exact congrArg some (congrArg HO.lst (set_last _ _ _ rfl))
    · (with_reducible refine w_next ?_)
      (with_reducible refine w_ret ?_)
      ((with_reducible refine' w_var ?hv ?_); (case hv => exact rfl))
      refine q D H5 nD0 ((sm.trans s2).trans s5) ?_
      rw [hD5]
      unfold shw
      rw [if_pos (show lab = ("" : Str) from V.str.inj e)]
end
end K05


open PySem.W
namespace K05
open TL
/-! ### the lines of the law, as texts -/
def atN (j : Nat) : Str := ("at" : Str) ++ dcT (j : Int)
def atC (j : Nat) : Str := atN j ++ (":" : Str)
def atNs : List Str := [atN 0, atN 1, atN 2]
theorem at_mem {j : Nat} (h : j < 3) : atN j ∈ atNs := by
  have : ∀ j, j < 3 → atN j ∈ atNs := by decide +kernel
  exact this j h
theorem at_inj : ∀ i, i < 3 → ∀ j, j < 3 → atN i = atN j → i = j := by decide +kernel
theorem at_facts : ∀ j, j < 3 → silS (atC j) = false ∧ labS (atC j) = true ∧ nmT (atC j) = atN j ∧ nameOk (atN j) = true ∧ atN j ≠ ("" : Str) := by decide +kernel
theorem lab_lines : ∀ k : Nat, k < 2 → ∀ j : Nat, j < 3 → ∀ s ∈ ([(":" : Str), (":  " : Str)] : List Str), Txt.stripChars (((Txt.mul ("  " : Str) (k : Int) ++ ("at" : Str)) ++ dcT (j : Int)) ++ s) (" " : Str) = atC j ∧ 10 ∉ tl (((Txt.mul ("  " : Str) (k : Int) ++ ("at" : Str)) ++ dcT (j : Int)) ++ s) ∧ (((Txt.mul ("  " : Str) (k : Int) ++ ("at" : Str)) ++ dcT (j : Int)) ++ s).length ≤ 8 := by decide +kernel
def sils : List Str := ["", "# add r1", "   ", " #"]
theorem sil_lines : ∀ s ∈ sils, silS (Txt.stripChars s (" " : Str)) = true ∧ 10 ∉ tl s ∧ s.length ≤ 8 := by decide +kernel
/-- a text without blanks, commas and ends of lines -/
structure TokOk (t : Str) : Prop where
  ne : tl t ≠ []
  ch : ∀ c ∈ tl t, 33 ≤ c ∧ c ≠ 44
  nc : ∀ c ∈ tl t, c ≠ 58
  le : t.length ≤ 12
theorem dc_ch (n : Int) : ∀ c ∈ tl (dcT n), c = 45 ∨ (48 ≤ c ∧ c ≤ 57) := by
  rcases Int.eq_nat_or_neg n with ⟨m, rfl | rfl⟩
  · rw [tl_dcN]
    exact fun c hc => .inr (numL_digits m c hc)
  · cases m with
    | zero => rw [show dcT (-((0 : Nat) : Int)) = dcT ((0 : Nat) : Int) from rfl, tl_dcN]; exact fun c hc => .inr (numL_digits 0 c hc)
    | succ m =>
      rw [tl_dcM]
      intro c hc
      rcases List.mem_cons.mp hc with h | h
      · exact .inl h
      · exact .inr (numL_digits _ c h)
theorem dc_ne (n : Int) : tl (dcT n) ≠ [] := by
  rcases Int.eq_nat_or_neg n with ⟨m, rfl | rfl⟩
  · rw [tl_dcN]; exact numL_ne m
  · cases m with
    | zero => rw [show dcT (-((0 : Nat) : Int)) = dcT ((0 : Nat) : Int) from rfl, tl_dcN]; exact numL_ne 0
    | succ m => rw [tl_dcM]; exact List.cons_ne_nil _ _
theorem tok_dc {n : Int} (h : n.natAbs < 4294967296) : TokOk (dcT n) := ⟨dc_ne n, fun c hc => by have := dc_ch n c hc; omega, fun c hc => by have := dc_ch n c hc; omega, Nat.le_trans (dcT_len h) (by decide)⟩
theorem tl_r : tl ("r" : Str) = [114] := by decide +kernel
theorem tok_op (c : Nat) {x : Int} (h : x.natAbs < 4294967296) : TokOk (opT c x) := by
  have hl := opT_len (c := c) h
  have T := tok_dc h
  unfold opT at hl ⊢
  split at hl <;> rename_i e
  · rw [if_pos e]
    have key : ∀ d ∈ tl (("r" : Str) ++ dcT x), d = 114 ∨ d ∈ tl (dcT x) := fun d hd => by
      rw [tl_append, tl_r] at hd
      rcases List.mem_append.mp hd with h | h
      · exact .inl (List.mem_singleton.mp h)
      · exact .inr h
    refine ⟨by rw [tl_append, tl_r]; exact List.cons_ne_nil _ _, fun d hd => ?_, fun d hd => ?_, hl⟩
    · rcases key d hd with h | h
      · omega
      · exact T.ch d h
    · rcases key d hd with h | h
      · omega
      · exact T.nc d h
  · rw [if_neg e]
    exact T
theorem tok_at : ∀ j, j < 3 → TokOk (atN j) := fun j h => by
  have h1 : ∀ j, j < 3 → tl (atN j) ≠ [] ∧ (∀ c ∈ tl (atN j), 33 ≤ c ∧ c ≠ 44) ∧ (∀ c ∈ tl (atN j), c ≠ 58) ∧ (atN j).length ≤ 12 := by decide +kernel
  exact ⟨(h1 j h).1, (h1 j h).2.1, (h1 j h).2.2.1, (h1 j h).2.2.2⟩
theorem tok_ops : ∀ p ∈ opsT, tl p.1 ≠ [] ∧ (∀ c ∈ tl p.1, 33 ≤ c ∧ c ≠ 44 ∧ c ≠ 58 ∧ c ≠ 35) ∧ p.1 ≠ "word" := by decide +kernel
/-! ### commas -/
/-- the blanks around a comma -/
def comA : List (List Nat × List Nat) := [([], []), ([], [32]), ([32], [32]), ([32, 32], [])]
def commas : List Str := [",", ", ", " , ", "  ,"]
theorem com_of : ∀ s ∈ commas, ∃ p ∈ comA, tl s = p.1 ++ 44 :: p.2 := by decide +kernel
theorem com_blank : ∀ p ∈ comA, (∀ c ∈ p.1, c = 32) ∧ ∀ c ∈ p.2, c = 32 := by decide +kernel
theorem tok_trim {p A B : List Nat} (hA : ∀ c ∈ A, c = 32) (hB : ∀ c ∈ B, c = 32) (hp : p ≠ []) (h : ∀ c ∈ p, 33 ≤ c) : trim (A ++ (p ++ B)) = p :=
  trim_of hA hB hp (fun c hc => by have := h c (List.mem_of_head? hc); omega) (fun c hc => by have := h c (List.mem_of_getLast? hc); omega)
theorem spl_com {A B : List Nat} (hA : ∀ c ∈ A, c = 32) (hB : ∀ c ∈ B, c = 32) : ∀ (ps : List (List Nat)) (X : List Nat), ps ≠ [] → (∀ c ∈ X, c = 32) → (∀ p ∈ ps, p ≠ [] ∧ ∀ c ∈ p, 33 ≤ c ∧ c ≠ 44) →
    (spl [44] 0 [] (X ++ joinL (A ++ 44 :: B) ps)).map trim = ps
  | [], _, h, _, _ => absurd rfl h
  | [p], X, _, hX, hp => by
    obtain ⟨h1, h2⟩ := hp p List.mem_cons_self
    show (spl [44] 0 [] (X ++ p)).map trim = [p]
    rw [spl_last1 (S := []) (fun z => by
      rcases List.mem_append.mp z with z | z
      · have := hX _ z; omega
      · exact (h2 _ z).2 rfl)]
    have := tok_trim hX (B := []) (fun c h => by cases h) h1 (fun c hc => (h2 c hc).1)
    rw [List.append_nil] at this
    rw [List.nil_append, List.map_cons, List.map_nil, this]
  | p :: q :: r, X, _, hX, hp => by
    obtain ⟨h1, h2⟩ := hp p List.mem_cons_self
    have e : X ++ joinL (A ++ 44 :: B) (p :: q :: r) = (X ++ (p ++ A)) ++ (44 :: [] ++ (B ++ joinL (A ++ 44 :: B) (q :: r))) := by
      simp [joinL]
    rw [e, spl_part1 (S := []) (fun z => by
      rcases List.mem_append.mp z with z | z
      · have := hX _ z; omega
      · rcases List.mem_append.mp z with z | z
        · exact (h2 _ z).2 rfl
        · have := hA _ z; omega)]
    rw [List.nil_append, List.map_cons, tok_trim hX hA h1 (fun c hc => (h2 c hc).1), spl_com hA hB (q :: r) B (by simp) hB (fun x hx => hp x (List.mem_cons_of_mem _ hx))]
theorem com1 : tl ("," : Str) = [44] := by decide +kernel
theorem opnds_com {s : Str} (hs : s ∈ commas) {ts : List Str} (hne : ts ≠ []) (ht : ∀ t ∈ ts, TokOk t) : (Txt.split (Txt.join s ts) ("," : Str)).map (fun o => Txt.stripChars o (" " : Str)) = ts := by
  obtain ⟨p, hp, e⟩ := com_of s hs
  obtain ⟨hA, hB⟩ := com_blank p hp
  apply map_tl_inj
  have e1 : ((Txt.split (Txt.join s ts) ("," : Str)).map fun o => Txt.stripChars o (" " : Str)).map tl = ((Txt.split (Txt.join s ts) ("," : Str)).map tl).map trim := by
    rw [List.map_map, List.map_map]
    exact List.map_congr_left fun o _ => tl_strip o
  rw [e1, split_spl _ _ (by rw [com1]; simp) (kind_ok (by decide +kernel)), join_eq, tl_join, com1, e]
  have := spl_com hA hB (ts.map tl) [] (by simpa using hne) (fun c h => by cases h) (fun x hx => by
    obtain ⟨t, h, rfl⟩ := List.mem_map.mp hx
    exact ⟨(ht t h).ne, (ht t h).ch⟩)
  rw [List.nil_append] at this
  exact this
theorem join_ne {S : List Nat} : ∀ {ps : List (List Nat)}, ps ≠ [] → (∀ p ∈ ps, p ≠ []) → joinL S ps ≠ []
  | [], h, _ => absurd rfl h
  | [p], _, h => h p List.mem_cons_self
  | p :: q :: r, _, h => fun z => by
    have e : joinL S (p :: q :: r) = p ++ (S ++ joinL S (q :: r)) := by simp [joinL]
    rw [e] at z
    exact h p List.mem_cons_self (List.append_eq_nil_iff.mp z).1
theorem last_app {l m : List Nat} (h : m ≠ []) : (l ++ m).getLast? = m.getLast? := by
  rcases List.eq_nil_or_concat m with rfl | ⟨r, d, rfl⟩
  · exact absurd rfl h
  · rw [List.concat_eq_append, ← List.append_assoc, List.getLast?_concat, List.getLast?_concat]
theorem join_last {S : List Nat} : ∀ {ps : List (List Nat)}, ps ≠ [] → (∀ p ∈ ps, p ≠ []) → ∀ c, (joinL S ps).getLast? = some c → ∃ p ∈ ps, c ∈ p
  | [], h, _, _, _ => absurd rfl h
  | [p], _, _, c, hc => ⟨p, List.mem_cons_self, List.mem_of_getLast? hc⟩
  | p :: q :: r, _, h, c, hc => by
    have e : joinL S (p :: q :: r) = (p ++ S) ++ joinL S (q :: r) := by simp [joinL]
    rw [e, last_app (join_ne (by simp) (fun x hx => h x (List.mem_cons_of_mem _ hx)))] at hc
    obtain ⟨x, hx, hcx⟩ := join_last (by simp) (fun x hx => h x (List.mem_cons_of_mem _ hx)) c hc
    exact ⟨x, List.mem_cons_of_mem _ hx, hcx⟩
theorem join_mem {S : List Nat} : ∀ {ps : List (List Nat)} {c : Nat}, c ∈ joinL S ps → c ∈ S ∨ ∃ p ∈ ps, c ∈ p
  | [], c, h => by cases h
  | [p], c, h => .inr ⟨p, List.mem_cons_self, h⟩
  | p :: q :: r, c, h => by
    have e : joinL S (p :: q :: r) = p ++ (S ++ joinL S (q :: r)) := by simp [joinL]
    rw [e] at h
    rcases List.mem_append.mp h with h | h
    · exact .inr ⟨p, List.mem_cons_self, h⟩
    · rcases List.mem_append.mp h with h | h
      · exact .inl h
      · rcases join_mem h with h | ⟨x, hx, hc⟩
        · exact .inl h
        · exact .inr ⟨x, List.mem_cons_of_mem _ hx, hc⟩
/-- a line of code -/
def codeM (op s : Str) (ts : List Str) : Str := (op ++ (" " : Str)) ++ Txt.join s ts
def codeL (k : Nat) (op s : Str) (ts : List Str) : Str := (((Txt.mul (" " : Str) (k : Int) ++ op) ++ (" " : Str)) ++ Txt.join s ts) ++ ("  " : Str)
theorem mul_blank : ∀ k : Nat, k < 3 → (∀ c ∈ tl (Txt.mul (" " : Str) (k : Int)), c = 32) ∧ (Txt.mul (" " : Str) (k : Int)).length ≤ 2 := by decide +kernel
theorem tl_sp : tl (" " : Str) = [32] := by decide +kernel
theorem tl_sp2 : tl ("  " : Str) = [32, 32] := by decide +kernel
structure OpOk (op : Str) : Prop where
  ne : tl op ≠ []
  ch : ∀ c ∈ tl op, 33 ≤ c ∧ c ≠ 44 ∧ c ≠ 58 ∧ c ≠ 35
  le : op.length ≤ 4
theorem op_ok {p : Str × Str} (h : p ∈ opsT) : OpOk p.1 := ⟨(tok_ops p h).1, (tok_ops p h).2.1, op_len p h⟩
section
variable {op s : Str} {ts : List Str}
theorem codeM_tl : tl (codeM op s ts) = tl op ++ (32 :: joinL (tl s) (ts.map tl)) := by
  unfold codeM
  rw [tl_append, tl_append, tl_sp, join_eq, tl_join]
  simp
theorem tls_ne (hne : ts ≠ []) : ts.map tl ≠ [] := by simpa using hne
theorem tls_tok (ht : ∀ t ∈ ts, TokOk t) : ∀ p ∈ ts.map tl, p ≠ [] := fun p hp => by
  obtain ⟨t, h, rfl⟩ := List.mem_map.mp hp
  exact (ht t h).ne
theorem codeM_last (hne : ts ≠ []) (ht : ∀ t ∈ ts, TokOk t) : ∀ c, (tl (codeM op s ts)).getLast? = some c → c ≠ 32 ∧ c ≠ 58 := fun c hc => by
  have e : tl op ++ (32 :: joinL (tl s) (ts.map tl)) = (tl op ++ [32]) ++ joinL (tl s) (ts.map tl) := by simp
  rw [codeM_tl, e, last_app (join_ne (tls_ne hne) (tls_tok ht))] at hc
  obtain ⟨p, hp, hcp⟩ := join_last (tls_ne hne) (tls_tok ht) c hc
  obtain ⟨t, h, rfl⟩ := List.mem_map.mp hp
  have := (ht t h).ch c hcp
  exact ⟨by omega, (ht t h).nc c hcp⟩
theorem codeM_head (ho : OpOk op) : ∀ c, (tl (codeM op s ts)).head? = some c → c ≠ 32 ∧ c ≠ 35 := fun c hc => by
  rw [codeM_tl, head_app ho.ne] at hc
  have := ho.ch c (List.mem_of_head? hc)
  omega
theorem codeM_ne (ho : OpOk op) : tl (codeM op s ts) ≠ [] := fun z => by
  rw [codeM_tl] at z
  exact ho.ne (List.append_eq_nil_iff.mp z).1
theorem code_strip {k : Nat} (hk : k < 3) (ho : OpOk op) (hne : ts ≠ []) (ht : ∀ t ∈ ts, TokOk t) : Txt.stripChars (codeL k op s ts) (" " : Str) = codeM op s ts := by
  apply ext_tl
  rw [tl_strip]
  have e : tl (codeL k op s ts) = tl (Txt.mul (" " : Str) (k : Int)) ++ (tl (codeM op s ts) ++ [32, 32]) := by
    unfold codeL codeM
    simp only [tl_append, tl_sp2, List.append_assoc]
  rw [e]
  exact trim_of (mul_blank k hk).1 (by decide) (codeM_ne ho) (fun c hc => (codeM_head ho c hc).1) (fun c hc => (codeM_last hne ht c hc).1)
theorem e_hash : ("#" : Str) = SS [35] := by decide +kernel
theorem e_colon : (":" : Str) = SS [58] := by decide +kernel
theorem code_kind (ho : OpOk op) (hne : ts ≠ []) (ht : ∀ t ∈ ts, TokOk t) : silS (codeM op s ts) = false ∧ labS (codeM op s ts) = false := by
  constructor
  · unfold silS
    rw [decide_eq_false (fun z => codeM_ne (s := s) (ts := ts) ho (by rw [z]; rfl)), Bool.false_or, e_hash, starts1]
    exact decide_eq_false (fun z => (codeM_head ho 35 z).2 rfl)
  · unfold labS
    rw [e_colon, ends1]
    exact decide_eq_false (fun z => (codeM_last hne ht 58 z).2 rfl)
theorem code_op (ho : OpOk op) : opT0 (codeM op s ts) = op ∧ restT (codeM op s ts) = Txt.join s ts := by
  have := partition_app (y := (" " : Str)) (s := 32) (S := []) tl_sp (a := op) (b := Txt.join s ts) (fun z => by have := ho.ch 32 z; omega)
  unfold opT0 restT codeM
  rw [this]
  exact ⟨rfl, rfl⟩
theorem code_ops (ho : OpOk op) (hs : s ∈ commas) (hne : ts ≠ []) (ht : ∀ t ∈ ts, TokOk t) : opnds (codeM op s ts) = ts := by
  unfold opnds
  rw [(code_op ho).2]
  exact opnds_com hs hne ht
theorem com_len : ∀ s ∈ commas, s.length ≤ 3 ∧ ∀ c ∈ tl s, c = 32 ∨ c = 44 := by decide +kernel
theorem code_line {k : Nat} (hk : k < 3) (ho : OpOk op) (hs : s ∈ commas) (hl : ts.length ≤ 3) (ht : ∀ t ∈ ts, TokOk t) : 10 ∉ tl (codeL k op s ts) ∧ (codeL k op s ts).length ≤ 60 := by
  obtain ⟨h1, h2⟩ := mul_blank k hk
  obtain ⟨h3, h4⟩ := com_len s hs
  constructor
  · intro z
    unfold codeL at z
    simp only [tl_append, tl_sp2, tl_sp, join_eq, tl_join] at z
    rcases List.mem_append.mp z with z | z
    · rcases List.mem_append.mp z with z | z
      · rcases List.mem_append.mp z with z | z
        · rcases List.mem_append.mp z with z | z
          · have := h1 _ z; omega
          · have := ho.ch _ z; omega
        · simp at z
      · rcases join_mem z with z | ⟨p, hp, z⟩
        · have := h4 _ z; omega
        · obtain ⟨t, h, rfl⟩ := List.mem_map.mp hp
          have := (ht t h).ch _ z
          omega
    · simp at z
  · have hj := join_len s ts
    have hsum : (ts.map (·.length)).sum ≤ 36 := by
      have : ∀ l : List Str, (∀ t ∈ l, TokOk t) → (l.map (·.length)).sum ≤ 12 * l.length := by
        intro l
        induction l with
        | nil => intro _; simp
        | cons y r ih =>
          intro h
          have := ih fun z hz => h z (List.mem_cons_of_mem _ hz)
          have := (h y List.mem_cons_self).le
          simp only [List.map_cons, List.sum_cons, List.length_cons]
          omega
      have := this ts ht
      omega
    have hm : ts.length * s.length ≤ 3 * 3 := Nat.mul_le_mul hl h3
    unfold codeL
    have := ho.le
    have e1 : (" " : Str).length = 1 := by decide +kernel
    have e2 : ("  " : Str).length = 2 := by decide +kernel
    simp only [cat_len, e1, e2]
    omega
end
end K05


open PySem.W
namespace K05
open TL
def known : List Str := opsT.map (·.1) ++ ([("word" : Str), ("mov" : Str), ("a:b" : Str)] : List Str)
theorem fmO_of {n : Nat} {op fm : Str} (h : opsT[n]? = some (op, fm)) : fmO op = some (n, fm) := by
  have hn : n < 38 := (List.getElem?_eq_some_iff.mp h).1
  have k : ∀ n, n < 38 → (match opsT[n]? with | some p => decide (fmO p.1 = some (n, p.2)) | none => true) = true := by decide +kernel
  have := k n hn
  rw [h] at this
  exact of_decide_eq_true this
theorem may_fm : ∀ p ∈ opsT, mayN p.1 = true → p.2 = "dj" ∨ p.2 = "ssi" := by decide +kernel
theorem cut_r (x : Int) : cutS (("r" : Str) ++ dcT x) (some 1) none = dcT x := by
  apply ext_tl
  rw [tl_cut1, tl_append, tl_r]
  rfl
theorem e_r : ("r" : Str) = SS [114] := by decide +kernel
theorem val_op {c : Nat} {x : Int} (h : x.natAbs < 4294967296) (hb : inB c x = true) : valT c (opT c x) = some x := by
  unfold valT opT
  by_cases e : c = 100 ∨ c = 115
  · rw [if_pos e, if_pos e, if_pos (by rw [e_r, starts1]; exact decide_eq_true (by rw [← e_r, tl_append, tl_r]; rfl)), cut_r, numT_dc h]
    simp [Option.filter, hb]
  · rw [if_neg e, if_neg e, numT_dc h]
    simp [Option.filter, hb]
theorem inB_r {c : Nat} (hc : c = 100 ∨ c = 115) {x : Int} (h : R16 x) : inB c x = true ∧ x.natAbs < 4294967296 := by
  have e : bnd c = (0, 15) := if_pos hc
  unfold inB
  rw [e]
  unfold R16 at h
  exact ⟨by simp; omega, by omega⟩
theorem inB_i {x : Int} (h : -8192 ≤ x ∧ x ≤ 8191) : inB 105 x = true ∧ x.natAbs < 4294967296 := by
  have e : bnd 105 = (-8192, 8191) := rfl
  unfold inB
  rw [e]
  exact ⟨by simp; omega, by omega⟩
theorem inB_j {x : Int} (h : -131072 ≤ x ∧ x ≤ 131071) : inB 106 x = true ∧ x.natAbs < 4294967296 := by
  have e : bnd 106 = (-131072, 131071) := rfl
  unfold inB
  rw [e]
  exact ⟨by simp; omega, by omega⟩
theorem inB_u {x : Int} (h : 0 ≤ x ∧ x < 262144) : inB 117 x = true ∧ x.natAbs < 4294967296 := by
  have e : bnd 117 = (0, 262143) := rfl
  unfold inB
  rw [e]
  exact ⟨by simp; omega, by omega⟩
theorem vals_op {fm : Str} {xs : List Int} (h : Fits fm xs) : valsL fm (opsTx fm xs) = xs.map some := by
  have v : ∀ {c : Nat} {x : Int}, inB c x = true ∧ x.natAbs < 4294967296 → valT c (opT c x) = some x := fun h => val_op h.2 h.1
  cases h with
  | dss ha hb hc =>
    rename_i a b c
    show [valT 100 (opT 100 a), valT 115 (opT 115 b), valT 115 (opT 115 c)] = _
    rw [v (inB_r (.inl rfl) ha), v (inB_r (.inr rfl) hb), v (inB_r (.inr rfl) hc)]
    rfl
  | dsi ha hb hc =>
    rename_i a b c
    show [valT 100 (opT 100 a), valT 115 (opT 115 b), valT 105 (opT 105 c)] = _
    rw [v (inB_r (.inl rfl) ha), v (inB_r (.inr rfl) hb), v (inB_i hc)]
    rfl
  | ssi ha hb hc =>
    rename_i a b c
    show [valT 115 (opT 115 a), valT 115 (opT 115 b), valT 105 (opT 105 c)] = _
    rw [v (inB_r (.inr rfl) ha), v (inB_r (.inr rfl) hb), v (inB_i hc)]
    rfl
  | du ha hc =>
    rename_i a c
    show [valT 100 (opT 100 a), valT 117 (opT 117 c)] = _
    rw [v (inB_r (.inl rfl) ha), v (inB_u hc)]
    rfl
  | dj ha hc =>
    rename_i a c
    show [valT 100 (opT 100 a), valT 106 (opT 106 c)] = _
    rw [v (inB_r (.inl rfl) ha), v (inB_j hc)]
    rfl
  | d ha =>
    rename_i a
    show [valT 100 (opT 100 a)] = _
    rw [v (inB_r (.inl rfl) ha)]
    rfl
  | s ha =>
    rename_i a
    show [valT 115 (opT 115 a)] = _
    rw [v (inB_r (.inr rfl) ha)]
    rfl
theorem some_all (xs : List Int) : none ∉ xs.map some ∧ (xs.map some).filterMap id = xs := by
  induction xs with
  | nil => exact ⟨by simp, rfl⟩
  | cons x r ih => exact ⟨by simp, by rw [List.map_cons, List.filterMap_cons]; simp⟩
theorem tx_tok {fm : Str} {xs : List Int} (h : Fits fm xs) : opsTx fm xs ≠ [] ∧ (opsTx fm xs).length ≤ 3 ∧ (opsTx fm xs).length = fm.cps.size ∧ ∀ t ∈ opsTx fm xs, TokOk t := by
  obtain ⟨fl, f3, fb⟩ := h.len
  have zl : (opsTx fm xs).length = xs.length := by unfold opsTx; rw [List.length_map, List.length_zip]; simp only [Array.length_toList, fl, Nat.min_self]
  refine ⟨fun z => ?_, by omega, by omega, fun t ht => ?_⟩
  · rw [z] at zl
    cases h <;> simp at zl
  · unfold opsTx at ht
    obtain ⟨p, hp, rfl⟩ := List.mem_map.mp ht
    have := fb p.2 (List.of_mem_zip hp).2
    exact tok_op p.1 (by omega)
theorem word_of_vals {op s : Str} {ts : List Str} {n : Nat} {fm : Str} {lk : Str → Option Int} {place : Int} {xs : List Int} (hop : opsT[n]? = some (op, fm)) (hs : s ∈ commas) (hne : ts ≠ []) (ht : ∀ t ∈ ts, TokOk t) (hl : ts.length = fm.cps.size) (hx : fixL op ts lk place = opsTx fm xs) (hf : Fits fm xs) :
    wordL (codeM op s ts) lk place = some (encW n fm xs) := by
  have hm := List.mem_of_getElem? hop
  have ho := op_ok hm
  have hnw := (tok_ops _ hm).2.2
  unfold wordL
  rw [(code_op ho).1, code_ops ho hs hne ht, if_neg hnw, fmO_of hop]
  simp only
  rw [if_neg (fun z => z hl), hx, vals_op hf, if_neg (some_all xs).1, (some_all xs).2]
theorem last_no {fm : Str} {xs : List Int} (h : Fits fm xs) : ∀ o, (opsTx fm xs).getLast? = some o → o ∉ atNs := fun o ho hm => by
  have := List.mem_of_getLast? ho
  unfold opsTx at this
  obtain ⟨p, hp, rfl⟩ := List.mem_map.mp this
  have h97 : ∀ z ∈ atNs, (tl z).head? = some 97 := by decide +kernel
  have := h97 _ hm
  unfold opT at this
  split at this
  · rw [tl_append, tl_r] at this
    simp at this
  · have := dc_ch p.2 97 (List.mem_of_head? this)
    omega
def Keys (lk : Str → Option Int) : Prop := ∀ z, lk z ≠ none → z ∈ atNs
theorem fix_no {op : Str} {os : List Str} {lk : Str → Option Int} {place : Int} (hk : Keys lk) (h : ∀ o, os.getLast? = some o → o ∉ atNs) : fixL op os lk place = os := by
  unfold fixL
  split
  · cases e : os.getLast? with
    | none => rfl
    | some o =>
      have : lk o = none := by
        cases e2 : lk o with
        | none => rfl
        | some c => exact absurd (hk o (by rw [e2]; simp)) (h o e)
      rw [Option.bind_some, this]
  · rfl
/-- a line with all its operands written -/
theorem word_full {op fm s : Str} {n : Nat} {xs : List Int} {lk : Str → Option Int} {place : Int} (hi : Ins n op fm xs) (hs : s ∈ commas) (hk : Keys lk) : wordL (codeM op s (opsTx fm xs)) lk place = some (encW n fm xs) := by
  obtain ⟨h1, h2, h3, h4⟩ := tx_tok hi.fits
  exact word_of_vals hi.at_ hs h1 h4 h3 (fix_no hk (last_no hi.fits)) hi.fits
theorem word_lab {op fm s : Str} {n j : Nat} {xs : List Int} {lk : Str → Option Int} {place c : Int} (hi : Ins n op fm xs) (hs : s ∈ commas) (hm : mayN op = true) (hj : j < 3) (hc : lk (atN j) = some c) (hb : -8192 ≤ c - place ∧ c - place ≤ 8191) :
    ∃ w', wordL (codeM op s ((opsTx fm xs).dropLast ++ [atN j])) lk place = some w' ∧ ((xs.getLast? = some (c - place)) → w' = encW n fm xs) := by
  have hfm := may_fm _ (List.mem_of_getElem? hi.at_) hm
  simp only at hfm
  have key : ∀ ys : List Int, Fits fm ys → opsTx fm ys = (opsTx fm xs).dropLast ++ [dcT (c - place)] → wordL (codeM op s ((opsTx fm xs).dropLast ++ [atN j])) lk place = some (encW n fm ys) := fun ys hf e => by
    obtain ⟨h1, h2, h3, h4⟩ := tx_tok hi.fits
    have hln : ((opsTx fm xs).dropLast ++ [atN j]).length = fm.cps.size := by
      rw [← h3, List.length_append, List.length_dropLast]
      have := List.length_pos_iff.mpr h1
      simp
      omega
    refine word_of_vals hi.at_ hs (by simp) (fun t ht => ?_) hln ?_ hf
    · rcases List.mem_append.mp ht with h | h
      · exact h4 t (List.dropLast_subset _ h)
      · rw [List.mem_singleton.mp h]; exact tok_at j hj
    · unfold fixL
      rw [hm, if_pos rfl, List.getLast?_concat, Option.bind_some, hc]
      simp only
      rw [List.dropLast_concat, e]
  have hft := hi.fits
  rcases hfm with rfl | rfl
  · cases hft with
    | dj ha hx =>
      rename_i a x
      refine ⟨_, key [a, c - place] (.dj ha ⟨by omega, by omega⟩) rfl, fun e => ?_⟩
      have : x = c - place := Option.some.inj e
      rw [this]
  · cases hft with
    | ssi ha hb' hx =>
      rename_i a b x
      refine ⟨_, key [a, b, c - place] (.ssi ha hb' hb) rfl, fun e => ?_⟩
      have : x = c - place := Option.some.inj e
      rw [this]
theorem ok_word : OpOk ("word" : Str) := ⟨by decide +kernel, by decide +kernel, by decide +kernel⟩
theorem word_word {w : Int} {lk : Str → Option Int} {place : Int} (h0 : 0 ≤ w) (h1 : w < 4294967296) : wordL (codeM ("word" : Str) ("," : Str) [dcT w]) lk place = some w := by
  have hb : w.natAbs < 4294967296 := by omega
  unfold wordL
  rw [(code_op ok_word).1, code_ops ok_word (by decide +kernel) (by simp) (fun t ht => by rw [List.mem_singleton.mp ht]; exact tok_dc hb), if_pos rfl, if_pos (show [dcT w].length = 1 from rfl)]
  show (numT (dcT w)).filter isW = some w
  rw [numT_dc hb]
  have : isW w = true := by unfold isW; simp; omega
  simp [Option.filter, this]
theorem word_strip {w : Int} (h0 : 0 ≤ w) (h1 : w < 4294967296) : Txt.stripChars ((" word " : Str) ++ dcT w) (" " : Str) = codeM ("word" : Str) ("," : Str) [dcT w] ∧ 10 ∉ tl ((" word " : Str) ++ dcT w) ∧ ((" word " : Str) ++ dcT w).length ≤ 60 := by
  have hb : w.natAbs < 4294967296 := by omega
  have T := tok_dc hb
  have ht : ∀ t ∈ [dcT w], TokOk t := fun t ht => by rw [List.mem_singleton.mp ht]; exact T
  have e0 : tl (" word " : Str) = [32, 119, 111, 114, 100, 32] := by decide +kernel
  have e1 : tl ("word" : Str) = [119, 111, 114, 100] := by decide +kernel
  refine ⟨?_, fun z => ?_, ?_⟩
  · apply ext_tl
    rw [tl_strip]
    have e : tl ((" word " : Str) ++ dcT w) = [32] ++ (tl (codeM ("word" : Str) ("," : Str) [dcT w]) ++ []) := by
      rw [codeM_tl, tl_append, e0, e1]
      simp [joinL]
    rw [e]
    exact trim_of (by decide) (fun c h => by cases h) (codeM_ne ok_word) (fun c hc => (codeM_head ok_word c hc).1) (fun c hc => (codeM_last (by simp) ht c hc).1)
  · rw [tl_append, e0] at z
    rcases List.mem_append.mp z with z | z
    · simp at z
    · have := T.ch 10 z; omega
  · rw [cat_len]
    have := T.le
    have e : (" word " : Str).length = 6 := by decide +kernel
    omega
/-! ### lines that are wrong -/
theorem word_keys {t : Str} {lk : Str → Option Int} {place : Int} (hk : Keys lk) (h : ∀ o, (opnds t).getLast? = some o → o ∉ atNs) : wordL t lk place = wordL t (fun _ => none) 0 := by
  unfold wordL
  rw [fix_no hk h, fix_no (lk := fun _ => none) (place := 0) (fun z hz => absurd rfl hz) h]
def badF (b : Str) : Bool :=
  let t := Txt.stripChars b (" " : Str)
  !silS t && (if labS t = true then !nameOk (nmT t) else (decide (opT0 t ∈ known) && (match (opnds t).getLast? with | some o => decide (o ∉ atNs) | none => true) && decide (wordL t (fun _ => none) 0 = none))) && decide (10 ∉ tl b) && decide (b.length ≤ 60)
theorem bads_ok : ∀ b ∈ bads, badF b = true := by decide +kernel
end K05


open PySem.W
namespace K05
open TL
inductive It
  | sil
  | lab (j : Nat)
  | code (w : Int)
  | badL
  | badC
def It.cd : It → Bool
  | .code _ => true
  | .badC => true
  | _ => false
def It.bad : It → Bool
  | .badL => true
  | .badC => true
  | _ => false
def It.wd : It → Option Int
  | .code w => some w
  | _ => none
def cnt (Is : List It) : Nat := (Is.filter It.cd).length
theorem cnt_snoc (Is : List It) (it : It) : cnt (Is ++ [it]) = cnt Is + if it.cd = true then 1 else 0 := by
  unfold cnt
  rw [List.filter_append, List.length_append]
  cases h : it.cd <;> simp [List.filter_cons, h]
theorem cnt_le (Is : List It) : cnt Is ≤ Is.length := List.length_filter_le _ _
def Labs (lk : Str → Option Int) : Prop := ∀ j, j < 3 → ∃ c : Nat, lk (atN j) = some (c : Int) ∧ c ≤ 1000
/-- what a line of code is, as the k-th word, where the labels stand at lb -/
structure LineC (lb : Nat → Nat) (k : Nat) (w : Int) (t : Str) : Prop where
  s : silS t = false
  l : labS t = false
  o : opT0 t ∈ known
  w : ∀ lk, Keys lk → Labs lk → ∀ place : Nat, place ≤ 1000 → ∃ w', wordL t lk place = some w' ∧ ((∀ j, j < 3 → lk (atN j) = some (lb j : Int)) → place = k → w' = w)
def MatchL (lb : Nat → Nat) (k : Nat) : It → Str → Prop
  | .sil, t => silS t = true
  | .lab j, t => j < 3 ∧ t = atC j
  | .code w, t => LineC lb k w t
  | .badL, t => silS t = false ∧ labS t = true ∧ nameOk (nmT t) = false
  | .badC, t => silS t = false ∧ labS t = false ∧ opT0 t ∈ known ∧ ∀ lk, Keys lk → ∀ place : Int, wordL t lk place = none
structure MA (lb : Nat → Nat) (Is : List It) (ts : List Str) : Prop where
  len : ts.length = Is.length
  m : ∀ (i : Nat) (it : It) (t : Str), Is[i]? = some it → ts[i]? = some t → ∃ k, MatchL lb k it t
theorem fnd_app (L : List Lab) (e : Lab) (z : Str) : fndL (L ++ [e]) z = match fndL L z with
    | some x => some x
    | none => if e.1 = z then some e else none := by
  unfold fndL
  rw [List.find?_append]
  cases List.find? (fun e => e.1 == z) L with
  | some x => rfl
  | none =>
    by_cases h : e.1 = z
    · simp [List.find?_cons, h]
    · simp [List.find?_cons, h]
theorem fnd_key {L : List Lab} {z : Str} {e : Lab} (h : fndL L z = some e) : e.1 = z := by
  have := List.find?_some h
  simpa using this
structure Tab (Is : List It) (ts : List Str) (k : Nat) : Prop where
  n : (fst_ ts k).1 = cnt (Is.take k)
  a : ∀ (z : Str) (e : Lab), fndL (fst_ ts k).2 z = some e → ∃ j, j < 3 ∧ z = atN j ∧ Is[e.2.1]? = some (It.lab j) ∧ e.2.1 < k ∧ e.2.2 = cnt (Is.take e.2.1)
  b : ∀ (i j : Nat), i < k → Is[i]? = some (It.lab j) → fndL (fst_ ts k).2 (atN j) ≠ none
theorem tab {lb : Nat → Nat} {Is : List It} {ts : List Str} (M : MA lb Is ts) : ∀ k, k ≤ Is.length → Tab Is ts k
  | 0, _ => ⟨rfl, fun z e h => (by cases h), fun i j h => absurd h (Nat.not_lt_zero _)⟩
  | k + 1, hk => by
    obtain ⟨hn, ha, hb⟩ := tab M k (by omega)
    obtain ⟨it, hit⟩ : ∃ it, Is[k]? = some it := ⟨_, List.getElem?_eq_getElem (by omega)⟩
    obtain ⟨t, ht⟩ : ∃ t, ts[k]? = some t := ⟨_, List.getElem?_eq_getElem (by rw [M.len]; omega)⟩
    obtain ⟨p, hm⟩ := M.m k it t hit ht
    have st : fst_ ts (k + 1) = stepF k (fst_ ts k) t := by
      show (match ts[k]? with | some t => stepF k (fst_ ts k) t | none => fst_ ts k) = _
      rw [ht]
    have tk : Is.take (k + 1) = Is.take k ++ [it] := take_more hit
    have ec := cnt_snoc (Is.take k) it
    rw [← tk] at ec
    have keep : (fst_ ts (k + 1)).2 = (fst_ ts k).2 → (fst_ ts (k + 1)).1 = cnt (Is.take (k + 1)) → (∀ j, it = .lab j → fndL (fst_ ts k).2 (atN j) ≠ none) → Tab Is ts (k + 1) := fun e1 e2 e3 => by
      refine ⟨e2, fun z e h => ?_, fun i j hi h => ?_⟩
      · rw [e1] at h
        obtain ⟨j, h1, h2, h3, h4, h5⟩ := ha z e h
        exact ⟨j, h1, h2, h3, by omega, h5⟩
      · rw [e1]
        rcases Nat.lt_succ_iff_lt_or_eq.mp hi with z | z
        · exact hb i j z h
        · subst z
          rw [hit] at h
          exact e3 j (Option.some.inj h)
    cases it with
    | sil =>
      have e1 : stepF k (fst_ ts k) t = fst_ ts k := if_pos hm
      rw [e1] at st
      exact keep (by rw [st]) (by rw [st, hn, ec]; rfl) (fun j h => by cases h)
    | code w =>
      have e1 : stepF k (fst_ ts k) t = ((fst_ ts k).1 + 1, (fst_ ts k).2) := (if_neg (by rw [hm.s]; decide)).trans (if_pos hm.l)
      rw [e1] at st
      exact keep (by rw [st]) (by rw [st, ec]; show (fst_ ts k).1 + 1 = _; rw [hn]; rfl) (fun j h => by cases h)
    | badC =>
      have e1 : stepF k (fst_ ts k) t = ((fst_ ts k).1 + 1, (fst_ ts k).2) := (if_neg (by rw [hm.1]; decide)).trans (if_pos hm.2.1)
      rw [e1] at st
      exact keep (by rw [st]) (by rw [st, ec]; show (fst_ ts k).1 + 1 = _; rw [hn]; rfl) (fun j h => by cases h)
    | badL =>
      have e1 : stepF k (fst_ ts k) t = fst_ ts k := (if_neg (by rw [hm.1]; decide)).trans ((if_neg (by rw [hm.2.1]; decide)).trans (if_neg (fun z => by rw [hm.2.2] at z; cases z.1)))
      rw [e1] at st
      exact keep (by rw [st]) (by rw [st, hn, ec]; rfl) (fun j h => by cases h)
    | lab j =>
      obtain ⟨hj, rfl⟩ := hm
      obtain ⟨f1, f2, f3, f4, f5⟩ := at_facts j hj
      by_cases hz : fndL (fst_ ts k).2 (atN j) = none
      · have e1 : stepF k (fst_ ts k) (atC j) = ((fst_ ts k).1, (fst_ ts k).2 ++ [(atN j, k, (fst_ ts k).1)]) := (if_neg (by rw [f1]; decide)).trans ((if_neg (by rw [f2]; decide)).trans (by rw [f3]; exact if_pos ⟨f4, hz⟩))
        rw [e1] at st
        refine ⟨by rw [st, ec]; exact hn, fun z e h => ?_, fun i j' hi h => ?_⟩
        · rw [st] at h
          simp only [fnd_app] at h
          cases e2 : fndL (fst_ ts k).2 z with
          | some x =>
            rw [e2] at h
            cases h
            obtain ⟨j', h1, h2, h3, h4, h5⟩ := ha z e e2
            exact ⟨j', h1, h2, h3, by omega, h5⟩
          | none =>
            rw [e2] at h
            simp only at h
            split at h
            · rename_i e3
              cases h
              exact ⟨j, hj, e3.symm, hit, Nat.lt_succ_self _, hn⟩
            · cases h
        · rw [st]
          simp only [fnd_app]
          rcases Nat.lt_succ_iff_lt_or_eq.mp hi with z | z
          · have := hb i j' z h
            cases e2 : fndL (fst_ ts k).2 (atN j') with
            | some x => simp
            | none => exact absurd e2 this
          · subst z
            rw [hit] at h
            cases h
            rw [hz]
            simp
      · have e1 : stepF k (fst_ ts k) (atC j) = fst_ ts k := (if_neg (by rw [f1]; decide)).trans ((if_neg (by rw [f2]; decide)).trans (by rw [f3]; exact if_neg (fun z => hz z.2)))
        rw [e1] at st
        exact keep (by rw [st]) (by rw [st, hn, ec]; rfl) (fun j' h => by cases h; exact hz)
/-- each label stands in one line -/
structure Uq (Is : List It) : Prop where
  u : ∀ (i i' j : Nat), Is[i]? = some (It.lab j) → Is[i']? = some (It.lab j) → i = i'
  all : ∀ j, j < 3 → ∃ i : Nat, Is[i]? = some (It.lab j)
section
variable {lb : Nat → Nat} {Is : List It} {ts : List Str}
theorem tab_keys (M : MA lb Is ts) : Keys (lkL (fst_ ts ts.length).2) := fun z h => by
  have T := tab M ts.length (Nat.le_of_eq M.len)
  cases e : fndL (fst_ ts ts.length).2 z with
  | none => exact absurd (by unfold lkL; rw [e]; rfl) h
  | some x =>
    obtain ⟨j, h1, h2, _⟩ := T.a z x e
    rw [h2]
    exact at_mem h1
theorem tab_at (M : MA lb Is ts) (U : Uq Is) {i j : Nat} (h : Is[i]? = some (It.lab j)) (hj : j < 3) : ∃ e, fndL (fst_ ts ts.length).2 (atN j) = some e ∧ e.2.1 = i ∧ e.2.2 = cnt (Is.take i) := by
  have T := tab M ts.length (Nat.le_of_eq M.len)
  have hi : i < ts.length := by rw [M.len]; exact (List.getElem?_eq_some_iff.mp h).1
  cases e : fndL (fst_ ts ts.length).2 (atN j) with
  | none => exact absurd e (T.b i j hi h)
  | some x =>
    obtain ⟨j', h1, h2, h3, h4, h5⟩ := T.a _ x e
    have := at_inj j hj j' h1 h2
    subst this
    have ei := U.u _ _ _ h3 h
    exact ⟨x, rfl, ei, by rw [h5, ei]⟩
theorem tab_labs (M : MA lb Is ts) (U : Uq Is) (hl : Is.length ≤ 900) : Labs (lkL (fst_ ts ts.length).2) := fun j hj => by
  obtain ⟨i, hi⟩ := U.all j hj
  obtain ⟨e, h1, h2, h3⟩ := tab_at M U hi hj
  refine ⟨e.2.2, by unfold lkL; rw [h1]; rfl, ?_⟩
  rw [h3]
  have := cnt_le (Is.take i)
  rw [List.length_take] at this
  omega
theorem lab_ok {L : List Lab} {k j : Nat} {ws : List Int} {e : Lab} (hj : j < 3) (h : fndL L (atN j) = some e) (hk : e.2.1 = k) : stepA L k ws (atC j) = .ok ws := by
  obtain ⟨f1, f2, f3, f4, f5⟩ := at_facts j hj
  unfold stepA
  rw [if_neg (by rw [f1]; decide), if_pos f2, f3, h]
  exact if_pos hk
def NoBad (Is : List It) (b : Nat) : Prop := ∀ (i : Nat) (it : It), i < b → Is[i]? = some it → it.bad = false
theorem ast_step {L : List Lab} {k : Nat} {ws : List Int} {t : Str} (h : ast_ L ts k = .ok ws) (ht : ts[k]? = some t) : ast_ L ts (k + 1) = stepA L k ws t := by
  show (match ast_ L ts k with
    | .err n => AsR.err n
    | .ok ws => match ts[k]? with
      | some t => stepA L k ws t
      | none => .ok ws) = _
  rw [h, ht]
/-- up to a wrong line nothing is wrong -/
theorem ast_some (M : MA lb Is ts) (U : Uq Is) (hl : Is.length ≤ 900) {b : Nat} (hb : b ≤ Is.length) (N : NoBad Is b) : ∀ k, k ≤ b → ∃ ws, ast_ (fst_ ts ts.length).2 ts k = .ok ws
  | 0, _ => ⟨[], rfl⟩
  | k + 1, hk => by
    obtain ⟨ws, hw⟩ := ast_some M U hl hb N k (by omega)
    obtain ⟨it, hit⟩ : ∃ it, Is[k]? = some it := ⟨_, List.getElem?_eq_getElem (by omega)⟩
    obtain ⟨t, ht⟩ : ∃ t, ts[k]? = some t := ⟨_, List.getElem?_eq_getElem (by rw [M.len]; omega)⟩
    obtain ⟨p, hm⟩ := M.m k it t hit ht
    have nb := N k it (by omega) hit
    rw [ast_step hw ht]
    cases it with
    | sil => exact ⟨ws, if_pos hm⟩
    | badL => cases nb
    | badC => cases nb
    | lab j =>
      obtain ⟨hj, rfl⟩ := hm
      obtain ⟨e, h1, h2, _⟩ := tab_at M U hit hj
      exact ⟨ws, lab_ok hj h1 h2⟩
    | code w =>
      have hle := ast_len hw
      obtain ⟨w', h1, _⟩ := hm.w _ (tab_keys M) (tab_labs M U hl) ws.length (by omega)
      refine ⟨ws ++ [w'], ?_⟩
      unfold stepA
      rw [if_neg (by rw [hm.s]; decide), if_neg (by rw [hm.l]; decide), h1]
theorem asm_err (M : MA lb Is ts) (U : Uq Is) (hl : Is.length ≤ 900) {b : Nat} (N : NoBad Is b) (hb : Is[b]? = some It.badL ∨ Is[b]? = some It.badC) : ast_ (fst_ ts ts.length).2 ts ts.length = .err (b + 1) := by
  have hbl : b < Is.length := by rcases hb with h | h <;> exact (List.getElem?_eq_some_iff.mp h).1
  obtain ⟨ws, hw⟩ := ast_some M U hl (Nat.le_of_lt hbl) N b (Nat.le_refl _)
  obtain ⟨t, ht⟩ : ∃ t, ts[b]? = some t := ⟨_, List.getElem?_eq_getElem (by rw [M.len]; omega)⟩
  refine ast_err (k := b + 1) ?_ (by rw [M.len]; omega)
  rw [ast_step hw ht]
  rcases hb with hb | hb
  · obtain ⟨p, h1, h2, h3⟩ := M.m b _ t hb ht
    unfold stepA
    rw [if_neg (by rw [h1]; decide), if_pos h2]
    cases e : fndL (fst_ ts ts.length).2 (nmT t) with
    | none => rfl
    | some x =>
      obtain ⟨j, j1, j2, _⟩ := (tab M ts.length (Nat.le_of_eq M.len)).a _ x e
      rw [j2, (at_facts j j1).2.2.2.1] at h3
      cases h3
  · obtain ⟨p, h1, h2, h3, h4⟩ := M.m b _ t hb ht
    unfold stepA
    rw [if_neg (by rw [h1]; decide), if_neg (by rw [h2]; decide), h4 _ (tab_keys M)]
/-- the words of lines without a wrong one -/
theorem asm_ok (M : MA lb Is ts) (U : Uq Is) (hl : Is.length ≤ 900) (N : NoBad Is Is.length) (G : ∀ (i : Nat) (w : Int) (t : Str), Is[i]? = some (It.code w) → ts[i]? = some t → LineC lb (cnt (Is.take i)) w t) (P : ∀ (i j : Nat), Is[i]? = some (It.lab j) → cnt (Is.take i) = lb j) :
    ∀ k, k ≤ Is.length → ast_ (fst_ ts ts.length).2 ts k = .ok ((Is.take k).filterMap It.wd) ∧ ((Is.take k).filterMap It.wd).length = cnt (Is.take k)
  | 0, _ => ⟨rfl, rfl⟩
  | k + 1, hk => by
    obtain ⟨hw, hc⟩ := asm_ok M U hl N G P k (by omega)
    obtain ⟨it, hit⟩ : ∃ it, Is[k]? = some it := ⟨_, List.getElem?_eq_getElem (by omega)⟩
    obtain ⟨t, ht⟩ : ∃ t, ts[k]? = some t := ⟨_, List.getElem?_eq_getElem (by rw [M.len]; omega)⟩
    obtain ⟨p, hm⟩ := M.m k it t hit ht
    have nb := N k it (by omega) hit
    have tk : Is.take (k + 1) = Is.take k ++ [it] := take_more hit
    rw [ast_step hw ht, tk, List.filterMap_append, cnt_snoc, List.length_append, hc]
    cases it with
    | sil => exact ⟨by rw [show stepA _ k _ t = _ from if_pos hm]; simp [It.wd], rfl⟩
    | badL => cases nb
    | badC => cases nb
    | lab j =>
      obtain ⟨hj, rfl⟩ := hm
      obtain ⟨e, h1, h2, _⟩ := tab_at M U hit hj
      exact ⟨by rw [lab_ok hj h1 h2]; simp [It.wd], rfl⟩
    | code w =>
      have g := G k w t hit ht
      have hle : cnt (Is.take k) ≤ 900 := by
        have := cnt_le (Is.take k)
        rw [List.length_take] at this
        omega
      obtain ⟨w', h1, h2⟩ := g.w _ (tab_keys M) (tab_labs M U hl) ((Is.take k).filterMap It.wd).length (by omega)
      have ew : w' = w := h2 (fun j hj => by
        obtain ⟨i, hi⟩ := U.all j hj
        obtain ⟨e, e1, e2, e3⟩ := tab_at M U hi hj
        unfold lkL
        rw [e1, Option.map_some, e3, P i j hi]) hc
      subst ew
      refine ⟨?_, rfl⟩
      unfold stepA
      rw [if_neg (by rw [g.s]; decide), if_neg (by rw [g.l]; decide), h1]
      rfl
end
end K05


open PySem.W
namespace K05
open TL
theorem sc_law : FnScope ["script", "draw", "rows", "labels", "lines", "words", "k", "j", "row", "label", "comma", "at", "bad", "error"] ["script"] (defScope s_law) := ⟨rfl, rfl, rfl, by decide +kernel, rfl, by decide +kernel, by decide +kernel⟩
local macro_rules | `(tactic| walk_at "w1") => `(tactic| first
  | (with_reducible refine w_callS ?_)
  | (with_reducible refine w_lineAs ?_)
  | (with_reducible refine w_m1 ?_)
  | (with_reducible refine w_isS ?_))
/-! ### lines that are joined -/
structure LnOk (lb : Nat → Nat) (k : Nat) (it : It) (l : Str) : Prop where
  nl : 10 ∉ tl l
  le : l.length ≤ 60
  m : MatchL lb k it (Txt.stripChars l (" " : Str))
structure Built (lb : Nat → Nat) (Ls : List Str) (Is : List It) : Prop where
  len : Ls.length = Is.length
  ln : ∀ (i : Nat) (it : It) (l : Str), Is[i]? = some it → Ls[i]? = some l → LnOk lb (cnt (Is.take i)) it l
theorem Built.snoc {lb : Nat → Nat} {Ls : List Str} {Is : List It} {l : Str} {it : It} (B : Built lb Ls Is) (h : LnOk lb (cnt Is) it l) : Built lb (Ls ++ [l]) (Is ++ [it]) := by
  refine ⟨by rw [List.length_append, List.length_append, B.len]; rfl, fun i it' l' h1 h2 => ?_⟩
  rcases Nat.lt_trichotomy i Is.length with hi | hi | hi
  · rw [List.getElem?_append_left hi] at h1
    rw [List.getElem?_append_left (by rw [B.len]; exact hi)] at h2
    rw [List.take_append_of_le_length (Nat.le_of_lt hi)]
    exact B.ln i it' l' h1 h2
  · rw [hi, List.getElem?_concat_length] at h1
    rw [hi, ← B.len, List.getElem?_concat_length] at h2
    cases h1; cases h2
    rw [hi, List.take_left]
    exact h
  · rw [List.getElem?_eq_none (by rw [List.length_append]; simp; omega)] at h1
    cases h1
theorem tl_nl : tl ("\n" : Str) = [10] := by decide +kernel
theorem ts_join {Ls : List Str} (hne : Ls ≠ []) (h : ∀ l ∈ Ls, 10 ∉ tl l) : tsOf (Txt.join ("\n" : Str) Ls) = Ls.map fun l => Txt.stripChars l (" " : Str) := by
  unfold tsOf
  rw [split_join (s := 10) (S := []) tl_nl (by decide +kernel) hne h]
theorem join_small {Ls : List Str} (h : ∀ l ∈ Ls, l.length ≤ 60) (hl : Ls.length ≤ 100) : (Txt.join ("\n" : Str) Ls).length ≤ 9000 ∧ (Ls.map (·.length)).sum + Ls.length * ("\n" : Str).length ≤ 9000 := by
  have hj := join_len ("\n" : Str) Ls
  have e : ("\n" : Str).length = 1 := by decide +kernel
  have hs : ∀ l : List Str, (∀ t ∈ l, t.length ≤ 60) → (l.map (·.length)).sum ≤ 60 * l.length := by
    intro l
    induction l with
    | nil => intro _; simp
    | cons y r ih =>
      intro h
      have := ih fun z hz => h z (List.mem_cons_of_mem _ hz)
      have := h y List.mem_cons_self
      simp only [List.map_cons, List.sum_cons, List.length_cons]
      omega
  have := hs Ls h
  rw [e] at hj ⊢
  exact ⟨by omega, by omega⟩
structure LI (lb : Nat → Nat) (Is : List It) (done : Nat → Prop) : Prop where
  u : ∀ (i i' j : Nat), Is[i]? = some (It.lab j) → Is[i']? = some (It.lab j) → i = i'
  p : ∀ (i j : Nat), Is[i]? = some (It.lab j) → j < 3 ∧ done j ∧ cnt (Is.take i) = lb j
  d : ∀ j, j < 3 → done j → ∃ i : Nat, Is[i]? = some (It.lab j)
  nb : ∀ it ∈ Is, it.bad = false
theorem LI.mono {lb : Nat → Nat} {Is : List It} {d d' : Nat → Prop} (h : LI lb Is d) (e : ∀ j, j < 3 → (d j ↔ d' j)) : LI lb Is d' :=
  ⟨h.u, fun i j hi => ⟨(h.p i j hi).1, (e j (h.p i j hi).1).mp (h.p i j hi).2.1, (h.p i j hi).2.2⟩, fun j hj hd => h.d j hj ((e j hj).mpr hd), h.nb⟩
theorem get_snoc {Is : List It} {it it' : It} {i : Nat} (h : (Is ++ [it])[i]? = some it') : Is[i]? = some it' ∨ (i = Is.length ∧ it' = it) := by
  rcases Nat.lt_trichotomy i Is.length with hi | hi | hi
  · rw [List.getElem?_append_left hi] at h; exact .inl h
  · rw [hi, List.getElem?_concat_length] at h
    exact .inr ⟨hi, (Option.some.inj h).symm⟩
  · rw [List.getElem?_eq_none (by rw [List.length_append]; simp; omega)] at h
    cases h
theorem get_lt {Is : List It} {it : It} {i : Nat} (h : Is[i]? = some it) : i < Is.length := (List.getElem?_eq_some_iff.mp h).1
theorem LI.snoc {lb : Nat → Nat} {Is : List It} {d : Nat → Prop} {it : It} (h : LI lb Is d) (hn : ∀ j, it ≠ .lab j) (hb : it.bad = false) : LI lb (Is ++ [it]) d := by
  have back : ∀ (i j : Nat), (Is ++ [it])[i]? = some (It.lab j) → Is[i]? = some (It.lab j) := fun i j hi => by
    rcases get_snoc hi with z | ⟨_, z⟩
    · exact z
    · exact absurd z.symm (hn j)
  refine ⟨fun i i' j h1 h2 => h.u i i' j (back _ _ h1) (back _ _ h2), fun i j h1 => ?_, fun j hj hd => ?_, fun x hx => ?_⟩
  · have := back _ _ h1
    rw [List.take_append_of_le_length (Nat.le_of_lt (get_lt this))]
    exact h.p i j this
  · obtain ⟨i, hi⟩ := h.d j hj hd
    exact ⟨i, by rw [List.getElem?_append_left (get_lt hi)]; exact hi⟩
  · rcases List.mem_append.mp hx with z | z
    · exact h.nb x z
    · rw [List.mem_singleton.mp z]; exact hb
theorem LI.lab {lb : Nat → Nat} {Is : List It} {d : Nat → Prop} {j : Nat} (h : LI lb Is d) (hj : j < 3) (hn : ¬ d j) (hc : cnt Is = lb j) : LI lb (Is ++ [.lab j]) (fun i => d i ∨ i = j) := by
  refine ⟨fun i i' j' h1 h2 => ?_, fun i j' h1 => ?_, fun j' hj' hd => ?_, fun x hx => ?_⟩
  · rcases get_snoc h1 with z1 | ⟨z1, e1⟩
    · rcases get_snoc h2 with z2 | ⟨z2, e2⟩
      · exact h.u i i' j' z1 z2
      · cases e2
        exact absurd (h.p i j z1).2.1 hn
    · rcases get_snoc h2 with z2 | ⟨z2, e2⟩
      · cases e1
        exact absurd (h.p i' j z2).2.1 hn
      · omega
  · rcases get_snoc h1 with z1 | ⟨z1, e1⟩
    · rw [List.take_append_of_le_length (Nat.le_of_lt (get_lt z1))]
      obtain ⟨a, b, c⟩ := h.p i j' z1
      exact ⟨a, .inl b, c⟩
    · cases e1
      rw [z1, List.take_left]
      exact ⟨hj, .inr rfl, hc⟩
  · rcases hd with hd | rfl
    · obtain ⟨i, hi⟩ := h.d j' hj' hd
      exact ⟨i, by rw [List.getElem?_append_left (get_lt hi)]; exact hi⟩
    · exact ⟨Is.length, List.getElem?_concat_length ..⟩
  · rcases List.mem_append.mp hx with z | z
    · exact h.nb x z
    · rw [List.mem_singleton.mp z]; rfl
theorem map_some {Ls : List Str} {i : Nat} {t : Str} (h : (Ls.map fun l => Txt.stripChars l (" " : Str))[i]? = some t) : ∃ l, Ls[i]? = some l ∧ t = Txt.stripChars l (" " : Str) := by
  rw [List.getElem?_map] at h
  obtain ⟨l, h1, h2⟩ := Option.map_eq_some_iff.mp h
  exact ⟨l, h1, h2.symm⟩
section
variable {lb : Nat → Nat} {Ls : List Str} {Is : List It}
theorem known_of {it : It} {k : Nat} {t : Str} (h : MatchL lb k it t) (h1 : silS t = false) (h2 : labS t = false) : opT0 t ∈ known := by
  cases it with
  | sil => rw [show silS t = true from h] at h1; cases h1
  | lab j => obtain ⟨hj, rfl⟩ := h; rw [(at_facts j hj).2.1] at h2; cases h2
  | code w => exact h.o
  | badL => rw [h.2.1] at h2; cases h2
  | badC => exact h.2.2.1
theorem Built.nl (B : Built lb Ls Is) : ∀ l ∈ Ls, 10 ∉ tl l ∧ l.length ≤ 60 := fun l hl => by
  obtain ⟨i, hi, e⟩ := List.getElem_of_mem hl
  have h2 : Ls[i]? = some l := by rw [List.getElem?_eq_getElem hi, e]
  obtain ⟨it, h1⟩ : ∃ it, Is[i]? = some it := ⟨_, List.getElem?_eq_getElem (by rw [← B.len]; exact hi)⟩
  exact ⟨(B.ln i _ l h1 h2).nl, (B.ln i _ l h1 h2).le⟩
theorem good (B : Built lb Ls Is) (L : LI lb Is fun _ => True) (hne : Ls ≠ []) (hl : Ls.length ≤ 100) : asmR (Txt.join ("\n" : Str) Ls) = .ok (Is.filterMap It.wd) := by
  have et := ts_join hne fun l h => (B.nl l h).1
  unfold asmR
  rw [et]
  have M : MA lb Is (Ls.map fun l => Txt.stripChars l (" " : Str)) := ⟨by rw [List.length_map, B.len], fun i it t h1 h2 => by
    obtain ⟨l, h3, rfl⟩ := map_some h2
    exact ⟨_, (B.ln i it l h1 h3).m⟩⟩
  have U : Uq Is := ⟨L.u, fun j hj => L.d j hj trivial⟩
  have := (asm_ok M U (by rw [← B.len]; omega) (fun i it _ h => L.nb it (List.mem_of_getElem? h)) (fun i w t h1 h2 => by
    obtain ⟨l, h3, rfl⟩ := map_some h2
    exact (B.ln i _ l h1 h3).m) (fun i j h => (L.p i j h).2.2) Is.length (Nat.le_refl _)).1
  rw [List.take_length] at this
  rw [List.length_map, B.len]
  rw [List.length_map, B.len] at this
  exact this
theorem get_ins {α : Type} {xs : List α} {x y : α} {n i : Nat} (hn : n ≤ xs.length) (h : (xs.take n ++ [x] ++ xs.drop n)[i]? = some y) : (i < n ∧ xs[i]? = some y) ∨ (i = n ∧ y = x) ∨ (n < i ∧ xs[i - 1]? = some y) := by
  have l1 : (xs.take n).length = n := by rw [List.length_take]; omega
  have l2 : (xs.take n ++ [x]).length = n + 1 := by rw [List.length_append, l1]; rfl
  rcases Nat.lt_trichotomy i n with hi | hi | hi
  · rw [List.getElem?_append_left (by rw [l2]; omega), List.getElem?_append_left (by rw [l1]; exact hi), List.getElem?_take_of_lt hi] at h
    exact .inl ⟨hi, h⟩
  · rw [List.getElem?_append_left (by rw [l2]; omega), List.getElem?_append_right (by rw [l1]; omega), l1, hi, Nat.sub_self] at h
    exact .inr (.inl ⟨hi, (Option.some.inj h).symm⟩)
  · rw [List.getElem?_append_right (by rw [l2]; omega), l2, List.getElem?_drop] at h
    exact .inr (.inr ⟨hi, by rw [show i - 1 = n + (i - (n + 1)) by omega]; exact h⟩)
theorem ins_lt {α : Type} {xs : List α} {x : α} {n i : Nat} (hn : n ≤ xs.length) (hi : i < n) : (xs.take n ++ [x] ++ xs.drop n)[i]? = xs[i]? := by
  have l1 : (xs.take n).length = n := by rw [List.length_take]; omega
  have l2 : (xs.take n ++ [x]).length = n + 1 := by rw [List.length_append, l1]; rfl
  rw [List.getElem?_append_left (by rw [l2]; omega), List.getElem?_append_left (by rw [l1]; exact hi), List.getElem?_take_of_lt hi]
theorem ins_at {α : Type} {xs : List α} {x : α} {n : Nat} (hn : n ≤ xs.length) : (xs.take n ++ [x] ++ xs.drop n)[n]? = some x := by
  have l1 : (xs.take n).length = n := by rw [List.length_take]; omega
  have l2 : (xs.take n ++ [x]).length = n + 1 := by rw [List.length_append, l1]; rfl
  rw [List.getElem?_append_left (by rw [l2]; omega), List.getElem?_append_right (by rw [l1]; omega), l1, Nat.sub_self]
  rfl
theorem ins_gt {α : Type} {xs : List α} {x : α} {n i : Nat} (hn : n ≤ xs.length) (hi : n ≤ i) : (xs.take n ++ [x] ++ xs.drop n)[i + 1]? = xs[i]? := by
  have l1 : (xs.take n).length = n := by rw [List.length_take]; omega
  have l2 : (xs.take n ++ [x]).length = n + 1 := by rw [List.length_append, l1]; rfl
  rw [List.getElem?_append_right (by rw [l2]; omega), l2, List.getElem?_drop]
  congr 1
  omega
theorem ins_len {α : Type} {xs : List α} {x : α} {n : Nat} (hn : n ≤ xs.length) : (xs.take n ++ [x] ++ xs.drop n).length = xs.length + 1 := by
  rw [List.length_append, List.length_append, List.length_take, List.length_drop]
  simp
  omega
theorem bad_it {b : Str} (hb : b ∈ bads) : ∃ bi : It, (bi = .badL ∨ bi = .badC) ∧ (∀ lb k, MatchL lb k bi (Txt.stripChars b (" " : Str))) ∧ 10 ∉ tl b ∧ b.length ≤ 60 := by
  have h := bads_ok b hb
  unfold badF at h
  simp only [Bool.and_eq_true, Bool.not_eq_true', decide_eq_true_eq] at h
  obtain ⟨⟨⟨h1, h2⟩, h3⟩, h4⟩ := h
  by_cases hl : labS (Txt.stripChars b (" " : Str)) = true
  · rw [if_pos hl] at h2
    exact ⟨.badL, .inl rfl, fun lb k => ⟨h1, hl, by simpa using h2⟩, h3, h4⟩
  · rw [if_neg hl] at h2
    simp only [Bool.and_eq_true, decide_eq_true_eq] at h2
    obtain ⟨⟨g1, g2⟩, g3⟩ := h2
    refine ⟨.badC, .inr rfl, fun lb k => ⟨h1, by simpa using hl, g1, fun lk hk place => ?_⟩, h3, h4⟩
    rw [word_keys hk (fun o ho => ?_)]
    · exact g3
    · rw [ho] at g2
      simpa using g2
theorem wrong (B : Built lb Ls Is) (L : LI lb Is fun _ => True) (hl : Ls.length ≤ 99) {n : Nat} (hn : n ≤ Ls.length) {b : Str} (hb : b ∈ bads) :
    asmR (Txt.join ("\n" : Str) (Ls.take n ++ [b] ++ Ls.drop n)) = .err (n + 1) ∧ (∀ l ∈ Ls.take n ++ [b] ++ Ls.drop n, 10 ∉ tl l ∧ l.length ≤ 60) ∧ (∀ t ∈ (Ls.take n ++ [b] ++ Ls.drop n).map (fun l => Txt.stripChars l (" " : Str)), silS t = false → labS t = false → opT0 t ∈ known) := by
  obtain ⟨bi, hbi, hm, hb1, hb2⟩ := bad_it hb
  have hnI : n ≤ Is.length := by rw [← B.len]; exact hn
  have nl : ∀ l ∈ Ls.take n ++ [b] ++ Ls.drop n, 10 ∉ tl l ∧ l.length ≤ 60 := fun l h => by
    rcases List.mem_append.mp h with h | h
    · rcases List.mem_append.mp h with h | h
      · exact B.nl l (List.mem_of_mem_take h)
      · rw [List.mem_singleton.mp h]; exact ⟨hb1, hb2⟩
    · exact B.nl l (List.mem_of_mem_drop h)
  have M : MA lb (Is.take n ++ [bi] ++ Is.drop n) ((Ls.take n ++ [b] ++ Ls.drop n).map fun l => Txt.stripChars l (" " : Str)) := by
    refine ⟨by rw [List.length_map, ins_len hn, ins_len hnI, B.len], fun i it t h1 h2 => ?_⟩
    obtain ⟨l, h3, rfl⟩ := map_some h2
    rcases get_ins hnI h1 with ⟨e1, e2⟩ | ⟨e1, e2⟩ | ⟨e1, e2⟩
    · rw [ins_lt hn e1] at h3
      exact ⟨_, (B.ln i it l e2 h3).m⟩
    · subst e1
      rw [ins_at hn] at h3
      cases h3
      rw [e2]
      exact ⟨0, hm lb 0⟩
    · obtain ⟨m, rfl⟩ : ∃ m, i = m + 1 := ⟨i - 1, by omega⟩
      rw [ins_gt hn (by omega)] at h3
      exact ⟨_, (B.ln m it l e2 h3).m⟩
  have notlab : ∀ j, bi ≠ .lab j := fun j z => by rcases hbi with e | e <;> rw [e] at z <;> cases z
  have U : Uq (Is.take n ++ [bi] ++ Is.drop n) := by
    refine ⟨fun i i' j h1 h2 => ?_, fun j hj => ?_⟩
    · rcases get_ins hnI h1 with ⟨e1, e2⟩ | ⟨e1, e2⟩ | ⟨e1, e2⟩
      · rcases get_ins hnI h2 with ⟨f1, f2⟩ | ⟨f1, f2⟩ | ⟨f1, f2⟩
        · exact L.u i i' j e2 f2
        · exact absurd f2.symm (notlab j)
        · have := L.u _ _ j e2 f2; omega
      · exact absurd e2.symm (notlab j)
      · rcases get_ins hnI h2 with ⟨f1, f2⟩ | ⟨f1, f2⟩ | ⟨f1, f2⟩
        · have := L.u _ _ j e2 f2; omega
        · exact absurd f2.symm (notlab j)
        · have := L.u _ _ j e2 f2; omega
    · obtain ⟨i, hi⟩ := L.d j hj trivial
      rcases Nat.lt_or_ge i n with z | z
      · exact ⟨i, by rw [ins_lt hnI z]; exact hi⟩
      · exact ⟨i + 1, by rw [ins_gt hnI z]; exact hi⟩
  refine ⟨?_, nl, fun t ht s1 s2 => ?_⟩
  · have et := ts_join (Ls := Ls.take n ++ [b] ++ Ls.drop n) (by simp) fun l h => (nl l h).1
    unfold asmR
    rw [et]
    refine asm_err M U (by rw [ins_len hnI, ← B.len]; omega) (fun i it hi h => ?_) ?_
    · rw [ins_lt hnI hi] at h
      exact L.nb it (List.mem_of_getElem? h)
    · rw [ins_at hnI]
      rcases hbi with e | e
      · exact .inl (by rw [e])
      · exact .inr (by rw [e])
  · obtain ⟨i, hi, e⟩ := List.getElem_of_mem ht
    have h2 : ((Ls.take n ++ [b] ++ Ls.drop n).map fun l => Txt.stripChars l (" " : Str))[i]? = some t := by rw [List.getElem?_eq_getElem hi, e]
    obtain ⟨it, h1⟩ : ∃ it, (Is.take n ++ [bi] ++ Is.drop n)[i]? = some it := ⟨_, List.getElem?_eq_getElem (by rw [← M.len]; exact hi)⟩
    obtain ⟨k, hk⟩ := M.m i it t h1 h2
    exact known_of hk s1 s2
theorem known_good (B : Built lb Ls Is) : ∀ t ∈ Ls.map (fun l => Txt.stripChars l (" " : Str)), silS t = false → labS t = false → opT0 t ∈ known := fun t ht s1 s2 => by
  obtain ⟨l, hl, rfl⟩ := List.mem_map.mp ht
  obtain ⟨i, hi, e⟩ := List.getElem_of_mem hl
  have h2 : Ls[i]? = some l := by rw [List.getElem?_eq_getElem hi, e]
  obtain ⟨it, h1⟩ : ∃ it, Is[i]? = some it := ⟨_, List.getElem?_eq_getElem (by rw [← B.len]; exact hi)⟩
  exact known_of (B.ln i it l h1 h2).m s1 s2
end
end K05


open PySem.W
namespace K05
open TL
local macro_rules | `(tactic| walk_at "w1") => `(tactic| first
  | (with_reducible refine w_callS ?_)
  | (with_reducible refine w_lineAs ?_)
  | (with_reducible refine w_m1 ?_)
  | (with_reducible refine w_isS ?_))
theorem mulOk2 : ∀ m : Nat, m < 3 → ∀ s : Str, s.length ≤ 2 → MulOk s (m : Int) := fun m hm s hs => mulOk_of 2 2 hs (by omega) (by omega) (by decide) (by decide)
theorem mul2_len : ∀ m : Nat, m < 2 → (Txt.mul ("  " : Str) (m : Int)).length ≤ 2 := by decide +kernel
theorem at_len : ("at" : Str).length = 2 := by decide +kernel
theorem pickS (l : List Str) {k : Int} (h0 : 0 ≤ k) (h1 : k < l.length) : ∃ v, v ∈ l ∧ atI (l.map V.str) k = some (.str v) := by
  obtain ⟨n, rfl⟩ := Int.eq_ofNat_of_zero_le h0
  have hn : n < l.length := by omega
  exact ⟨l[n], List.getElem_mem hn, atI_nat (by rw [List.getElem?_map, List.getElem?_eq_getElem hn]; rfl)⟩
theorem cut_row {op : Str} {xs : List Int} {hi : Int} (hne : xs ≠ []) (h : hi = xs.length) : cutV (insV op xs) none (some hi) = insV op xs.dropLast := by
  subst h
  have e : insV op xs = insV op xs.dropLast ++ [.int (xs.getLast hne)] := by
    unfold insV
    rw [List.cons_append]
    have := List.dropLast_concat_getLast hne
    conv => lhs; rw [← this]
    rw [List.map_append]
    rfl
  have l : (insV op xs.dropLast).length = xs.length := by
    unfold insV
    rw [List.length_cons, List.length_map, List.length_dropLast]
    have := List.length_pos_iff.mpr hne
    omega
  unfold cutV HT.sIx
  rw [e, List.length_append, l]
  simp only [List.drop_zero, List.length_cons, List.length_nil]
  rw [if_neg (by omega)]
  have : min (xs.length : Int).toNat (xs.length + (0 + 1)) - 0 = (insV op xs.dropLast).length := by rw [l]; omega
  rw [this, List.take_left]
theorem w_slLL {K : PySem.W.Frag} {a : Addr} {xs : List V} {lo hi : Option Int} {H : Hp} {Q : VK} (h : SqL K H a xs) (q : ∀ p H', H p = none → Same H H' → H' p = some (.lst (cutV xs lo hi)) → Q (.ref p) H') : rSlL K (.ref a) lo hi H Q :=
  ⟨a, xs, rfl, h, fun p np => q p _ np (Same.new np) upd_same⟩
theorem cut_to (Ls : List Str) {n : Nat} (h : n ≤ Ls.length) : cutV (Ls.map V.str) none (some (n : Int)) = (Ls.take n).map V.str := by
  unfold cutV HT.sIx
  simp only [List.drop_zero, List.length_map]
  rw [if_neg (by omega)]
  have : min (n : Int).toNat Ls.length - 0 = n := by omega
  rw [this, List.map_take]
theorem cut_from (Ls : List Str) {n : Nat} (h : n ≤ Ls.length) : cutV (Ls.map V.str) (some (n : Int)) none = (Ls.drop n).map V.str := by
  unfold cutV HT.sIx
  simp only [List.length_map]
  rw [if_neg (by omega)]
  have : min (n : Int).toNat Ls.length = n := by omega
  rw [this, List.map_drop, List.take_of_length_le (by rw [List.length_drop, List.length_map]; exact Nat.le_refl _)]
theorem w_catN {K : PySem.W.Frag} {a b : Addr} {xs ys : List V} {H : Hp} {Q : VK} (h1 : SqT K H a xs) (h2 : SqT K H b ys) (hl : xs.length + ys.length ≤ sizeLine) (n1 : xs ≠ []) (n2 : ys ≠ []) (q : ∀ p H', H p = none → Same H H' → H' p = some (.tup (xs ++ ys)) → Q (.ref p) H') : rCatA K (.ref a) (.ref b) H Q :=
  ⟨a, b, xs, ys, rfl, rfl, h1, h2, hl, fun e => absurd e n1, fun _ e => absurd e n2, fun _ _ p np => q p _ np (Same.new np) upd_same⟩
theorem may_row {n : Nat} {op fm : Str} {xs : List Int} {v : Int} (h : Ins n op fm xs) (hm : mayN op = true) (hv : -8192 ≤ v ∧ v ≤ 8191) : Ins n op fm (xs.dropLast ++ [v]) ∧ xs ≠ [] := by
  have hfm := may_fm _ (List.mem_of_getElem? h.at_) hm
  simp only at hfm
  have hft := h.fits
  rcases hfm with rfl | rfl
  · cases hft with
    | dj ha hx => exact ⟨⟨h.at_, .dj ha ⟨by omega, by omega⟩⟩, by simp⟩
  · cases hft with
    | ssi ha hb' hx => exact ⟨⟨h.at_, .ssi ha hb' hv⟩, by simp⟩
theorem may_dec (op : Str) : decide (op ∈ (("jal" : Str) :: brT)) = mayN op := by
  unfold mayN
  rw [Bool.eq_iff_iff]
  simp [List.mem_cons]
theorem enc_w {n : Nat} {op fm : Str} {xs : List Int} (h : Ins n op fm xs) : 0 ≤ encW n fm xs ∧ encW n fm xs < 4294967296 := by
  have z := h.fits.enc (n := n)
  have := h.n38
  constructor <;> omega
theorem known_op {n : Nat} {op fm : Str} {xs : List Int} (h : Ins n op fm xs) : op ∈ known := by
  unfold known
  exact List.mem_append_left _ (List.mem_map.mpr ⟨(op, fm), List.mem_of_getElem? h.at_, rfl⟩)
def LabOf (lb : Nat → Nat) (k : Nat) (op : Str) (xs : List Int) (lab : Str) : Prop := lab = ("" : Str) ∨ ∃ j, j < 3 ∧ lab = atN j ∧ mayN op = true ∧ xs.getLast? = some ((lb j : Int) - k)
theorem shw_tok {n : Nat} {op fm : Str} {xs : List Int} {lb : Nat → Nat} {k : Nat} {lab : Str} (hi : Ins n op fm xs) (hl : LabOf lb k op xs lab) : shw fm xs lab ≠ [] ∧ (shw fm xs lab).length ≤ 3 ∧ ∀ t ∈ shw fm xs lab, TokOk t := by
  obtain ⟨h1, h2, h3, h4⟩ := tx_tok hi.fits
  rcases hl with rfl | ⟨j, hj, rfl, _, _⟩
  · exact ⟨h1, h2, h4⟩
  · have e : shw fm xs (atN j) = (opsTx fm xs).dropLast ++ [atN j] := if_neg (at_facts j hj).2.2.2.2
    rw [e]
    refine ⟨by simp, ?_, fun t ht => ?_⟩
    · rw [List.length_append, List.length_dropLast]
      have := List.length_pos_iff.mpr h1
      simp
      omega
    · rcases List.mem_append.mp ht with h | h
      · exact h4 t (List.dropLast_subset _ h)
      · rw [List.mem_singleton.mp h]; exact tok_at j hj
theorem line_code {n m : Nat} {op fm s : Str} {xs : List Int} {lb : Nat → Nat} {k : Nat} {lab : Str} (hi : Ins n op fm xs) (hl : LabOf lb k op xs lab) (hs : s ∈ commas) (hm : m < 3) : LnOk lb k (.code (encW n fm xs)) (codeL m op s (shw fm xs lab)) := by
  obtain ⟨h1, h2, h3⟩ := shw_tok hi hl
  have ho := op_ok (List.mem_of_getElem? hi.at_)
  obtain ⟨a1, a2⟩ := code_line hm ho hs h2 h3
  obtain ⟨k1, k2⟩ := code_kind (s := s) ho h1 h3
  refine ⟨a1, a2, ?_⟩
  show LineC lb k _ _
  rw [code_strip hm ho h1 h3]
  refine ⟨k1, k2, by rw [(code_op ho).1]; exact known_op hi, fun lk hk hL place hp => ?_⟩
  rcases hl with rfl | ⟨j, hj, rfl, hmay, hlast⟩
  · exact ⟨_, word_full hi hs hk, fun _ _ => rfl⟩
  · have e : shw fm xs (atN j) = (opsTx fm xs).dropLast ++ [atN j] := if_neg (at_facts j hj).2.2.2.2
    rw [e]
    obtain ⟨c, hc, hc1⟩ := hL j hj
    obtain ⟨w', w1, w2⟩ := word_lab (place := (place : Int)) hi hs hmay hj hc (by omega)
    refine ⟨w', w1, fun hall hpk => w2 ?_⟩
    have := hall j hj
    rw [hc] at this
    have e2 : (c : Int) = (lb j : Int) := Option.some.inj this
    rw [hlast, e2, hpk]
theorem line_word {lb : Nat → Nat} {k : Nat} {w : Int} (h0 : 0 ≤ w) (h1 : w < 4294967296) : LnOk lb k (.code w) ((" word " : Str) ++ dcT w) := by
  obtain ⟨e, a1, a2⟩ := word_strip h0 h1
  have T : TokOk (dcT w) := tok_dc (by omega)
  have ht : ∀ t ∈ [dcT w], TokOk t := fun t ht => by rw [List.mem_singleton.mp ht]; exact T
  obtain ⟨k1, k2⟩ := code_kind (s := ("," : Str)) ok_word (by simp) ht
  refine ⟨a1, a2, ?_⟩
  show LineC lb k _ _
  rw [e]
  exact ⟨k1, k2, by rw [(code_op ok_word).1]; decide +kernel, fun lk hk hL place hp => ⟨w, word_word h0 h1, fun _ _ => rfl⟩⟩
structure Rw where
  a : Addr
  n : Nat
  op : Str
  fm : Str
  xs : List Int
structure LSt (H : Hp) (d c pr : Addr) (rs : List Rw) (pb : Addr) (lbs : List Int) (pl : Addr) (Ls : List Str) (pw : Addr) (ws : List Int) : Prop where
  dr : DrawC H d c
  rw : H pr = some (.lst (rs.map fun r => .ref r.a))
  ra : ∀ r ∈ rs, H r.a = some (.tup (insV r.op r.xs)) ∧ Ins r.n r.op r.fm r.xs
  lb : H pb = some (.lst (lbs.map V.int))
  li : H pl = some (.lst (Ls.map V.str))
  wd : H pw = some (.lst (ws.map V.int))
  nd : d ≠ pr ∧ d ≠ pb ∧ d ≠ pl ∧ d ≠ pw
  nl : pl ≠ c ∧ pl ≠ pr ∧ pl ≠ pb ∧ pl ≠ pw
  nw : pw ≠ c ∧ pw ≠ pr ∧ pw ≠ pb
section
variable {H H' : Hp} {d c pr pb pl pw : Addr} {rs : List Rw} {lbs : List Int} {Ls : List Str} {ws : List Int}
theorem LSt.same (S : LSt H d c pr rs pb lbs pl Ls pw ws) (s : Same H H') : LSt H' d c pr rs pb lbs pl Ls pw ws :=
  ⟨S.dr.same s, s _ _ S.rw, fun r hr => ⟨s _ _ (S.ra r hr).1, (S.ra r hr).2⟩, s _ _ S.lb, s _ _ S.li, s _ _ S.wd, S.nd, S.nl, S.nw⟩
theorem LSt.drawn (S : LSt H d c pr rs pb lbs pl Ls pw ws) (b : But d H H') (hd : DrawC H' d c) : LSt H' d c pr rs pb lbs pl Ls pw ws := by
  obtain ⟨cs, i, cur, seed, e, _⟩ := S.dr
  exact ⟨hd, b _ _ S.nd.1.symm S.rw, fun r hr => ⟨b _ _ (ne_of (S.ra r hr).1 e (by intro z; cases z)) (S.ra r hr).1, (S.ra r hr).2⟩, b _ _ S.nd.2.1.symm S.lb, b _ _ S.nd.2.2.1.symm S.li, b _ _ S.nd.2.2.2.symm S.wd, S.nd, S.nl, S.nw⟩
theorem LSt.line (S : LSt H d c pr rs pb lbs pl Ls pw ws) {l : Str} (b : But pl H H') (h : H' pl = some (.lst ((Ls.map V.str) ++ [.str l]))) : LSt H' d c pr rs pb lbs pl (Ls ++ [l]) pw ws :=
  ⟨S.dr.keep (fun o e => b _ _ S.nd.2.2.1 e) (fun o e => b _ _ S.nl.1.symm e), b _ _ S.nl.2.1.symm S.rw, fun r hr => ⟨b _ _ (ne_of (S.ra r hr).1 S.li (by intro z; cases z)) (S.ra r hr).1, (S.ra r hr).2⟩, b _ _ S.nl.2.2.1.symm S.lb, by rw [h, List.map_append]; rfl, b _ _ S.nl.2.2.2.symm S.wd, S.nd, S.nl, S.nw⟩
theorem LSt.word (S : LSt H d c pr rs pb lbs pl Ls pw ws) {x : Int} (b : But pw H H') (h : H' pw = some (.lst ((ws.map V.int) ++ [.int x]))) : LSt H' d c pr rs pb lbs pl Ls pw (ws ++ [x]) :=
  ⟨S.dr.keep (fun o e => b _ _ S.nd.2.2.2 e) (fun o e => b _ _ S.nw.1.symm e), b _ _ S.nw.2.1.symm S.rw, fun r hr => ⟨b _ _ (ne_of (S.ra r hr).1 S.wd (by intro z; cases z)) (S.ra r hr).1, (S.ra r hr).2⟩, b _ _ S.nw.2.2.symm S.lb, b _ _ S.nl.2.2.2 S.li, by rw [h, List.map_append]; rfl, S.nd, S.nl, S.nw⟩
end
def spLaw (K : PySem.W.Frag) : Sp := fun vs H Q _ => ∃ (a : Addr) (ns : List Int), vs = [.ref a] ∧ SqL K H a (ns.map V.int) ∧ ns.length ≤ 63 ∧ ∀ H', Q (.bl true) H'
section
variable {P : Program} {w : World} {K : PySem.W.Frag} {mg : Str → Option Value} {base : Heap}
theorem ok_law {C fI : Addr} (TX : OwnE.Txt P K mg C fI) (b_range : mg "range" = none) (b_len : mg "len" = none) (b_str : mg "str" = none) (c_law_draw : Cd P w K mg base 1 "_law_draw" (spDraw K)) (c_law_take : Cd P w K mg base 1 "_law_take" spTake) (c_law_row : Cd P w K mg base 2 "_law_row" spRow) (c_law_word : Cd P w K mg base 2 "_law_word" (spWordS K)) (c_law_shown : Cd P w K mg base 2 "_law_shown" (spShown K)) (c_law_wrong : Cd P w K mg base 2 "_law_wrong" spWrong) (c_show_instruction : Cd P w K mg base 2 "show_instruction" (spShow K)) (c_assemble : CdX P w K mg base 5 "assemble" (spAsm C (· ∈ known)))
    {f : Addr} {fd : FuncData} (F : Fun K "law" "law" s_law f fd) : RunG P w K mg base f fd "script" (spLaw K) := by
  have TE := TX
  refine runG_of (k := 12) F sc_law ⟨rfl, by decide, by decide⟩ (fun cdv s H vs Q hr h => ?_)
  obtain ⟨a, ns, rfl, hS, hns, q⟩ := h
  refine ⟨_, (pss_cons (ps_set (i := 1) sc_law.nd rfl (.inr rfl) (pe_cd c_law_draw hr (by first | decide | omega) (by rfl) (pa_cons (pv 0) pa_nil)))
      (Evl.pss_cut (ps_set (i := 2) sc_law.nd rfl (.inr rfl) (pe_lc (own := [("k", 6)]) rfl sc_law.nd (pi_range1 (by rfl) b_range (pa_cons (pe_op op_add pe_int (pe_cd c_law_take hr (by first | decide | omega) (by rfl) (pa_cons (pv 1) (pa_cons pe_int pa_nil)))) pa_nil)) (blkOk_by (own := [("k", 6)]) (N := ["script", "draw", "rows", "labels", "lines", "words", "k", "j", "row", "label", "comma", "at", "bad", "error"]) (sc := (defScope s_law)) (by decide +kernel)) (fun _ _ _ _ _ => (pg_name (i := 6) sc_law.nd rfl (.inl rfl))) (fun _ _ _ _ _ => pts_nil) (fun _ _ _ _ _ => (pe_cd c_law_row hr (by first | decide | omega) (by rfl) (pa_cons (pv 1) pa_nil)))))
      (Evl.pss_cut (ps_setLc (i := 3) (own := [("k", 6)]) rfl sc_law.nd rfl rfl (sw_true rfl rfl rfl (by decide +kernel)) (pi_range1 (by rfl) b_range (pa_cons pe_int pa_nil)) (blkOk_by (own := [("k", 6)]) (N := ["script", "draw", "rows", "labels", "lines", "words", "k", "j", "row", "label", "comma", "at", "bad", "error"]) (sc := (defScope s_law)) (by decide +kernel)) (fun _ _ _ _ _ => (pg_name (i := 6) sc_law.nd rfl (.inl rfl))) (fun _ _ _ _ _ => pts_nil) (fun _ _ _ _ _ => (pe_cd c_law_take hr (by first | decide | omega) (by rfl) (pa_cons (pv 1) (pa_cons (pe_op op_add (pe_callB (call_lenQK (K' := K) (by rfl)) (by rfl) b_len PySem.boot_len (pa_cons (pv 2) pa_nil)) pe_int) pa_nil)))))
      (Evl.pss_cut (ps_set (i := 4) sc_law.nd rfl (.inl rfl) (pe_lst pa_nil))
      (Evl.pss_cut (ps_set (i := 5) sc_law.nd rfl (.inl rfl) (pe_lst pa_nil))
      (Evl.pss_cut (ps_for PassesOwn.never rfl (pi_range1 (by rfl) b_range (pa_cons (pe_op op_add (pe_callB call_lenQ (by rfl) b_len PySem.boot_len (pa_cons (pv 2) pa_nil)) pe_int) pa_nil)) (pg_name (i := 6) sc_law.nd rfl (.inl rfl))
      (Evl.pss_cut (ps_for PassesOwn.never rfl (pi_range1 (by rfl) b_range (pa_cons pe_int pa_nil)) (pg_name (i := 7) sc_law.nd rfl (.inl rfl))
      (pss_one (ps_if (pt_cmpR op_eq (pe_ix ix_list (pv 3) (pv 7) (fun _ _ => rfl)) (pv 6) (nomark _)) (pss_one (ps_expr (pe_bm PySem.F.plainAttrs_list PySem.F.slot_list_append PySem.F.type_list_append mt_append (pv 4) (pa_cons (pe_op op_addSQ (pe_op op_addSQ (pe_op op_addSQ (pe_op op_mulSQ pe_str (pe_cd c_law_take hr (by first | decide | omega) (by rfl) (pa_cons (pv 1) (pa_cons pe_int pa_nil)))) pe_str) (pe_callTy call_strQ (by rfl) b_str (by decide +kernel) (pa_cons (pv 7) pa_nil))) (pe_ix ix_list (pe_lst (pa_cons pe_str (pa_cons pe_str pa_nil))) (pe_cd c_law_take hr (by first | decide | omega) (by rfl) (pa_cons (pv 1) (pa_cons pe_int pa_nil))) (fun _ _ => rfl))) pa_nil)))) pss_nil)))
      (Evl.pss_cut (ps_if (pt_cmpR op_eq (pe_cd c_law_take hr (by first | decide | omega) (by rfl) (pa_cons (pv 1) (pa_cons pe_int pa_nil))) pe_int (nomark _)) (pss_one (ps_expr (pe_bm PySem.F.plainAttrs_list PySem.F.slot_list_append PySem.F.type_list_append mt_append (pv 4) (pa_cons (pe_ix ix_list (pe_lst (pa_cons pe_str (pa_cons pe_str (pa_cons pe_str (pa_cons pe_str pa_nil))))) (pe_cd c_law_take hr (by first | decide | omega) (by rfl) (pa_cons (pv 1) (pa_cons pe_int pa_nil))) (fun _ _ => rfl)) pa_nil)))) pss_nil)
      (pss_one (ps_if (pt_cmpR op_lt (pv 6) (pe_callB call_lenQ (by rfl) b_len PySem.boot_len (pa_cons (pv 2) pa_nil)) (nomark _)) (pss_cons (ps_set (i := 8) sc_law.nd rfl (.inl rfl) (pe_ix ix_list (pv 2) (pv 6) (fun _ _ => rfl)))
      (pss_cons (ps_set (i := 9) sc_law.nd rfl (.inl rfl) pe_str)
      (Evl.pss_cut (ps_if (PW.pt (pw_and (pt_cmpR op_in_seq (pe_ix ix_tup (pv 8) pe_int (fun _ _ => rfl)) (pe_lst (pa_cons pe_str (pa_cons pe_str (pa_cons pe_str (pa_cons pe_str (pa_cons pe_str (pa_cons pe_str (pa_cons pe_str pa_nil)))))))) rfl) (pw_and1 (pt_cmpR op_eq (pe_cd c_law_take hr (by first | decide | omega) (by rfl) (pa_cons (pv 1) (pa_cons pe_int pa_nil))) pe_int (nomark _))))) (pss_cons (ps_set (i := 7) sc_law.nd rfl (.inl rfl) (pe_cd c_law_take hr (by first | decide | omega) (by rfl) (pa_cons (pv 1) (pa_cons pe_int pa_nil))))
      (pss_cons (ps_set (i := 9) sc_law.nd rfl (.inl rfl) (pe_op op_addSQ pe_str (pe_callTy call_strQ (by rfl) b_str (by decide +kernel) (pa_cons (pv 7) pa_nil))))
      (pss_one (ps_set (i := 8) sc_law.nd rfl (.inl rfl) (pe_op op_catA (pe_slice sl_tupA (pv 8) po_none (po_some (pe_op op_sub (pe_callB call_lenQ (by rfl) b_len PySem.boot_len (pa_cons (pv 8) pa_nil)) pe_int))) (pe_tup (pa_cons (pe_op op_sub (pe_ix ix_list (pv 3) (pv 7) (fun _ _ => rfl)) (pv 6)) pa_nil))))))) pss_nil)
      (pss_cons (ps_if (pt_cmpR op_ne (pe_cd c_show_instruction hr (by first | decide | omega) (by rfl) (pa_cons (pv 8) pa_nil)) (pe_op op_addSQ (pe_op op_addSQ (pe_ix ix_tup (pv 8) pe_int (fun _ _ => rfl)) pe_str) (pe_m1 PySem.F.slot_str_join PySem.F.type_str_join mt_joinQ pe_str (pe_cd c_law_shown hr (by first | decide | omega) (by rfl) (pa_cons (pv 8) (pa_cons pe_str pa_nil))))) (nomark _)) (pss_one (ps_ret pe_bl)) pss_nil)
      (pss_one (ps_if (pt_cmpR op_eq (pe_cd c_law_take hr (by first | decide | omega) (by rfl) (pa_cons (pv 1) (pa_cons pe_int pa_nil))) pe_int (nomark _)) (pss_cons (ps_expr (pe_bm PySem.F.plainAttrs_list PySem.F.slot_list_append PySem.F.type_list_append mt_append (pv 5) (pa_cons (pe_cd c_law_word hr (by first | decide | omega) (by rfl) (pa_cons (pv 8) pa_nil)) pa_nil)))
      (pss_one (ps_expr (pe_bm PySem.F.plainAttrs_list PySem.F.slot_list_append PySem.F.type_list_append mt_append (pv 4) (pa_cons (pe_op op_addSQ pe_str (pe_callTy call_strQ (by rfl) b_str (by decide +kernel) (pa_cons (pe_cd c_law_word hr (by first | decide | omega) (by rfl) (pa_cons (pv 8) pa_nil)) pa_nil))) pa_nil))))) (pss_cons (ps_expr (pe_bm PySem.F.plainAttrs_list PySem.F.slot_list_append PySem.F.type_list_append mt_append (pv 5) (pa_cons (pe_cd c_law_word hr (by first | decide | omega) (by rfl) (pa_cons (pv 8) pa_nil)) pa_nil)))
      (pss_cons (ps_set (i := 10) sc_law.nd rfl (.inl rfl) (pe_ix ix_list (pe_lst (pa_cons pe_str (pa_cons pe_str (pa_cons pe_str (pa_cons pe_str pa_nil))))) (pe_cd c_law_take hr (by first | decide | omega) (by rfl) (pa_cons (pv 1) (pa_cons pe_int pa_nil))) (fun _ _ => rfl)))
      (pss_one (ps_expr (pe_bm PySem.F.plainAttrs_list PySem.F.slot_list_append PySem.F.type_list_append mt_append (pv 4) (pa_cons (pe_op op_addSQ (pe_op op_addSQ (pe_op op_addSQ (pe_op op_addSQ (pe_op op_mulSQ pe_str (pe_cd c_law_take hr (by first | decide | omega) (by rfl) (pa_cons (pv 1) (pa_cons pe_int pa_nil)))) (pe_ix ix_tup (pv 8) pe_int (fun _ _ => rfl))) pe_str) (pe_m1 PySem.F.slot_str_join PySem.F.type_str_join mt_joinQ (pv 10) (pe_cd c_law_shown hr (by first | decide | omega) (by rfl) (pa_cons (pv 8) (pa_cons (pv 9) pa_nil))))) pe_str) pa_nil)))))))))))) pss_nil)))))
      (Evl.pss_cut (ps_if (pt_cmpR (op_neD hr.units) (pe_cdX0 c_assemble hr (by first | decide | omega) (by rfl) (pa_cons (pe_m1 PySem.F.slot_str_join PySem.F.type_str_join mt_joinQ pe_str (pv 4)) pa_nil)) (pv 5) (nomark _)) (pss_one (ps_ret pe_bl)) pss_nil)
      (Evl.pss_cut (ps_set (i := 11) sc_law.nd rfl (.inl rfl) (pe_cd c_law_take hr (by first | decide | omega) (by rfl) (pa_cons (pv 1) (pa_cons (pe_op op_add (pe_callB call_lenQ (by rfl) b_len PySem.boot_len (pa_cons (pv 4) pa_nil)) pe_int) pa_nil))))
      (Evl.pss_cut (ps_set (i := 12) sc_law.nd rfl (.inl rfl) (pe_op op_cat (pe_op op_cat (pe_slice sl_list (pv 4) po_none (po_some (pv 11))) (pe_lst (pa_cons (pe_cd c_law_wrong hr (by first | decide | omega) (by rfl) (pa_cons (pv 1) pa_nil)) pa_nil))) (pe_slice sl_list (pv 4) (po_some (pv 11)) po_none)))
      (pss_cons (ps_try_as (i := 13) (Wout := fun _ _ _ _ => False) rfl rfl sc_law.nd rfl rfl ⟨rfl, by decide, Or.inl TE.gC⟩ takes0 (fun W pn xe tk _ => (pss_one (ps_expr (pe_cdXT c_assemble hr (by first | decide | omega) (by rfl) tk (pa_cons (pe_m1 PySem.F.slot_str_join PySem.F.type_str_join (mt_joinQK (K' := K) (by rfl)) pe_str (pv 12)) pa_nil))))) (fun a oe cls d pn hz hf => (pss_one (ps_ret (pe_cmpR op_eq (pe_lineAs TE hz hf (pv 13)) (pe_op op_add (pv 11) pe_int) (nomark _))))))
      (pss_one (ps_ret pe_bl)))))))))))), ?_⟩
  (with_reducible refine w_seq ?_)
  (with_reducible refine w_asg ?_)
  (with_reducible refine w_call ?_)
  (with_reducible refine w_cons ?_)
  ((with_reducible refine' w_var ?hv ?_); (case hv => exact rfl))
  (with_reducible refine w_nil ?_)
  refine ⟨a, ns, rfl, hS, hns, fun d c H1 nd nc s1 hd => ?_⟩
  (with_reducible refine w_name ?_)
  refine Evl.q_cut (M := fun σ' H' => DrawC H' d c ∧ ∃ (pr : Addr) (rs : List Rw), H' pr = some (.lst (rs.map fun r => .ref r.a)) ∧ (∀ r ∈ rs, H' r.a = some (.tup (insV r.op r.xs)) ∧ Ins r.n r.op r.fm r.xs) ∧ d ≠ pr ∧ 1 ≤ rs.length ∧ rs.length ≤ 9 ∧ ∃ v6 : Option V, σ' = [some (.ref a), some (.ref d), some (.ref pr), none, none, none, v6, none, none, none, none, none, none, none]) ?_ ?_
  · (with_reducible refine w_asg ?_)
    (with_reducible refine w_lc ?_)
    (with_reducible refine w_rng1 ?_)
    (with_reducible refine w_cons ?_)
    (with_reducible refine w_op ?_)
    (with_reducible refine w_c ?_)
    (with_reducible refine w_call ?_)
    (with_reducible refine w_cons ?_)
    ((with_reducible refine' w_var ?hv ?_); (case hv => exact rfl))
    (with_reducible refine w_cons ?_)
    (with_reducible refine w_c ?_)
    (with_reducible refine w_nil ?_)
    refine w_take hd (by decide) (by decide) fun n0 H2 n00 n01 hd2 b2 => ?_
    (with_reducible refine w_I0 ?_)
    (with_reducible refine w_nil ?_)
    refine w_lcR (1 + n0).toNat (fun D i H' => H2 D = none ∧ DrawC H' d c ∧ ∃ rs : List Rw, rs.length = i ∧ H' D = some (.lst (rs.map fun r => .ref r.a)) ∧ ∀ r ∈ rs, H' r.a = some (.tup (insV r.op r.xs)) ∧ Ins r.n r.op r.fm r.xs) rfl (by omega) (fun D nD => ⟨nD, hd2.same (Same.new nD), [], rfl, upd_same, fun r h => (by cases h)⟩) (fun D i H3 hi h => ?_) (fun D H3 nD h => ?_)
    · obtain ⟨nD, hd3, rs, hl, hD, hr3⟩ := h
      have hDd : D ≠ d := hd2.ne nD
      have hDc : D ≠ c := hd2.nec nD
      (with_reducible refine w_name ?_)
      refine ⟨rfl, ?_⟩
      (with_reducible refine w_yes ?_)
      (with_reducible refine w_itT ?_)
      (with_reducible refine w_call ?_)
      (with_reducible refine w_cons ?_)
      ((with_reducible refine' w_var ?hv ?_); (case hv => exact rfl))
      (with_reducible refine w_nil ?_)
      refine ⟨d, c, rfl, hd3, fun n op fm xs t H4 hi4 hd4 b4 nt ht => ?_⟩
      have hD4 := b4 D _ hDd hD
      have hdt : ∃ xs, H3 d = some (.lst xs) := by
        obtain ⟨cs, _, _, _, e, _⟩ := hd3
        exact ⟨_, e⟩
      obtain ⟨xd, exd⟩ := hdt
      refine ⟨_, hD4, by rw [List.length_map]; exact small1000 (by omega), nD, hd4.keep (fun o e => by rw [upd_ne hDd.symm]; exact e) (fun o e => by rw [upd_ne hDc.symm]; exact e), rs ++ [⟨t, n, op, fm, xs⟩], by rw [List.length_append, hl]; rfl, by rw [List.map_append]; exact upd_same, fun r hr => ?_⟩
      rcases List.mem_append.mp hr with h | h
      · have z := b4 _ _ (ne_of (hr3 r h).1 exd (by intro z; cases z)) (hr3 r h).1
        exact ⟨by rw [upd_ne (ne_of z hD4 (by intro z; cases z))]; exact z, (hr3 r h).2⟩
      · rw [List.mem_singleton.mp h]
        exact ⟨by rw [upd_ne (ne_of ht hD4 (by intro z; cases z))]; exact ht, hi4⟩
    · obtain ⟨nD, hd3, rs, hl, hD, hr3⟩ := h
      (with_reducible refine w_name ?_)
      exact ⟨hd3, D, rs, hD, hr3, (hd2.ne nD).symm, by omega, by omega, _, rfl⟩
  · rintro σ' H2 ⟨hd2, pr, rs, hpr, hra, hdp, r1, r9, v6, rfl⟩
    refine Evl.q_cut (M := fun σ' H' => DrawC H' d c ∧ H' pr = some (.lst (rs.map fun r => .ref r.a)) ∧ (∀ r ∈ rs, H' r.a = some (.tup (insV r.op r.xs)) ∧ Ins r.n r.op r.fm r.xs) ∧ ∃ (pb : Addr) (lbs : List Int) (v6 : Option V), H' pb = some (.lst (lbs.map V.int)) ∧ d ≠ pb ∧ lbs.length = 3 ∧ (∀ x ∈ lbs, 0 ≤ x ∧ x ≤ rs.length) ∧ σ' = [some (.ref a), some (.ref d), some (.ref pr), some (.ref pb), none, none, v6, none, none, none, none, none, none, none]) ?_ ?_
    · (with_reducible refine w_asg ?_)
      (with_reducible refine w_lc ?_)
      (with_reducible refine w_rng1 ?_)
      (with_reducible refine w_cons ?_)
      (with_reducible refine w_c ?_)
      (with_reducible refine w_nil ?_)
      refine w_lcR 3 (fun D i H' => H2 D = none ∧ DrawC H' d c ∧ H' pr = some (.lst (rs.map fun r => .ref r.a)) ∧ (∀ r ∈ rs, H' r.a = some (.tup (insV r.op r.xs)) ∧ Ins r.n r.op r.fm r.xs) ∧ ∃ lbs : List Int, lbs.length = i ∧ H' D = some (.lst (lbs.map V.int)) ∧ ∀ x ∈ lbs, 0 ≤ x ∧ x ≤ rs.length) rfl (by decide) (fun D nD => ⟨nD, hd2.same (Same.new nD), (Same.new nD) _ _ hpr, fun r hr => ⟨(Same.new nD) _ _ (hra r hr).1, (hra r hr).2⟩, [], rfl, upd_same, fun x h => (by cases h)⟩) (fun D i H3 hi h => ?_) (fun D H3 nD h => ?_)
      · obtain ⟨nD, hd3, hpr3, hra3, lbs, hl, hD, hb3⟩ := h
        have hDd : D ≠ d := hd2.ne nD
        have hDc : D ≠ c := hd2.nec nD
        have hDp : D ≠ pr := fun z => by rw [z, hpr] at nD; cases nD
        (with_reducible refine w_name ?_)
        refine ⟨rfl, ?_⟩
        (with_reducible refine w_yes ?_)
        (with_reducible refine w_itT ?_)
        (with_reducible refine w_call ?_)
        (with_reducible refine w_cons ?_)
        ((with_reducible refine' w_var ?hv ?_); (case hv => exact rfl))
        (with_reducible refine w_cons ?_)
        (with_reducible refine w_op ?_)
        (with_reducible refine w_cb ?_)
        (with_reducible refine w_cons ?_)
        ((with_reducible refine' w_var ?hv ?_); (case hv => exact rfl))
        (with_reducible refine w_nil ?_)
        ((with_reducible refine' w_lenL ?hh ?_); (case hh => assumption))
        (with_reducible refine w_c ?_)
        (with_reducible refine w_I0 ?_)
        (with_reducible refine w_nil ?_)
        rw [List.length_map]
        refine w_take hd3 (by omega) (by omega) fun x H4 x0 x1 hd4 b4 => ?_
        have hD4 := b4 D _ hDd hD
        have exd : ∃ xs, H3 d = some (.lst xs) := by
          obtain ⟨cs, _, _, _, e, _⟩ := hd3
          exact ⟨_, e⟩
        obtain ⟨xd, exd⟩ := exd
        refine ⟨_, hD4, by rw [List.length_map]; exact small1000 (by omega), nD, hd4.keep (fun o e => by rw [upd_ne hDd.symm]; exact e) (fun o e => by rw [upd_ne hDc.symm]; exact e), by rw [upd_ne hDp.symm]; exact b4 _ _ hdp.symm hpr3, fun r hr => ?_, lbs ++ [x], by rw [List.length_append, hl]; rfl, by rw [List.map_append]; exact upd_same, fun y hy => ?_⟩
        · have z := b4 _ _ (ne_of (hra3 r hr).1 exd (by intro z; cases z)) (hra3 r hr).1
          exact ⟨by rw [upd_ne (ne_of z hD4 (by intro z; cases z))]; exact z, (hra3 r hr).2⟩
        · rcases List.mem_append.mp hy with h | h
          · exact hb3 y h
          · rw [List.mem_singleton.mp h]; omega
      · obtain ⟨nD, hd3, hpr3, hra3, lbs, hl, hD, hb3⟩ := h
        (with_reducible refine w_name ?_)
        exact ⟨hd3, hpr3, hra3, D, lbs, _, hD, (hd2.ne nD).symm, hl, hb3, rfl⟩
    · rintro σ' H3 ⟨hd3, hpr3, hra3, pb, lbs, v6, hpb, hdb, l3, lb3, rfl⟩
      refine Evl.q_cut (M := fun σ' H' => ∃ (pl : Addr), H3 pl = none ∧ Same H3 H' ∧ H' pl = some (.lst []) ∧ σ' = [some (.ref a), some (.ref d), some (.ref pr), some (.ref pb), some (.ref pl), none, v6, none, none, none, none, none, none, none]) ?_ ?_
      · (with_reducible refine w_asg ?_)
        (with_reducible refine w_lst ?_)
        (with_reducible refine w_nil ?_)
        refine w_kLst (Nat.zero_le _) fun pl H4 nl s4 hl => ?_
        (with_reducible refine w_name ?_)
        exact ⟨pl, nl, s4, hl, rfl⟩
      rintro σ' H4 ⟨pl, npl, s4, hpl, rfl⟩
      refine Evl.q_cut (M := fun σ' H' => ∃ (pw : Addr), LSt H' d c pr rs pb lbs pl [] pw [] ∧ σ' = [some (.ref a), some (.ref d), some (.ref pr), some (.ref pb), some (.ref pl), some (.ref pw), v6, none, none, none, none, none, none, none]) ?_ ?_
      · (with_reducible refine w_asg ?_)
        (with_reducible refine w_lst ?_)
        (with_reducible refine w_nil ?_)
        refine w_kLst (Nat.zero_le _) fun pw H5 nw s5 hw => ?_
        (with_reducible refine w_name ?_)
        have hd4 := hd3.same s4
        refine ⟨pw, ⟨hd4.same s5, s5 _ _ (s4 _ _ hpr3), fun r hr => ⟨s5 _ _ (s4 _ _ (hra3 r hr).1), (hra3 r hr).2⟩, s5 _ _ (s4 _ _ hpb), s5 _ _ hpl, hw, ⟨hdp, hdb, (hd3.ne npl).symm, (hd4.ne nw).symm⟩, ⟨hd3.nec npl, fun z => (by rw [z, hpr3] at npl; cases npl), fun z => (by rw [z, hpb] at npl; cases npl), fun z => (by rw [← z, hpl] at nw; cases nw)⟩, ⟨hd4.nec nw, fun z => (by rw [z, s4 _ _ hpr3] at nw; cases nw), fun z => (by rw [z, s4 _ _ hpb] at nw; cases nw)⟩⟩, rfl⟩
      rintro σ' H5 ⟨pw, S5, rfl⟩
      generalize hlb : (fun j : Nat => (lbs.getD j 0).toNat) = lb
      have lbat : ∀ j : Nat, j < 3 → atI (lbs.map V.int) (j : Int) = some (.int (lb j : Int)) := fun j hj => by
        have hx : lbs[j]? = some (lbs.getD j 0) := by
          rw [List.getD_eq_getElem?_getD, List.getElem?_eq_getElem (by omega)]
          rfl
        have := (lb3 _ (List.mem_of_getElem? hx)).1
        refine atI_nat ?_
        rw [List.getElem?_map, hx, ← hlb]
        show some (V.int (lbs.getD j 0)) = some (V.int (((lbs.getD j 0).toNat : Nat) : Int))
        rw [Int.toNat_of_nonneg this]
      have lble : ∀ j : Nat, j < 3 → lb j ≤ rs.length := fun j hj => by
        have hx : lbs[j]? = some (lbs.getD j 0) := by
          rw [List.getD_eq_getElem?_getD, List.getElem?_eq_getElem (by omega)]
          rfl
        have := lb3 _ (List.mem_of_getElem? hx)
        rw [← hlb]
        show (lbs.getD j 0).toNat ≤ _
        omega
      refine Evl.q_cut (M := fun σ' H' => ∃ (Ls : List Str) (Is : List It) (v6 v7 v8 v9 v10 : Option V), LSt H' d c pr rs pb lbs pl Ls pw (Is.filterMap It.wd) ∧ Built lb Ls Is ∧ LI lb Is (fun _ => True) ∧ 1 ≤ Ls.length ∧ Ls.length ≤ 60 ∧ σ' = [some (.ref a), some (.ref d), some (.ref pr), some (.ref pb), some (.ref pl), some (.ref pw), v6, v7, v8, v9, v10, none, none, none]) ?_ ?_
      · have hpr5 := S5.rw
        (with_reducible refine w_for ?_)
        (with_reducible refine w_rng1 ?_)
        (with_reducible refine w_cons ?_)
        (with_reducible refine w_op ?_)
        (with_reducible refine w_cb ?_)
        (with_reducible refine w_cons ?_)
        ((with_reducible refine' w_var ?hv ?_); (case hv => exact rfl))
        (with_reducible refine w_nil ?_)
        ((with_reducible refine' w_lenL ?hh ?_); (case hh => assumption))
        (with_reducible refine w_c ?_)
        (with_reducible refine w_I0 ?_)
        (with_reducible refine w_nil ?_)
        rw [List.length_map]
        refine w_forR (rs.length + 1) (fun i σ H' => ∃ (Ls : List Str) (Is : List It) (v6 v7 v8 v9 v10 : Option V), LSt H' d c pr rs pb lbs pl Ls pw (Is.filterMap It.wd) ∧ Built lb Ls Is ∧ LI lb Is (fun j => lb j < i) ∧ Ls.length ≤ 5 * i ∧ cnt Is = min i rs.length ∧ (1 ≤ i → 1 ≤ Ls.length) ∧ σ = [some (.ref a), some (.ref d), some (.ref pr), some (.ref pb), some (.ref pl), some (.ref pw), v6, v7, v8, v9, v10, none, none, none]) (by omega) (by omega) ⟨[], [], _, _, _, _, _, S5, ⟨rfl, fun i it l h => (by cases h)⟩, ⟨fun i i' j h => (by cases h), fun i j h => (by cases h), fun j hj h => absurd h (Nat.not_lt_zero _), fun it h => (by cases h)⟩, Nat.le_refl _, by simp [cnt], fun h => absurd h (by decide), rfl⟩ (fun i σ H6 hi h => ?_) (fun σ H6 h => ?_)
        · obtain ⟨Ls, Is, v6, v7, v8, v9, v10, S6, B, L, hl, hc, _, rfl⟩ := h
          have hci : cnt Is = i := by rw [hc]; omega
          (with_reducible refine w_name ?_)
          refine Evl.q_cut (M := fun σ' H' => ∃ (Ls : List Str) (Is : List It) (v7 v8 v9 v10 : Option V), LSt H' d c pr rs pb lbs pl Ls pw (Is.filterMap It.wd) ∧ Built lb Ls Is ∧ LI lb Is (fun j => lb j < i ∨ lb j = i) ∧ Ls.length ≤ 5 * i + 3 ∧ cnt Is = i ∧ σ' = [some (.ref a), some (.ref d), some (.ref pr), some (.ref pb), some (.ref pl), some (.ref pw), some (.int (i : Int)), v7, v8, v9, v10, none, none, none]) ?_ ?_
          · (with_reducible refine w_for ?_)
            (with_reducible refine w_rng1 ?_)
            (with_reducible refine w_cons ?_)
            (with_reducible refine w_c ?_)
            (with_reducible refine w_nil ?_)
            refine w_forR 3 (fun jj σ H' => ∃ (Ls : List Str) (Is : List It) (v7 v8 v9 v10 : Option V), LSt H' d c pr rs pb lbs pl Ls pw (Is.filterMap It.wd) ∧ Built lb Ls Is ∧ LI lb Is (fun j => lb j < i ∨ (lb j = i ∧ j < jj)) ∧ Ls.length ≤ 5 * i + jj ∧ cnt Is = i ∧ σ = [some (.ref a), some (.ref d), some (.ref pr), some (.ref pb), some (.ref pl), some (.ref pw), some (.int (i : Int)), v7, v8, v9, v10, none, none, none]) rfl (by decide) ⟨Ls, Is, _, _, _, _, S6, B, L.mono (fun j hj => by omega), by omega, hci, rfl⟩ (fun jj σ H7 hj h => ?_) (fun σ H7 h => ?_)
            · obtain ⟨Ls, Is, v7, v8, v9, v10, S7, B, L, hl, hci, rfl⟩ := h
              have hpb7 := S7.lb
              (with_reducible refine w_name ?_)
              (with_reducible refine w_ifS ?_)
              (with_reducible refine w_test ?_)
              (with_reducible refine w_op ?_)
              (with_reducible refine w_op ?_)
              ((with_reducible refine' w_var ?hv ?_); (case hv => exact rfl))
              ((with_reducible refine' w_var ?hv ?_); (case hv => exact rfl))
              refine w_ixL hpb7 (lbat jj hj) ?_
              ((with_reducible refine' w_var ?hv ?_); (case hv => exact rfl))
              (with_reducible refine w_eqI ?_)
              (with_reducible refine w_bl ?_)
              refine w_dec (fun e1 => ?_) (fun e1 => ?_)
              · have e1' : lb jj = i := by omega
                have hpl7 := S7.li
                (with_reducible refine w_drop ?_)
                (with_reducible refine w_bm ?_)
                ((with_reducible refine' w_var ?hv ?_); (case hv => exact rfl))
                ((with_reducible refine' w_tyL ?hh ?_); (case hh => assumption))
                (with_reducible refine w_cons ?_)
                (with_reducible refine w_op ?_)
                (with_reducible refine w_op ?_)
                (with_reducible refine w_op ?_)
                (with_reducible refine w_op ?_)
                (with_reducible refine w_c ?_)
                (with_reducible refine w_call ?_)
                (with_reducible refine w_cons ?_)
                ((with_reducible refine' w_var ?hv ?_); (case hv => exact rfl))
                (with_reducible refine w_cons ?_)
                (with_reducible refine w_c ?_)
                (with_reducible refine w_nil ?_)
                refine w_take S7.dr (by decide) (by decide) fun r H8 r0 r1 hd8 b8 => ?_
                have S8 := S7.drawn b8 hd8
                obtain ⟨m, rfl⟩ := Int.eq_ofNat_of_zero_le r0
                have hm : m < 2 := by omega
                have ml := mul2_len m hm
                refine w_mulSQ (mulOk2 m (by omega) _ (by decide +kernel)) ?_
                (with_reducible refine w_c ?_)
                refine w_addS (by rw [at_len]; exact Nat.le_trans (Nat.add_le_add_right ml 2) (by decide)) ?_
                (with_reducible refine w_cb ?_)
                (with_reducible refine w_cons ?_)
                ((with_reducible refine' w_var ?hv ?_); (case hv => exact rfl))
                (with_reducible refine w_nil ?_)
                refine w_strI (by omega) ?_
                have dl := dcT_len (i := (jj : Int)) (by omega)
                refine w_addS (by rw [cat_len, at_len]; exact Nat.le_trans (Nat.add_le_add (Nat.add_le_add_right ml 2) dl) (by decide)) ?_
                (with_reducible refine w_op ?_)
                (with_reducible refine w_lst ?_)
                (with_reducible refine w_cons ?_)
                (with_reducible refine w_c ?_)
                (with_reducible refine w_cons ?_)
                (with_reducible refine w_c ?_)
                (with_reducible refine w_nil ?_)
                refine w_kLst (by show 2 ≤ sizeLine; decide) fun l9 H9 nl9 s9 hl9 => ?_
                have S9 := S8.same s9
                (with_reducible refine w_call ?_)
                (with_reducible refine w_cons ?_)
                ((with_reducible refine' w_var ?hv ?_); (case hv => exact rfl))
                (with_reducible refine w_cons ?_)
                (with_reducible refine w_c ?_)
                (with_reducible refine w_nil ?_)
                refine w_take S9.dr (by decide) (by decide) fun r' H10 r0' r1' hd10 b10 => ?_
                have S10 := S9.drawn b10 hd10
                have hl10 : H10 l9 = some (.lst (([(":" : Str), (":  " : Str)] : List Str).map V.str)) := b10 l9 _ (S8.dr.ne nl9) hl9
                skip
                obtain ⟨v, hv, ea⟩ := pickS [(":" : Str), (":  " : Str)] r0' (show r' < ((2 : Nat) : Int) from r1')
                refine w_ixL hl10 ea ?_
                obtain ⟨f1, f2, f3⟩ := lab_lines m hm jj hj v hv
                refine w_addS (by rw [← cat_len]; exact Nat.le_trans f3 (by decide)) ?_
                (with_reducible refine w_nil ?_)
                have hpl10 := S10.li
                refine w_append hpl10 (by rw [List.length_map]; exact small1000 (by omega)) fun H11 hp11 b11 => ?_
                skip
                have hnd : ¬ (lb jj < i ∨ (lb jj = i ∧ jj < jj)) := by omega
                refine ⟨Ls ++ [_], Is ++ [.lab jj], _, _, _, _, ?_, B.snoc (it := .lab jj) ⟨f2, Nat.le_trans f3 (by decide), show MatchL lb (cnt Is) (It.lab jj) _ from ⟨hj, f1⟩⟩, (L.lab hj hnd (by rw [hci, e1'])).mono (fun j hj' => ?_), by rw [List.length_append]; exact Nat.succ_le_succ hl, by rw [cnt_snoc, hci]; rfl, rfl⟩
                · rw [List.filterMap_append]
                  simp only [List.filterMap_cons, List.filterMap_nil, It.wd, List.append_nil]
                  exact S10.line b11 hp11
                · constructor
                  · rintro ((z | ⟨z1, z2⟩) | z)
                    · exact .inl z
                    · exact .inr ⟨z1, by omega⟩
                    · rw [z]; exact .inr ⟨e1', Nat.lt_succ_self _⟩
                  · rintro (z | ⟨z1, z2⟩)
                    · exact .inl (.inl z)
                    · rcases Nat.lt_succ_iff_lt_or_eq.mp z2 with z | z
                      · exact .inl (.inr ⟨z1, z⟩)
                      · exact .inr z
              · (with_reducible refine w_next ?_)
                exact ⟨Ls, Is, _, _, _, _, S7, B, L.mono (fun j hj => by
                  constructor
                  · rintro (z | ⟨z1, z2⟩)
                    · exact .inl z
                    · exact .inr ⟨z1, by omega⟩
                  · rintro (z | ⟨z1, z2⟩)
                    · exact .inl z
                    · refine .inr ⟨z1, ?_⟩
                      rcases Nat.lt_succ_iff_lt_or_eq.mp z2 with z | z
                      · exact z
                      · rw [z] at z1; omega), by omega, hci, rfl⟩
            · obtain ⟨Ls, Is, v7, v8, v9, v10, S7, B, L, hl, hci, rfl⟩ := h
              exact ⟨Ls, Is, _, _, _, _, S7, B, L.mono (fun j hj => by omega), hl, hci, rfl⟩
          · rintro σ' H7 ⟨Ls, Is, v7, v8, v9, v10, S7, B, L, hl, hci, rfl⟩
            refine Evl.q_cut (M := fun σ' H' => ∃ (Ls : List Str) (Is : List It) (v7 v8 v9 v10 : Option V), LSt H' d c pr rs pb lbs pl Ls pw (Is.filterMap It.wd) ∧ Built lb Ls Is ∧ LI lb Is (fun j => lb j < i ∨ lb j = i) ∧ Ls.length ≤ 5 * i + 4 ∧ cnt Is = i ∧ σ' = [some (.ref a), some (.ref d), some (.ref pr), some (.ref pb), some (.ref pl), some (.ref pw), some (.int (i : Int)), v7, v8, v9, v10, none, none, none]) ?_ ?_
            · (with_reducible refine w_ifS ?_)
              (with_reducible refine w_test ?_)
              (with_reducible refine w_op ?_)
              (with_reducible refine w_call ?_)
              (with_reducible refine w_cons ?_)
              ((with_reducible refine' w_var ?hv ?_); (case hv => exact rfl))
              (with_reducible refine w_cons ?_)
              (with_reducible refine w_c ?_)
              (with_reducible refine w_nil ?_)
              refine w_take S7.dr (by decide) (by decide) fun r H8 r0 r1 hd8 b8 => ?_
              have S8 := S7.drawn b8 hd8
              (with_reducible refine w_c ?_)
              (with_reducible refine w_eqI ?_)
              (with_reducible refine w_bl ?_)
              refine w_dec (fun e1 => ?_) (fun e1 => ?_)
              · have hpl8 := S8.li
                (with_reducible refine w_drop ?_)
                (with_reducible refine w_bm ?_)
                ((with_reducible refine' w_var ?hv ?_); (case hv => exact rfl))
                ((with_reducible refine' w_tyL ?hh ?_); (case hh => assumption))
                (with_reducible refine w_cons ?_)
                (with_reducible refine w_op ?_)
                (with_reducible refine w_lst ?_)
                (with_reducible refine w_cons ?_)
                (with_reducible refine w_c ?_)
                (with_reducible refine w_cons ?_)
                (with_reducible refine w_c ?_)
                (with_reducible refine w_cons ?_)
                (with_reducible refine w_c ?_)
                (with_reducible refine w_cons ?_)
                (with_reducible refine w_c ?_)
                (with_reducible refine w_nil ?_)
                refine w_kLst (by show 4 ≤ sizeLine; decide) fun l9 H9 nl9 s9 hl9 => ?_
                have S9 := S8.same s9
                (with_reducible refine w_call ?_)
                (with_reducible refine w_cons ?_)
                ((with_reducible refine' w_var ?hv ?_); (case hv => exact rfl))
                (with_reducible refine w_cons ?_)
                (with_reducible refine w_c ?_)
                (with_reducible refine w_nil ?_)
                refine w_take S9.dr (by decide) (by decide) fun r' H10 r0' r1' hd10 b10 => ?_
                have S10 := S9.drawn b10 hd10
                have hl10 : H10 l9 = some (.lst (sils.map V.str)) := b10 l9 _ (S8.dr.ne nl9) hl9
                skip
                obtain ⟨v, hv, ea⟩ := pickS sils r0' (show r' < ((4 : Nat) : Int) from r1')
                refine w_ixL hl10 ea ?_
                (with_reducible refine w_nil ?_)
                obtain ⟨f1, f2, f3⟩ := sil_lines v hv
                have hpl10 := S10.li
                refine w_append hpl10 (by rw [List.length_map]; exact small1000 (by omega)) fun H11 hp11 b11 => ?_
                skip
                refine ⟨Ls ++ [v], Is ++ [.sil], _, _, _, _, ?_, B.snoc (it := .sil) ⟨f2, Nat.le_trans f3 (by decide), show MatchL lb (cnt Is) It.sil _ from f1⟩, L.snoc (fun j z => by cases z) rfl, by rw [List.length_append]; exact Nat.succ_le_succ hl, by rw [cnt_snoc, hci]; rfl, rfl⟩
                rw [List.filterMap_append]
                simp only [List.filterMap_cons, List.filterMap_nil, It.wd, List.append_nil]
                exact S10.line b11 hp11
              · (with_reducible refine w_next ?_)
                exact ⟨Ls, Is, _, _, _, _, S8, B, L, by omega, hci, rfl⟩
            · rintro σ' H8 ⟨Ls, Is, v7, v8, v9, v10, S8, B, L, hl, hci, rfl⟩
              have hpr8 := S8.rw
              have L1 : LI lb Is (fun j => lb j < i + 1) := L.mono (fun j hj => by omega)
              (with_reducible refine w_ifS ?_)
              (with_reducible refine w_test ?_)
              (with_reducible refine w_op ?_)
              ((with_reducible refine' w_var ?hv ?_); (case hv => exact rfl))
              (with_reducible refine w_cb ?_)
              (with_reducible refine w_cons ?_)
              ((with_reducible refine' w_var ?hv ?_); (case hv => exact rfl))
              (with_reducible refine w_nil ?_)
              ((with_reducible refine' w_lenL ?hh ?_); (case hh => assumption))
              (with_reducible refine w_I0 ?_)
              (with_reducible refine w_bl ?_)
              rw [List.length_map]
              refine w_dec (fun e1 => ?_) (fun e1 => ?_)
              · obtain ⟨r, hr⟩ : ∃ r, rs[i]? = some r := ⟨_, List.getElem?_eq_getElem (by omega)⟩
                obtain ⟨hra8, hins⟩ := S8.ra r (List.mem_of_getElem? hr)
                (with_reducible refine w_seq ?_)
                (with_reducible refine w_asg ?_)
                (with_reducible refine w_op ?_)
                ((with_reducible refine' w_var ?hv ?_); (case hv => exact rfl))
                ((with_reducible refine' w_var ?hv ?_); (case hv => exact rfl))
                refine w_ixL hpr8 (v := .ref r.a) (atI_nat (by rw [List.getElem?_map, hr]; rfl)) ?_
                (with_reducible refine w_name ?_)
                (with_reducible refine w_seq ?_)
                (with_reducible refine w_asg ?_)
                (with_reducible refine w_c ?_)
                (with_reducible refine w_name ?_)
                refine Evl.q_cut (M := fun σ' H' => ∃ (pt : Addr) (xs : List Int) (lab : Str) (v7 v10 : Option V), H' pt = some (.tup (insV r.op xs)) ∧ Ins r.n r.op r.fm xs ∧ (lab = ("" : Str) ∨ ∃ j, j < 3 ∧ lab = atN j ∧ mayN r.op = true ∧ xs.getLast? = some ((lb j : Int) - i)) ∧ LSt H' d c pr rs pb lbs pl Ls pw (Is.filterMap It.wd) ∧ σ' = [some (.ref a), some (.ref d), some (.ref pr), some (.ref pb), some (.ref pl), some (.ref pw), some (.int (i : Int)), v7, some (.ref pt), some (.str lab), v10, none, none, none]) ?_ ?_
                · (with_reducible refine w_ifS ?_)
                  (with_reducible refine w_andT ?_)
                  (with_reducible refine w_test ?_)
                  (with_reducible refine w_op ?_)
                  (with_reducible refine w_op ?_)
                  ((with_reducible refine' w_var ?hv ?_); (case hv => exact rfl))
                  (with_reducible refine w_c ?_)
                  refine w_ixTs (.of hra8) (atI_of (v := .str r.op) (by decide) rfl) ?_
                  (with_reducible refine w_lst ?_)
                  (with_reducible refine w_cons ?_)
                  (with_reducible refine w_c ?_)
                  (with_reducible refine w_cons ?_)
                  (with_reducible refine w_c ?_)
                  (with_reducible refine w_cons ?_)
                  (with_reducible refine w_c ?_)
                  (with_reducible refine w_cons ?_)
                  (with_reducible refine w_c ?_)
                  (with_reducible refine w_cons ?_)
                  (with_reducible refine w_c ?_)
                  (with_reducible refine w_cons ?_)
                  (with_reducible refine w_c ?_)
                  (with_reducible refine w_cons ?_)
                  (with_reducible refine w_c ?_)
                  (with_reducible refine w_nil ?_)
                  refine w_kLst (by show 7 ≤ sizeLine; decide) fun l9 H9 nl9 s9 hl9 => ?_
                  have S9 := S8.same s9
                  have hra9 := (S9.ra r (List.mem_of_getElem? hr)).1
                  refine w_inL (xs := (("jal" : Str) :: brT).map V.str) hl9 rfl (flat_strs _) ((inV_strs r.op _).trans (may_dec r.op)) ?_
                  (with_reducible refine w_bl ?_)
                  cases hm : mayN r.op with
                  | false =>
                    (with_reducible refine w_itF ?_)
                    (with_reducible refine w_itF ?_)
                    (with_reducible refine w_next ?_)
                    exact ⟨r.a, r.xs, ("" : Str), _, _, hra9, hins, .inl rfl, S9, rfl⟩
                  | true =>
                    (with_reducible refine w_itT ?_)
                    (with_reducible refine w_test ?_)
                    (with_reducible refine w_op ?_)
                    (with_reducible refine w_call ?_)
                    (with_reducible refine w_cons ?_)
                    ((with_reducible refine' w_var ?hv ?_); (case hv => exact rfl))
                    (with_reducible refine w_cons ?_)
                    (with_reducible refine w_c ?_)
                    (with_reducible refine w_nil ?_)
                    refine w_take S9.dr (by decide) (by decide) fun x H10 x0 x1 hd10 b10 => ?_
                    have S10 := S9.drawn b10 hd10
                    (with_reducible refine w_c ?_)
                    (with_reducible refine w_eqI ?_)
                    (with_reducible refine w_bl ?_)
                    refine w_dec (fun e2 => ?_) (fun e2 => ?_)
                    · (with_reducible refine w_seq ?_)
                      (with_reducible refine w_asg ?_)
                      (with_reducible refine w_call ?_)
                      (with_reducible refine w_cons ?_)
                      ((with_reducible refine' w_var ?hv ?_); (case hv => exact rfl))
                      (with_reducible refine w_cons ?_)
                      (with_reducible refine w_c ?_)
                      (with_reducible refine w_nil ?_)
                      refine w_take S10.dr (by decide) (by decide) fun j H11 j0 j1 hd11 b11 => ?_
                      have S11 := S10.drawn b11 hd11
                      obtain ⟨jn, rfl⟩ := Int.eq_ofNat_of_zero_le j0
                      have hj3 : jn < 3 := by omega
                      (with_reducible refine w_name ?_)
                      (with_reducible refine w_seq ?_)
                      (with_reducible refine w_asg ?_)
                      (with_reducible refine w_op ?_)
                      (with_reducible refine w_c ?_)
                      (with_reducible refine w_cb ?_)
                      (with_reducible refine w_cons ?_)
                      ((with_reducible refine' w_var ?hv ?_); (case hv => exact rfl))
                      (with_reducible refine w_nil ?_)
                      refine w_strI (by omega) ?_
                      have dl := dcT_len (i := (jn : Int)) (by omega)
                      refine w_addS (by rw [at_len]; exact Nat.le_trans (Nat.add_le_add_left dl 2) (by decide)) ?_
                      (with_reducible refine w_name ?_)
                      (with_reducible refine w_asg ?_)
                      (with_reducible refine w_op ?_)
                      (with_reducible refine w_sl ?_)
                      ((with_reducible refine' w_var ?hv ?_); (case hv => exact rfl))
                      (with_reducible refine w_noPart ?_)
                      (with_reducible refine w_part ?_)
                      (with_reducible refine w_op ?_)
                      (with_reducible refine w_cb ?_)
                      (with_reducible refine w_cons ?_)
                      ((with_reducible refine' w_var ?hv ?_); (case hv => exact rfl))
                      (with_reducible refine w_nil ?_)
                      have hra11 := (S11.ra r (List.mem_of_getElem? hr)).1
                      have lj := lble jn hj3
                      obtain ⟨hrow, hxne⟩ := may_row hins hm (v := (lb jn : Int) - i) (by omega)
                      have el : (insV r.op r.xs).length = r.xs.length + 1 := by unfold insV; simp
                      refine w_lenTn (r.xs.length + 1) (.of hra11) el ?_
                      (with_reducible refine w_c ?_)
                      (with_reducible refine w_I0 ?_)
                      (with_reducible refine w_exI ?_)
                      refine w_slG (.of hra11) fun p12 H12 s12 hp12 => ?_
                      rw [cut_row hxne (by omega)] at hp12
                      have S12 := S11.same s12
                      have hpb12 := S12.lb
                      (with_reducible refine w_tup ?_)
                      (with_reducible refine w_cons ?_)
                      (with_reducible refine w_op ?_)
                      (with_reducible refine w_op ?_)
                      ((with_reducible refine' w_var ?hv ?_); (case hv => exact rfl))
                      ((with_reducible refine' w_var ?hv ?_); (case hv => exact rfl))
                      refine w_ixL hpb12 (lbat jn hj3) ?_
                      ((with_reducible refine' w_var ?hv ?_); (case hv => exact rfl))
                      (with_reducible refine w_I0 ?_)
                      (with_reducible refine w_nil ?_)
                      refine w_kTup (by show 1 ≤ sizeLine; decide) fun t13 H13 nt13 s13 ht13 => ?_
                      have S13 := S12.same s13
                      skip
                      have l3' := hins.fits.len.2.1
                      refine w_catN (s13.sqT hp12) (.of ht13) (by unfold insV; simp only [List.length_cons, List.length_map, List.length_dropLast, List.length_nil]; exact Nat.le_of_lt (small1000 (by omega))) (by unfold insV; simp) (by simp) fun p14 H14 np14 s14 hp14 => ?_
                      have S14 := S13.same s14
                      (with_reducible refine w_name ?_)
                      refine ⟨p14, r.xs.dropLast ++ [(lb jn : Int) - i], atN jn, _, _, ?_, hrow, .inr ⟨jn, hj3, rfl, rfl, List.getLast?_concat ..⟩, S14, rfl⟩
                      rw [hp14]
                      unfold insV
                      rw [List.map_append]
                      rfl
                    · (with_reducible refine w_next ?_)
                      exact ⟨r.a, r.xs, ("" : Str), _, _, (S10.ra r (List.mem_of_getElem? hr)).1, hins, .inl rfl, S10, rfl⟩
                · rintro σ' H9 ⟨pt, xs, lab, v7, v10, hpt, hi9, hlab, S9, rfl⟩
                  obtain ⟨e0, e1w⟩ := enc_w hi9
                  obtain ⟨tn, tl3, ttok⟩ := shw_tok hi9 (.inl rfl : LabOf lb i r.op xs ("" : Str))
                  have fin : ∀ (H' : Hp) (l : Str) (v7 v8 v9 v10 : Option V), LnOk lb i (.code (encW r.n r.fm xs)) l → LSt H' d c pr rs pb lbs pl (Ls ++ [l]) pw (Is.filterMap It.wd ++ [encW r.n r.fm xs]) → ∃ (Ls' : List Str) (Is' : List It) (u6 u7 u8 u9 u10 : Option V), LSt H' d c pr rs pb lbs pl Ls' pw (Is'.filterMap It.wd) ∧ Built lb Ls' Is' ∧ LI lb Is' (fun j => lb j < i + 1) ∧ Ls'.length ≤ 5 * (i + 1) ∧ cnt Is' = min (i + 1) rs.length ∧ (1 ≤ i + 1 → 1 ≤ Ls'.length) ∧ [some (.ref a), some (.ref d), some (.ref pr), some (.ref pb), some (.ref pl), some (.ref pw), some (.int (i : Int)), v7, v8, v9, v10, none, none, none] = [some (.ref a), some (.ref d), some (.ref pr), some (.ref pb), some (.ref pl), some (.ref pw), u6, u7, u8, u9, u10, none, none, none] := fun H' l v7 v8 v9 v10 hl' S' => by
                    refine ⟨Ls ++ [l], Is ++ [.code (encW r.n r.fm xs)], _, _, _, _, _, ?_, B.snoc (it := .code _) (by rw [hci]; exact hl'), L1.snoc (fun j z => by cases z) rfl, by rw [List.length_append]; simp; omega, by rw [cnt_snoc, hci]; simp [It.cd]; omega, fun _ => by rw [List.length_append]; simp, rfl⟩
                    rw [List.filterMap_append]
                    exact S'
                  (with_reducible refine w_seq ?_)
                  (with_reducible refine w_ifS ?_)
                  (with_reducible refine w_test ?_)
                  (with_reducible refine w_op ?_)
                  (with_reducible refine w_call ?_)
                  (with_reducible refine w_cons ?_)
                  ((with_reducible refine' w_var ?hv ?_); (case hv => exact rfl))
                  (with_reducible refine w_nil ?_)
                  refine ⟨pt, r.n, r.op, r.fm, xs, rfl, .of hpt, hi9, fun H10 s10 => ?_⟩
                  have S10 := S9.same s10
                  have hpt10 := s10 _ _ hpt
                  (with_reducible refine w_op ?_)
                  (with_reducible refine w_op ?_)
                  (with_reducible refine w_op ?_)
                  ((with_reducible refine' w_var ?hv ?_); (case hv => exact rfl))
                  (with_reducible refine w_c ?_)
                  refine w_ixTs (.of hpt10) (atI_of (v := .str r.op) (by decide) rfl) ?_
                  have o4 := op_len _ (List.mem_of_getElem? hi9.at_)
                  simp only at o4
                  have sp1 : (" " : Str).length = 1 := by decide +kernel
                  (with_reducible refine w_c ?_)
                  refine w_addS (by rw [sp1]; exact Nat.le_trans (Nat.add_le_add_right o4 1) (by decide)) ?_
                  (with_reducible refine w_m1 ?_)
                  (with_reducible refine w_c ?_)
                  (with_reducible refine w_isS ?_)
                  (with_reducible refine w_call ?_)
                  (with_reducible refine w_cons ?_)
                  ((with_reducible refine' w_var ?hv ?_); (case hv => exact rfl))
                  (with_reducible refine w_cons ?_)
                  (with_reducible refine w_c ?_)
                  (with_reducible refine w_nil ?_)
                  refine ⟨pt, r.n, r.op, r.fm, xs, ("" : Str), rfl, .of hpt10, hi9, fun p11 H11 np11 s11 hp11 => ?_⟩
                  have S11 := S10.same s11
                  have hpt11 := s11 _ _ hpt10
                  rw [show shw r.fm xs ("" : Str) = opsTx r.fm xs from if_pos rfl] at hp11
                  have ob := opsTx_len (fm := r.fm) (xs := xs) (fun x hx => by have := hi9.fits.len.2.2 x hx; omega) hi9.fits.len.2.1
                  refine w_joinL (opsTx r.fm xs) (.of hp11) (Nat.le_trans ob.1 (by decide)) ?_
                  refine w_addS (by rw [cat_len, sp1]; exact Nat.le_trans (Nat.add_le_add (Nat.add_le_add_right o4 1) ob.2) (by decide)) ?_
                  ((with_reducible refine w_ne ?hc ?_); (case hc => exact rfl))
                  (with_reducible refine w_bl ?_)
                  refine w_ndec (fun e9 => absurd rfl e9) (fun _ => ?_)
                  (with_reducible refine w_next ?_)
                  (with_reducible refine w_ifS ?_)
                  (with_reducible refine w_test ?_)
                  (with_reducible refine w_op ?_)
                  (with_reducible refine w_call ?_)
                  (with_reducible refine w_cons ?_)
                  ((with_reducible refine' w_var ?hv ?_); (case hv => exact rfl))
                  (with_reducible refine w_cons ?_)
                  (with_reducible refine w_c ?_)
                  (with_reducible refine w_nil ?_)
                  refine w_take S11.dr (by decide) (by decide) fun x H12 x0 x1 hd12 b12 => ?_
                  have S12 := S11.drawn b12 hd12
                  have hne11 : H12 pt = some (.tup (insV r.op xs)) := by
                    obtain ⟨cs, _, _, _, e, _⟩ := S11.dr
                    exact b12 _ _ (ne_of hpt11 e (by intro z; cases z)) hpt11
                  have hpw12 := S12.wd
                  have hpl12 := S12.li
                  (with_reducible refine w_c ?_)
                  (with_reducible refine w_eqI ?_)
                  (with_reducible refine w_bl ?_)
                  have wlen : (Is.filterMap It.wd).length ≤ Is.length := List.length_filterMap_le _ _
                  have ilen := B.len
                  refine w_dec (fun e2 => ?_) (fun e2 => ?_)
                  · (with_reducible refine w_seq ?_)
                    (with_reducible refine w_drop ?_)
                    (with_reducible refine w_bm ?_)
                    ((with_reducible refine' w_var ?hv ?_); (case hv => exact rfl))
                    ((with_reducible refine' w_tyL ?hh ?_); (case hh => assumption))
                    (with_reducible refine w_cons ?_)
                    (with_reducible refine w_call ?_)
                    (with_reducible refine w_cons ?_)
                    ((with_reducible refine' w_var ?hv ?_); (case hv => exact rfl))
                    (with_reducible refine w_nil ?_)
                    refine ⟨pt, r.n, r.op, r.fm, xs, rfl, .of hne11, hi9.at_, hi9.fits.r, fun H13 s13 => ?_⟩
                    have S13 := S12.same s13
                    have hpw13 := S13.wd
                    (with_reducible refine w_nil ?_)
                    refine w_append hpw13 (by rw [List.length_map]; exact small1000 (by omega)) fun H14 hp14 b14 => ?_
                    have S14 := S13.word b14 hp14
                    have hpl14 := S14.li
                    have hpt14 : H14 pt = some (.tup (insV r.op xs)) := b14 _ _ (ne_of (s13 _ _ hne11) hpw13 (by intro z; cases z)) (s13 _ _ hne11)
                    (with_reducible refine w_drop ?_)
                    (with_reducible refine w_bm ?_)
                    ((with_reducible refine' w_var ?hv ?_); (case hv => exact rfl))
                    ((with_reducible refine' w_tyL ?hh ?_); (case hh => assumption))
                    (with_reducible refine w_cons ?_)
                    (with_reducible refine w_op ?_)
                    (with_reducible refine w_c ?_)
                    (with_reducible refine w_cb ?_)
                    (with_reducible refine w_cons ?_)
                    (with_reducible refine w_call ?_)
                    (with_reducible refine w_cons ?_)
                    ((with_reducible refine' w_var ?hv ?_); (case hv => exact rfl))
                    (with_reducible refine w_nil ?_)
                    refine ⟨pt, r.n, r.op, r.fm, xs, rfl, .of hpt14, hi9.at_, hi9.fits.r, fun H15 s15 => ?_⟩
                    have S15 := S14.same s15
                    (with_reducible refine w_nil ?_)
                    refine w_strI (by omega) ?_
                    have hlw := line_word (lb := lb) (k := i) e0 e1w
                    refine w_addS (by rw [← cat_len]; exact Nat.le_trans hlw.le (by decide)) ?_
                    (with_reducible refine w_nil ?_)
                    refine w_append S15.li (by rw [List.length_map]; exact small1000 (by omega)) fun H16 hp16 b16 => ?_
                    skip
                    exact fin H16 _ _ _ _ _ hlw (S15.line b16 hp16)
                  · (with_reducible refine w_seq ?_)
                    (with_reducible refine w_drop ?_)
                    (with_reducible refine w_bm ?_)
                    ((with_reducible refine' w_var ?hv ?_); (case hv => exact rfl))
                    ((with_reducible refine' w_tyL ?hh ?_); (case hh => assumption))
                    (with_reducible refine w_cons ?_)
                    (with_reducible refine w_call ?_)
                    (with_reducible refine w_cons ?_)
                    ((with_reducible refine' w_var ?hv ?_); (case hv => exact rfl))
                    (with_reducible refine w_nil ?_)
                    refine ⟨pt, r.n, r.op, r.fm, xs, rfl, .of hne11, hi9.at_, hi9.fits.r, fun H13 s13 => ?_⟩
                    have S13 := S12.same s13
                    have hpw13 := S13.wd
                    (with_reducible refine w_nil ?_)
                    refine w_append hpw13 (by rw [List.length_map]; exact small1000 (by omega)) fun H14 hp14 b14 => ?_
                    have S14 := S13.word b14 hp14
                    have hpt14 : H14 pt = some (.tup (insV r.op xs)) := b14 _ _ (ne_of (s13 _ _ hne11) hpw13 (by intro z; cases z)) (s13 _ _ hne11)
                    (with_reducible refine w_seq ?_)
                    (with_reducible refine w_asg ?_)
                    (with_reducible refine w_op ?_)
                    (with_reducible refine w_lst ?_)
                    (with_reducible refine w_cons ?_)
                    (with_reducible refine w_c ?_)
                    (with_reducible refine w_cons ?_)
                    (with_reducible refine w_c ?_)
                    (with_reducible refine w_cons ?_)
                    (with_reducible refine w_c ?_)
                    (with_reducible refine w_cons ?_)
                    (with_reducible refine w_c ?_)
                    (with_reducible refine w_nil ?_)
                    refine w_kLst (by show 4 ≤ sizeLine; decide) fun l15 H15 nl15 s15 hl15 => ?_
                    have S15 := S14.same s15
                    (with_reducible refine w_call ?_)
                    (with_reducible refine w_cons ?_)
                    ((with_reducible refine' w_var ?hv ?_); (case hv => exact rfl))
                    (with_reducible refine w_cons ?_)
                    (with_reducible refine w_c ?_)
                    (with_reducible refine w_nil ?_)
                    refine w_take S15.dr (by decide) (by decide) fun y H16 y0 y1 hd16 b16 => ?_
                    have S16 := S15.drawn b16 hd16
                    have hl16 : H16 l15 = some (.lst (commas.map V.str)) := b16 l15 _ (S14.dr.ne nl15) hl15
                    skip
                    obtain ⟨cm, hcm, ea⟩ := pickS commas y0 (show y < ((4 : Nat) : Int) from y1)
                    refine w_ixL hl16 ea ?_
                    have hpt16 : H16 pt = some (.tup (insV r.op xs)) := by
                      obtain ⟨cs, _, _, _, e, _⟩ := S15.dr
                      exact b16 _ _ (ne_of (s15 _ _ hpt14) e (by intro z; cases z)) (s15 _ _ hpt14)
                    have hpl16 := S16.li
                    (with_reducible refine w_name ?_)
                    (with_reducible refine w_drop ?_)
                    (with_reducible refine w_bm ?_)
                    ((with_reducible refine' w_var ?hv ?_); (case hv => exact rfl))
                    ((with_reducible refine' w_tyL ?hh ?_); (case hh => assumption))
                    (with_reducible refine w_cons ?_)
                    (with_reducible refine w_op ?_)
                    (with_reducible refine w_op ?_)
                    (with_reducible refine w_op ?_)
                    (with_reducible refine w_op ?_)
                    (with_reducible refine w_op ?_)
                    (with_reducible refine w_c ?_)
                    (with_reducible refine w_call ?_)
                    (with_reducible refine w_cons ?_)
                    ((with_reducible refine' w_var ?hv ?_); (case hv => exact rfl))
                    (with_reducible refine w_cons ?_)
                    (with_reducible refine w_c ?_)
                    (with_reducible refine w_nil ?_)
                    refine w_take S16.dr (by decide) (by decide) fun z H17 z0 z1 hd17 b17 => ?_
                    have S17 := S16.drawn b17 hd17
                    have hpt17 : H17 pt = some (.tup (insV r.op xs)) := by
                      obtain ⟨cs, _, _, _, e, _⟩ := S16.dr
                      exact b17 _ _ (ne_of hpt16 e (by intro z; cases z)) hpt16
                    obtain ⟨m, rfl⟩ := Int.eq_ofNat_of_zero_le z0
                    have hm3 : m < 3 := by omega
                    have ml := (mul_blank m hm3).2
                    refine w_mulSQ (mulOk2 m hm3 _ (by decide +kernel)) ?_
                    (with_reducible refine w_op ?_)
                    ((with_reducible refine' w_var ?hv ?_); (case hv => exact rfl))
                    (with_reducible refine w_c ?_)
                    refine w_ixTs (.of hpt17) (atI_of (v := .str r.op) (by decide) rfl) ?_
                    refine w_addS (Nat.le_trans (Nat.add_le_add ml o4) (by decide)) ?_
                    (with_reducible refine w_c ?_)
                    refine w_addS (by rw [cat_len, sp1]; exact Nat.le_trans (Nat.add_le_add_right (Nat.add_le_add ml o4) 1) (by decide)) ?_
                    (with_reducible refine w_m1 ?_)
                    ((with_reducible refine' w_var ?hv ?_); (case hv => exact rfl))
                    (with_reducible refine w_isS ?_)
                    (with_reducible refine w_call ?_)
                    (with_reducible refine w_cons ?_)
                    ((with_reducible refine' w_var ?hv ?_); (case hv => exact rfl))
                    (with_reducible refine w_cons ?_)
                    ((with_reducible refine' w_var ?hv ?_); (case hv => exact rfl))
                    (with_reducible refine w_nil ?_)
                    refine ⟨pt, r.n, r.op, r.fm, xs, lab, rfl, .of hpt17, hi9, fun p18 H18 np18 s18 hp18 => ?_⟩
                    have S18 := S17.same s18
                    obtain ⟨un, ul3, utok⟩ := shw_tok hi9 hlab
                    have hln := line_code hi9 hlab hcm hm3
                    have hcl := (com_len cm hcm).1
                    have jb : ((shw r.fm xs lab).map (·.length)).sum + (shw r.fm xs lab).length * cm.length ≤ 100 := by
                      have : ∀ l : List Str, (∀ t ∈ l, TokOk t) → (l.map (·.length)).sum ≤ 12 * l.length := by
                        intro l
                        induction l with
                        | nil => intro _; simp
                        | cons y r ih =>
                          intro h
                          have := ih fun z hz => h z (List.mem_cons_of_mem _ hz)
                          have := (h y List.mem_cons_self).le
                          simp only [List.map_cons, List.sum_cons, List.length_cons]
                          omega
                      have h1 := this _ utok
                      have h2 : (shw r.fm xs lab).length * cm.length ≤ 3 * 3 := Nat.mul_le_mul ul3 hcl
                      omega
                    have jl := join_len cm (shw r.fm xs lab)
                    refine w_joinL (shw r.fm xs lab) (.of hp18) (Nat.le_trans jb (by decide)) ?_
                    refine w_addS (by rw [cat_len, cat_len, sp1]; exact Nat.le_trans (Nat.add_le_add (Nat.add_le_add_right (Nat.add_le_add ml o4) 1) (Nat.le_trans jl jb)) (by decide)) ?_
                    (with_reducible refine w_c ?_)
                    refine w_addS (by rw [← cat_len]; exact Nat.le_trans hln.le (by decide)) ?_
                    (with_reducible refine w_nil ?_)
                    refine w_append S18.li (by rw [List.length_map]; exact small1000 (by omega)) fun H19 hp19 b19 => ?_
                    skip
                    exact fin H19 _ _ _ _ _ hln (S18.line b19 hp19)
              · (with_reducible refine w_next ?_)
                refine ⟨Ls, Is, _, _, _, _, _, S8, B, L1, by omega, by rw [hci]; omega, fun _ => ?_, rfl⟩
                have := cnt_le Is
                rw [B.len]
                omega
        · obtain ⟨Ls, Is, v6, v7, v8, v9, v10, S6, B, L, hl, hc, h1, rfl⟩ := h
          exact ⟨Ls, Is, v6, v7, v8, v9, v10, S6, B, L.mono (fun j hj => ⟨fun _ => trivial, fun _ => by have := lble j hj; omega⟩), h1 (by omega), by omega, rfl⟩
      · rintro σ' H6 ⟨Ls, Is, v6, v7, v8, v9, v10, S6, B, L, hl1, hl6, rfl⟩
        have hli := S6.li
        have hlne : Ls ≠ [] := fun z => by rw [z] at hl1; exact absurd hl1 (by decide)
        obtain ⟨js1, js2⟩ := join_small (fun l hl => (B.nl l hl).2) (by omega)
        have ets := ts_join hlne fun l hl => (B.nl l hl).1
        refine Evl.q_cut (M := fun σ' H' => Same H6 H' ∧ σ' = [some (.ref a), some (.ref d), some (.ref pr), some (.ref pb), some (.ref pl), some (.ref pw), v6, v7, v8, v9, v10, none, none, none]) ?_ ?_
        · (with_reducible refine w_ifS ?_)
          (with_reducible refine w_test ?_)
          (with_reducible refine w_op ?_)
          (with_reducible refine w_call ?_)
          (with_reducible refine w_cons ?_)
          (with_reducible refine w_m1 ?_)
          (with_reducible refine w_c ?_)
          (with_reducible refine w_isS ?_)
          ((with_reducible refine' w_var ?hv ?_); (case hv => exact rfl))
          refine w_joinL Ls (.of hli) (Nat.le_trans js2 (by decide)) ?_
          refine ⟨_, rfl, js1, by rw [ets, List.length_map]; omega, by rw [ets]; exact known_good B, fun ws hw p7 H7 np7 s7 hp7 => ?_, fun n hn => ?_⟩
          · have hg := good B L hlne (by omega)
            rw [hw] at hg
            have ew : ws = Is.filterMap It.wd := AsR.ok.inj hg
            have hw7 := s7 _ _ S6.wd
            subst ew
            ((with_reducible refine' w_var ?hv ?_); (case hv => exact rfl))
            refine w_neD (d := .list ((Is.filterMap It.wd).map .int)) (.lst (.of hp7) (dpInts _)) (.lst (.of hw7) (dpInts _)) (ints_shaped _) ?_
            (with_reducible refine w_bl ?_)
            (with_reducible refine w_itF ?_)
            (with_reducible refine w_next ?_)
            exact ⟨s7, rfl⟩
          · have hg := good B L hlne (by omega)
            rw [hn] at hg
            cases hg
        rintro σ' H7 ⟨s7, rfl⟩
        have S7 := S6.same s7
        have hli7 := S7.li
        refine Evl.q_cut (M := fun σ' H' => ∃ n : Nat, n ≤ Ls.length ∧ LSt H' d c pr rs pb lbs pl Ls pw (Is.filterMap It.wd) ∧ σ' = [some (.ref a), some (.ref d), some (.ref pr), some (.ref pb), some (.ref pl), some (.ref pw), v6, v7, v8, v9, v10, some (.int (n : Int)), none, none]) ?_ ?_
        · (with_reducible refine w_asg ?_)
          (with_reducible refine w_call ?_)
          (with_reducible refine w_cons ?_)
          ((with_reducible refine' w_var ?hv ?_); (case hv => exact rfl))
          (with_reducible refine w_cons ?_)
          (with_reducible refine w_op ?_)
          (with_reducible refine w_cb ?_)
          (with_reducible refine w_cons ?_)
          ((with_reducible refine' w_var ?hv ?_); (case hv => exact rfl))
          (with_reducible refine w_nil ?_)
          ((with_reducible refine' w_lenL ?hh ?_); (case hh => assumption))
          (with_reducible refine w_c ?_)
          (with_reducible refine w_I0 ?_)
          (with_reducible refine w_nil ?_)
          rw [List.length_map]
          refine w_take S7.dr (by omega) (by omega) fun x H8 x0 x1 hd8 b8 => ?_
          obtain ⟨n, rfl⟩ := Int.eq_ofNat_of_zero_le x0
          (with_reducible refine w_name ?_)
          exact ⟨n, by omega, S7.drawn b8 hd8, rfl⟩
        rintro σ' H8 ⟨n, hn, S8, rfl⟩
        refine Evl.q_cut (M := fun σ' H' => ∃ (pe : Addr) (b : Str), b ∈ bads ∧ H' pe = some (.lst ((Ls.take n ++ [b] ++ Ls.drop n).map V.str)) ∧ σ' = [some (.ref a), some (.ref d), some (.ref pr), some (.ref pb), some (.ref pl), some (.ref pw), v6, v7, v8, v9, v10, some (.int (n : Int)), some (.ref pe), none]) ?_ ?_
        · (with_reducible refine w_asg ?_)
          (with_reducible refine w_op ?_)
          (with_reducible refine w_op ?_)
          (with_reducible refine w_sl ?_)
          ((with_reducible refine' w_var ?hv ?_); (case hv => exact rfl))
          (with_reducible refine w_noPart ?_)
          (with_reducible refine w_part ?_)
          ((with_reducible refine' w_var ?hv ?_); (case hv => exact rfl))
          (with_reducible refine w_exI ?_)
          refine w_slLL (.of S8.li) fun pA H9 nA s9 hA => ?_
          rw [cut_to Ls hn] at hA
          have S9 := S8.same s9
          (with_reducible refine w_lst ?_)
          (with_reducible refine w_cons ?_)
          (with_reducible refine w_call ?_)
          (with_reducible refine w_cons ?_)
          ((with_reducible refine' w_var ?hv ?_); (case hv => exact rfl))
          (with_reducible refine w_nil ?_)
          refine ⟨d, c, rfl, S9.dr, fun b hb H10 hd10 b10 => ?_⟩
          have S10 := S9.drawn b10 hd10
          have hA10 := b10 pA _ (S8.dr.ne nA) hA
          (with_reducible refine w_nil ?_)
          refine w_kLst (by show 1 ≤ sizeLine; decide) fun pB H11 nB s11 hB => ?_
          have S11 := S10.same s11
          skip
          refine w_catL (s11 _ _ hA10) hB (by rw [List.length_map, List.length_take]; exact Nat.le_of_lt (small1000 (by simp; omega))) fun pC H12 nC s12 hC => ?_
          have S12 := S11.same s12
          have hli12 := S12.li
          (with_reducible refine w_sl ?_)
          ((with_reducible refine' w_var ?hv ?_); (case hv => exact rfl))
          (with_reducible refine w_part ?_)
          ((with_reducible refine' w_var ?hv ?_); (case hv => exact rfl))
          (with_reducible refine w_exI ?_)
          (with_reducible refine w_noPart ?_)
          refine w_slLL (.of hli12) fun pD H13 nD s13 hD => ?_
          rw [cut_from Ls hn] at hD
          refine w_catL (s13 _ _ hC) hD (by rw [List.length_append, List.length_map, List.length_map, List.length_take, List.length_drop]; exact Nat.le_of_lt (small1000 (by simp; omega))) fun pE H14 nE s14 hE => ?_
          (with_reducible refine w_name ?_)
          refine ⟨pE, b, hb, ?_, rfl⟩
          rw [hE, List.map_append, List.map_append]
          rfl
        rintro σ' H9 ⟨pe, b, hb, hpe, rfl⟩
        obtain ⟨hbad, hbn, hbk⟩ := wrong B L (by omega) hn hb
        have hlen : (Ls.take n ++ [b] ++ Ls.drop n).length ≤ 100 := by rw [ins_len hn]; omega
        obtain ⟨bs1, bs2⟩ := join_small (fun l hl => (hbn l hl).2) hlen
        have ebs := ts_join (Ls := Ls.take n ++ [b] ++ Ls.drop n) (by simp) fun l hl => (hbn l hl).1
        (with_reducible refine w_seq ?_)
        (with_reducible refine w_drop ?_)
        (with_reducible refine w_callS ?_)
        (with_reducible refine w_cons ?_)
        (with_reducible refine w_m1 ?_)
        (with_reducible refine w_c ?_)
        (with_reducible refine w_isS ?_)
        ((with_reducible refine' w_var ?hv ?_); (case hv => exact rfl))
        refine w_joinL (Ls.take n ++ [b] ++ Ls.drop n) (.of hpe) (Nat.le_trans bs2 (by decide)) ?_
        (with_reducible refine w_nil ?_)
        refine ⟨_, rfl, bs1, by rw [ebs, List.length_map]; omega, by rw [ebs]; exact hbk, fun ws hw => ?_, fun n' hn' dd H10 ndd s10 hdd => ?_⟩
        · rw [hbad] at hw
          cases hw
        · rw [hbad] at hn'
          have en : n' = n + 1 := by cases hn'; rfl
          subst en
          refine ⟨true, TE.te, fun _ a0 _ => ?_, fun q => Bool.noConfusion q⟩
          (with_reducible refine w_ret ?_)
          (with_reducible refine w_op ?_)
          (with_reducible refine w_lineAs ?_)
          ((with_reducible refine' w_var ?hv ?_); (case hv => exact rfl))
          refine ⟨rfl, rfl, dd, _, rfl, hdd, ?_⟩
          (with_reducible refine w_op ?_)
          ((with_reducible refine' w_var ?hv ?_); (case hv => exact rfl))
          (with_reducible refine w_c ?_)
          (with_reducible refine w_I0 ?_)
          (with_reducible refine w_eqI ?_)
          have e9 : (((n + 1 : Nat) : Int) = (n : Int) + 1) := by omega
          rw [show decide (((n + 1 : Nat) : Int) = (n : Int) + 1) = true from decide_eq_true e9]
          exact q _
theorem ok_asmX {C fI : Addr} (TX : OwnE.Txt P K mg C fI) (b_enumerate : mg "enumerate" = none) (b_len : mg "len" = none) (c_is_silent : Cd P w K mg base 1 "_is_silent" spSil) (c_first_labels : Cd P w K mg base 2 "_first_labels" spFirstL) (c_word_of_line : Cd P w K mg base 4 "_word_of_line" (spWordL (· ∈ known))) (Z : St1 K mg "assemble" s_assemble ["text"]) : CdX P w K mg base 5 "assemble" (spAsm C (· ∈ known)) := by
  obtain ⟨f, fd, F, b, m⟩ := Z.ex
  exact ⟨f, fd, ["text"], ok_assemble TX b_enumerate b_len c_is_silent c_first_labels c_word_of_line F, m, F.kp, b⟩
theorem forms_of {F : Addr} (rows : ∀ p ∈ opsT, KDct K w F p.1 (.str p.2)) (hs : (F == sysModules) = false) (h1 : KGet K w F "mov" none) (h2 : KGet K w F "a:b" none) : ∀ z, z ∈ known → z ≠ "word" → KGet K w F z ((fmO z).map fun p => .str p.2) := by
  intro z hz hw
  unfold known at hz
  rcases List.mem_append.mp hz with h | h
  · obtain ⟨p, hp, rfl⟩ := List.mem_map.mp h
    obtain ⟨n, hn, e⟩ := List.getElem_of_mem hp
    have e1 : opsT[n]? = some (p.1, p.2) := by rw [List.getElem?_eq_getElem hn, e]
    rw [fmO_of e1]
    obtain ⟨es, m, u, a, b, c, d⟩ := rows p hp
    exact ⟨es, m, a, b, hs, .inr ⟨_, u, rfl, c, d⟩⟩
  · simp only [List.mem_cons, List.not_mem_nil, or_false] at h
    rcases h with rfl | rfl | rfl
    · exact absurd rfl hw
    · have e : fmO "mov" = none := by decide +kernel
      rw [e]; exact h1
    · have e : fmO "a:b" = none := by decide +kernel
      rw [e]; exact h2
end
end K05

namespace K05
theorem all_mk {l : PySem.W.OpenLaw} {w : World} {K : PySem.W.Frag} {h : Heap} {mg : Str → Option Value} {fa : Addr} (X : K.In h) (G : h.Ns mainGlobals mg) (hfa : mg "law" = some (.ref fa)) (c : SaysZ cks fns tabs w K) (cf : feObs K = feVal) (htop : (l.prog.main.scope.names.lookup ("super" : Str)).isSome = false) (hfile : ((l.prog.main.file : Str) == topFile) = true)
    {OO : Addr} {itOO : Array Value} {nOO : Nat} {slOO : Array (Option Value)} (aOO : PySem.W.nsIn K mainGlobals "OPS" = some (some (.ref OO))) (lOO : K.lookup OO = some ⟨.type "tuple", none, .seq itOO nOO, slOO⟩) (zOO : itOO.size ≤ sizeLine) (vOO : Vals ((opsT.map (·.1)).map V.str) itOO.toList) {FF : Addr} {esF : Array DictEntry} {nF : Nat} (aFF : PySem.W.nsIn K mainGlobals "FORMS" = some (some (.ref FF))) (lFF : K.lookup FF = some ⟨.type "dict", none, .dict esF nF, #[]⟩) (kFF : PySem.W.KeysLit w.params esF.toList) (sFF : (FF == sysModules) = false) {t_add t_sub t_mul t_and t_or t_xor t_shl t_shr t_sar t_slt t_sltu t_divu t_remu t_addi t_andi t_ori t_xori t_shli t_shri t_sari t_slti t_lui t_lw t_lb t_lbu t_sw t_sb t_beq t_bne t_blt t_bge t_bltu t_bgeu t_jal t_jalr t_get t_put t_exit : Tok} (o_add : PySem.W.nsIn K FF "add" = some (some (.str "dss" t_add))) (o_sub : PySem.W.nsIn K FF "sub" = some (some (.str "dss" t_sub))) (o_mul : PySem.W.nsIn K FF "mul" = some (some (.str "dss" t_mul))) (o_and : PySem.W.nsIn K FF "and" = some (some (.str "dss" t_and))) (o_or : PySem.W.nsIn K FF "or" = some (some (.str "dss" t_or))) (o_xor : PySem.W.nsIn K FF "xor" = some (some (.str "dss" t_xor))) (o_shl : PySem.W.nsIn K FF "shl" = some (some (.str "dss" t_shl))) (o_shr : PySem.W.nsIn K FF "shr" = some (some (.str "dss" t_shr))) (o_sar : PySem.W.nsIn K FF "sar" = some (some (.str "dss" t_sar))) (o_slt : PySem.W.nsIn K FF "slt" = some (some (.str "dss" t_slt))) (o_sltu : PySem.W.nsIn K FF "sltu" = some (some (.str "dss" t_sltu))) (o_divu : PySem.W.nsIn K FF "divu" = some (some (.str "dss" t_divu))) (o_remu : PySem.W.nsIn K FF "remu" = some (some (.str "dss" t_remu))) (o_addi : PySem.W.nsIn K FF "addi" = some (some (.str "dsi" t_addi))) (o_andi : PySem.W.nsIn K FF "andi" = some (some (.str "dsi" t_andi))) (o_ori : PySem.W.nsIn K FF "ori" = some (some (.str "dsi" t_ori))) (o_xori : PySem.W.nsIn K FF "xori" = some (some (.str "dsi" t_xori))) (o_shli : PySem.W.nsIn K FF "shli" = some (some (.str "dsi" t_shli))) (o_shri : PySem.W.nsIn K FF "shri" = some (some (.str "dsi" t_shri))) (o_sari : PySem.W.nsIn K FF "sari" = some (some (.str "dsi" t_sari))) (o_slti : PySem.W.nsIn K FF "slti" = some (some (.str "dsi" t_slti))) (o_lui : PySem.W.nsIn K FF "lui" = some (some (.str "du" t_lui))) (o_lw : PySem.W.nsIn K FF "lw" = some (some (.str "dsi" t_lw))) (o_lb : PySem.W.nsIn K FF "lb" = some (some (.str "dsi" t_lb))) (o_lbu : PySem.W.nsIn K FF "lbu" = some (some (.str "dsi" t_lbu))) (o_sw : PySem.W.nsIn K FF "sw" = some (some (.str "ssi" t_sw))) (o_sb : PySem.W.nsIn K FF "sb" = some (some (.str "ssi" t_sb))) (o_beq : PySem.W.nsIn K FF "beq" = some (some (.str "ssi" t_beq))) (o_bne : PySem.W.nsIn K FF "bne" = some (some (.str "ssi" t_bne))) (o_blt : PySem.W.nsIn K FF "blt" = some (some (.str "ssi" t_blt))) (o_bge : PySem.W.nsIn K FF "bge" = some (some (.str "ssi" t_bge))) (o_bltu : PySem.W.nsIn K FF "bltu" = some (some (.str "ssi" t_bltu))) (o_bgeu : PySem.W.nsIn K FF "bgeu" = some (some (.str "ssi" t_bgeu))) (o_jal : PySem.W.nsIn K FF "jal" = some (some (.str "dj" t_jal))) (o_jalr : PySem.W.nsIn K FF "jalr" = some (some (.str "dsi" t_jalr))) (o_get : PySem.W.nsIn K FF "get" = some (some (.str "d" t_get))) (o_put : PySem.W.nsIn K FF "put" = some (some (.str "s" t_put))) (o_exit : PySem.W.nsIn K FF "exit" = some (some (.str "s" t_exit))) {BB : Addr} {esB : Array DictEntry} {nB : Nat} (aBB : PySem.W.nsIn K mainGlobals "BOUNDS" = some (some (.ref BB))) (lBB : K.lookup BB = some ⟨.type "dict", none, .dict esB nB, #[]⟩) (kBB : PySem.W.KeysLit w.params esB.toList) {Bd : Addr} (b_d : PySem.W.nsIn K BB "d" = some (some (.ref Bd))) {itBd : Array Value} {nBd : Nat} {slBd : Array (Option Value)}  (lBd : K.lookup Bd = some ⟨.type "tuple", none, .seq itBd nBd, slBd⟩) (zBd : itBd.size ≤ sizeLine) (vBd : Vals [.int (0), .int (15)] itBd.toList) {Bs : Addr} (b_s : PySem.W.nsIn K BB "s" = some (some (.ref Bs))) {itBs : Array Value} {nBs : Nat} {slBs : Array (Option Value)}  (lBs : K.lookup Bs = some ⟨.type "tuple", none, .seq itBs nBs, slBs⟩) (zBs : itBs.size ≤ sizeLine) (vBs : Vals [.int (0), .int (15)] itBs.toList) {Bi : Addr} (b_i : PySem.W.nsIn K BB "i" = some (some (.ref Bi))) {itBi : Array Value} {nBi : Nat} {slBi : Array (Option Value)}  (lBi : K.lookup Bi = some ⟨.type "tuple", none, .seq itBi nBi, slBi⟩) (zBi : itBi.size ≤ sizeLine) (vBi : Vals [.int (-8192), .int (8191)] itBi.toList) {Bj : Addr} (b_j : PySem.W.nsIn K BB "j" = some (some (.ref Bj))) {itBj : Array Value} {nBj : Nat} {slBj : Array (Option Value)}  (lBj : K.lookup Bj = some ⟨.type "tuple", none, .seq itBj nBj, slBj⟩) (zBj : itBj.size ≤ sizeLine) (vBj : Vals [.int (-131072), .int (131071)] itBj.toList) {Bu : Addr} (b_u : PySem.W.nsIn K BB "u" = some (some (.ref Bu))) {itBu : Array Value} {nBu : Nat} {slBu : Array (Option Value)}  (lBu : K.lookup Bu = some ⟨.type "tuple", none, .seq itBu nBu, slBu⟩) (zBu : itBu.size ≤ sizeLine) (vBu : Vals [.int (0), .int (262143)] itBu.toList) (o_mov : PySem.W.nsIn K FF "mov" = some none) (o_ab : PySem.W.nsIn K FF "a:b" = some none) {BR : Addr} {itBR : Array Value} {nBR : Nat} {slBR : Array (Option Value)} (aBR : PySem.W.nsIn K mainGlobals "BRANCHES" = some (some (.ref BR))) (lBR : K.lookup BR = some ⟨.type "tuple", none, .seq itBR nBR, slBR⟩) (zBR : itBR.size ≤ sizeLine) (vBR : Vals (brT.map V.str) itBR.toList) : 
    ∃ fd : FuncData, (∀ (s : Shared) (v : Value), BindsTo s fd ⟨[v], []⟩ [("script", v)]) ∧ ∀ base : Heap, K.In base → base.Ns mainGlobals mg → RunG l.prog w K mg base fa fd "script" (spLaw K) := by
  have F_is_number : ∃ fd, Fun K "is_number" "is_number" s_is_number (He.ga K "is_number") fd := c.f 0
  have Z_is_number : St1 K mg "is_number" s_is_number ["value"] := zS1 X G (zGlo (c.q 0 : gloZ "is_number" K = true)) F_is_number (fun _ _ _ _ _ _ us hl => match us, hl with | [_], _ => rfl)
  have F_is_word : ∃ fd, Fun K "is_word" "is_word" s_is_word (He.ga K "is_word") fd := c.f 1
  have Z_is_word : St1 K mg "is_word" s_is_word ["value"] := zS1 X G (zGlo (c.q 1 : gloZ "is_word" K = true)) F_is_word (fun _ _ _ _ _ _ us hl => match us, hl with | [_], _ => rfl)
  have F_is_name : ∃ fd, Fun K "is_name" "is_name" s_is_name (He.ga K "is_name") fd := c.f 2
  have Z_is_name : St1 K mg "is_name" s_is_name ["value"] := zS1 X G (zGlo (c.q 2 : gloZ "is_name" K = true)) F_is_name (fun _ _ _ _ _ _ us hl => match us, hl with | [_], _ => rfl)
  have F_is_operand : ∃ fd, Fun K "is_operand" "is_operand" s_is_operand (He.ga K "is_operand") fd := c.f 3
  have Z_is_operand : St1 K mg "is_operand" s_is_operand ["kind", "value"] := zS1 X G (zGlo (c.q 3 : gloZ "is_operand" K = true)) F_is_operand (fun _ _ _ _ _ _ us hl => match us, hl with | [_, _], _ => rfl)
  have F_encode : ∃ fd, Fun K "encode" "encode" s_encode (He.ga K "encode") fd := c.f 4
  have Z_encode : St1 K mg "encode" s_encode ["instruction"] := zS1 X G (zGlo (c.q 4 : gloZ "encode" K = true)) F_encode (fun _ _ _ _ _ _ us hl => match us, hl with | [_], _ => rfl)
  have F_show_instruction : ∃ fd, Fun K "show_instruction" "show_instruction" s_show_instruction (He.ga K "show_instruction") fd := c.f 5
  have Z_show_instruction : St1 K mg "show_instruction" s_show_instruction ["instruction"] := zS1 X G (zGlo (c.q 5 : gloZ "show_instruction" K = true)) F_show_instruction (fun _ _ _ _ _ _ us hl => match us, hl with | [_], _ => rfl)
  have F_show_operand : ∃ fd, Fun K "_show_operand" "_show_operand" s_show_operand (He.ga K "_show_operand") fd := c.f 6
  have Z_show_operand : St1 K mg "_show_operand" s_show_operand ["kind", "operand"] := zS1 X G (zGlo (c.q 6 : gloZ "_show_operand" K = true)) F_show_operand (fun _ _ _ _ _ _ us hl => match us, hl with | [_, _], _ => rfl)
  have F_assemble : ∃ fd, Fun K "assemble" "assemble" s_assemble (He.ga K "assemble") fd := c.f 7
  have Z_assemble : St1 K mg "assemble" s_assemble ["text"] := zS1 X G (zGlo (c.q 7 : gloZ "assemble" K = true)) F_assemble (fun _ _ _ _ _ _ us hl => match us, hl with | [_], _ => rfl)
  have F_is_silent : ∃ fd, Fun K "_is_silent" "_is_silent" s_is_silent (He.ga K "_is_silent") fd := c.f 8
  have Z_is_silent : St1 K mg "_is_silent" s_is_silent ["line"] := zS1 X G (zGlo (c.q 8 : gloZ "_is_silent" K = true)) F_is_silent (fun _ _ _ _ _ _ us hl => match us, hl with | [_], _ => rfl)
  have F_first_labels : ∃ fd, Fun K "_first_labels" "_first_labels" s_first_labels (He.ga K "_first_labels") fd := c.f 9
  have Z_first_labels : St1 K mg "_first_labels" s_first_labels ["lines"] := zS1 X G (zGlo (c.q 9 : gloZ "_first_labels" K = true)) F_first_labels (fun _ _ _ _ _ _ us hl => match us, hl with | [_], _ => rfl)
  have F_word_of_line : ∃ fd, Fun K "_word_of_line" "_word_of_line" s_word_of_line (He.ga K "_word_of_line") fd := c.f 10
  have Z_word_of_line : St1 K mg "_word_of_line" s_word_of_line ["line", "labels", "place"] := zS1 X G (zGlo (c.q 10 : gloZ "_word_of_line" K = true)) F_word_of_line (fun _ _ _ _ _ _ us hl => match us, hl with | [_, _, _], _ => rfl)
  have F_may_name_label : ∃ fd, Fun K "_may_name_label" "_may_name_label" s_may_name_label (He.ga K "_may_name_label") fd := c.f 11
  have Z_may_name_label : St1 K mg "_may_name_label" s_may_name_label ["op"] := zS1 X G (zGlo (c.q 11 : gloZ "_may_name_label" K = true)) F_may_name_label (fun _ _ _ _ _ _ us hl => match us, hl with | [_], _ => rfl)
  have F_value_of : ∃ fd, Fun K "_value_of" "_value_of" s_value_of (He.ga K "_value_of") fd := c.f 12
  have Z_value_of : St1 K mg "_value_of" s_value_of ["kind", "operand"] := zS1 X G (zGlo (c.q 12 : gloZ "_value_of" K = true)) F_value_of (fun _ _ _ _ _ _ us hl => match us, hl with | [_, _], _ => rfl)
  have F_number_of : ∃ fd, Fun K "_number_of" "_number_of" s_number_of (He.ga K "_number_of") fd := c.f 13
  have Z_number_of : St1 K mg "_number_of" s_number_of ["text"] := zS1 X G (zGlo (c.q 13 : gloZ "_number_of" K = true)) F_number_of (fun _ _ _ _ _ _ us hl => match us, hl with | [_], _ => rfl)
  have F_law_draw : ∃ fd, Fun K "_law_draw" "_law_draw" s_law_draw (He.ga K "_law_draw") fd := c.f 14
  have Z_law_draw : St1 K mg "_law_draw" s_law_draw ["script"] := zS1 X G (zGlo (c.q 14 : gloZ "_law_draw" K = true)) F_law_draw (fun _ _ _ _ _ _ us hl => match us, hl with | [_], _ => rfl)
  have F_law_take : ∃ fd, Fun K "_law_take" "_law_take" s_law_take (He.ga K "_law_take") fd := c.f 15
  have Z_law_take : St1 K mg "_law_take" s_law_take ["draw", "many"] := zS1 X G (zGlo (c.q 15 : gloZ "_law_take" K = true)) F_law_take (fun _ _ _ _ _ _ us hl => match us, hl with | [_, _], _ => rfl)
  have F_law_ops : ∃ fd, Fun K "_law_ops" "_law_ops" s_law_ops (He.ga K "_law_ops") fd := c.f 16
  have Z_law_ops : St1 K mg "_law_ops" s_law_ops [] := zS1 X G (zGlo (c.q 16 : gloZ "_law_ops" K = true)) F_law_ops (fun _ _ _ _ _ _ us hl => match us, hl with | [], _ => rfl)
  have F_law_word : ∃ fd, Fun K "_law_word" "_law_word" s_law_word (He.ga K "_law_word") fd := c.f 17
  have Z_law_word : St1 K mg "_law_word" s_law_word ["row"] := zS1 X G (zGlo (c.q 17 : gloZ "_law_word" K = true)) F_law_word (fun _ _ _ _ _ _ us hl => match us, hl with | [_], _ => rfl)
  have F_law_row : ∃ fd, Fun K "_law_row" "_law_row" s_law_row (He.ga K "_law_row") fd := c.f 18
  have Z_law_row : St1 K mg "_law_row" s_law_row ["draw"] := zS1 X G (zGlo (c.q 18 : gloZ "_law_row" K = true)) F_law_row (fun _ _ _ _ _ _ us hl => match us, hl with | [_], _ => rfl)
  have F_law_shown : ∃ fd, Fun K "_law_shown" "_law_shown" s_law_shown (He.ga K "_law_shown") fd := c.f 19
  have Z_law_shown : St1 K mg "_law_shown" s_law_shown ["row", "label"] := zS1 X G (zGlo (c.q 19 : gloZ "_law_shown" K = true)) F_law_shown (fun _ _ _ _ _ _ us hl => match us, hl with | [_, _], _ => rfl)
  have F_law_wrong : ∃ fd, Fun K "_law_wrong" "_law_wrong" s_law_wrong (He.ga K "_law_wrong") fd := c.f 20
  have Z_law_wrong : St1 K mg "_law_wrong" s_law_wrong ["draw"] := zS1 X G (zGlo (c.q 20 : gloZ "_law_wrong" K = true)) F_law_wrong (fun _ _ _ _ _ _ us hl => match us, hl with | [_], _ => rfl)
  have F_law : ∃ fd, Fun K "law" "law" s_law (He.ga K "law") fd := c.f 21
  have a_law := zGlo (c.q 21 : gloZ "law" K = true)
  have Z_law : St1 K mg "law" s_law ["script"] := zS1 X G (zGlo (c.q 21 : gloZ "law" K = true)) F_law (fun _ _ _ _ _ _ us hl => match us, hl with | [_], _ => rfl)
  have g_MASK : GV mg "MASK" (.int 4294967295) := zInt X G (c.q 22 : (He.Fa.int "MASK" 4294967295).ok K = true)
  have g_LETTERS : GV mg "LETTERS" (.str "abcdefghijklmnopqrstuvwxyz") := zStrG X G (c.q 23 : (He.Fa.str "LETTERS" "abcdefghijklmnopqrstuvwxyz").ok K = true)
  have g_NAME_CHARACTERS : GV mg "NAME_CHARACTERS" (.str "abcdefghijklmnopqrstuvwxyz0123456789_") := zStrG X G (c.q 24 : (He.Fa.str "NAME_CHARACTERS" "abcdefghijklmnopqrstuvwxyz0123456789_").ok K = true)
  have g_LOW_14 : GV mg "LOW_14" (.int 16383) := zInt X G (c.q 25 : (He.Fa.int "LOW_14" 16383).ok K = true)
  have g_LOW_18 : GV mg "LOW_18" (.int 262143) := zInt X G (c.q 26 : (He.Fa.int "LOW_18" 262143).ok K = true)
  have g_DIGITS : GV mg "DIGITS" (.str "0123456789") := zStrG X G (c.q 27 : (He.Fa.str "DIGITS" "0123456789").ok K = true)
  have g_LONGEST_NUMBER : GV mg "LONGEST_NUMBER" (.int 11) := zInt X G (c.q 28 : (He.Fa.int "LONGEST_NUMBER" 11).ok K = true)
  have b_abs : mg "abs" = none := zFree X G (c.q 29 : (He.Fa.free "abs").ok K = true)
  have b_all : mg "all" = none := zFree X G (c.q 30 : (He.Fa.free "all").ok K = true)
  have b_bool : mg "bool" = none := zFree X G (c.q 31 : (He.Fa.free "bool").ok K = true)
  have b_enumerate : mg "enumerate" = none := zFree X G (c.q 32 : (He.Fa.free "enumerate").ok K = true)
  have b_int : mg "int" = none := zFree X G (c.q 33 : (He.Fa.free "int").ok K = true)
  have b_isinstance : mg "isinstance" = none := zFree X G (c.q 34 : (He.Fa.free "isinstance").ok K = true)
  have b_len : mg "len" = none := zFree X G (c.q 35 : (He.Fa.free "len").ok K = true)
  have b_range : mg "range" = none := zFree X G (c.q 36 : (He.Fa.free "range").ok K = true)
  have b_str : mg "str" = none := zFree X G (c.q 37 : (He.Fa.free "str").ok K = true)
  have b_zip : mg "zip" = none := zFree X G (c.q 38 : (He.Fa.free "zip").ok K = true)
  have TX : OwnE.Txt l.prog K mg (He.ga K "AssemblyError") (errA K) := ex_txt X G htop hfile (c.q 39 : exZ topFile K = true) cf
  have e := hfa.symm.trans (PySem.W.mg_of X G a_law)
  cases e
  obtain ⟨fd_law, F_law⟩ := F_law
  obtain ⟨oc_law, od_law, kV_law, dc_law, pm_law, an_law, cd_law, ct_law, sl_law, rfl, l_law, cc_law⟩ := F_law.ex
  refine ⟨PySem.W.fnOf "law" "law" (defArgs s_law) (defBody s_law) (defScope s_law) .none kV_law dc_law pm_law an_law cd_law ct_law, fun s v => .of_eq rfl, fun base _ _ => ?_⟩
  have TE : Env0 K w mg OO FF := ⟨⟨_, PySem.W.mg_of X G aOO, rfl⟩, ⟨_, PySem.W.mg_of X G aFF, rfl⟩, g_LOW_14, g_LOW_18, ⟨itOO, nOO, slOO, lOO, zOO, vOO⟩, by
    intro p hp
    simp only [opsT, List.mem_cons, List.not_mem_nil, or_false] at hp
    rcases hp with rfl | rfl | rfl | rfl | rfl | rfl | rfl | rfl | rfl | rfl | rfl | rfl | rfl | rfl | rfl | rfl | rfl | rfl | rfl | rfl | rfl | rfl | rfl | rfl | rfl | rfl | rfl | rfl | rfl | rfl | rfl | rfl | rfl | rfl | rfl | rfl | rfl | rfl
    · exact ⟨esF, nF, _, lFF, kFF, o_add, ⟨_, rfl⟩⟩
    · exact ⟨esF, nF, _, lFF, kFF, o_sub, ⟨_, rfl⟩⟩
    · exact ⟨esF, nF, _, lFF, kFF, o_mul, ⟨_, rfl⟩⟩
    · exact ⟨esF, nF, _, lFF, kFF, o_and, ⟨_, rfl⟩⟩
    · exact ⟨esF, nF, _, lFF, kFF, o_or, ⟨_, rfl⟩⟩
    · exact ⟨esF, nF, _, lFF, kFF, o_xor, ⟨_, rfl⟩⟩
    · exact ⟨esF, nF, _, lFF, kFF, o_shl, ⟨_, rfl⟩⟩
    · exact ⟨esF, nF, _, lFF, kFF, o_shr, ⟨_, rfl⟩⟩
    · exact ⟨esF, nF, _, lFF, kFF, o_sar, ⟨_, rfl⟩⟩
    · exact ⟨esF, nF, _, lFF, kFF, o_slt, ⟨_, rfl⟩⟩
    · exact ⟨esF, nF, _, lFF, kFF, o_sltu, ⟨_, rfl⟩⟩
    · exact ⟨esF, nF, _, lFF, kFF, o_divu, ⟨_, rfl⟩⟩
    · exact ⟨esF, nF, _, lFF, kFF, o_remu, ⟨_, rfl⟩⟩
    · exact ⟨esF, nF, _, lFF, kFF, o_addi, ⟨_, rfl⟩⟩
    · exact ⟨esF, nF, _, lFF, kFF, o_andi, ⟨_, rfl⟩⟩
    · exact ⟨esF, nF, _, lFF, kFF, o_ori, ⟨_, rfl⟩⟩
    · exact ⟨esF, nF, _, lFF, kFF, o_xori, ⟨_, rfl⟩⟩
    · exact ⟨esF, nF, _, lFF, kFF, o_shli, ⟨_, rfl⟩⟩
    · exact ⟨esF, nF, _, lFF, kFF, o_shri, ⟨_, rfl⟩⟩
    · exact ⟨esF, nF, _, lFF, kFF, o_sari, ⟨_, rfl⟩⟩
    · exact ⟨esF, nF, _, lFF, kFF, o_slti, ⟨_, rfl⟩⟩
    · exact ⟨esF, nF, _, lFF, kFF, o_lui, ⟨_, rfl⟩⟩
    · exact ⟨esF, nF, _, lFF, kFF, o_lw, ⟨_, rfl⟩⟩
    · exact ⟨esF, nF, _, lFF, kFF, o_lb, ⟨_, rfl⟩⟩
    · exact ⟨esF, nF, _, lFF, kFF, o_lbu, ⟨_, rfl⟩⟩
    · exact ⟨esF, nF, _, lFF, kFF, o_sw, ⟨_, rfl⟩⟩
    · exact ⟨esF, nF, _, lFF, kFF, o_sb, ⟨_, rfl⟩⟩
    · exact ⟨esF, nF, _, lFF, kFF, o_beq, ⟨_, rfl⟩⟩
    · exact ⟨esF, nF, _, lFF, kFF, o_bne, ⟨_, rfl⟩⟩
    · exact ⟨esF, nF, _, lFF, kFF, o_blt, ⟨_, rfl⟩⟩
    · exact ⟨esF, nF, _, lFF, kFF, o_bge, ⟨_, rfl⟩⟩
    · exact ⟨esF, nF, _, lFF, kFF, o_bltu, ⟨_, rfl⟩⟩
    · exact ⟨esF, nF, _, lFF, kFF, o_bgeu, ⟨_, rfl⟩⟩
    · exact ⟨esF, nF, _, lFF, kFF, o_jal, ⟨_, rfl⟩⟩
    · exact ⟨esF, nF, _, lFF, kFF, o_jalr, ⟨_, rfl⟩⟩
    · exact ⟨esF, nF, _, lFF, kFF, o_get, ⟨_, rfl⟩⟩
    · exact ⟨esF, nF, _, lFF, kFF, o_put, ⟨_, rfl⟩⟩
    · exact ⟨esF, nF, _, lFF, kFF, o_exit, ⟨_, rfl⟩⟩⟩
  have TBN : BndAt K w mg BB := ⟨⟨_, PySem.W.mg_of X G aBB, rfl⟩, by
    intro c hc
    simp only [kinds, List.mem_cons, List.not_mem_nil, or_false] at hc
    rcases hc with rfl | rfl | rfl | rfl | rfl
    · exact ⟨Bd, ⟨esB, nB, _, lBB, kBB, b_d, rfl⟩, itBd, nBd, slBd, lBd, zBd, vBd⟩
    · exact ⟨Bs, ⟨esB, nB, _, lBB, kBB, b_s, rfl⟩, itBs, nBs, slBs, lBs, zBs, vBs⟩
    · exact ⟨Bi, ⟨esB, nB, _, lBB, kBB, b_i, rfl⟩, itBi, nBi, slBi, lBi, zBi, vBi⟩
    · exact ⟨Bj, ⟨esB, nB, _, lBB, kBB, b_j, rfl⟩, itBj, nBj, slBj, lBj, zBj, vBj⟩
    · exact ⟨Bu, ⟨esB, nB, _, lBB, kBB, b_u, rfl⟩, itBu, nBu, slBu, lBu, zBu, vBu⟩⟩
  have formsK : ∀ z, z ∈ known → z ≠ "word" → KGet K w FF z ((fmO z).map fun p => .str p.2) := forms_of TE.rows sFF ⟨esF, nF, lFF, kFF, sFF, .inl ⟨rfl, o_mov⟩⟩ ⟨esF, nF, lFF, kFF, sFF, .inl ⟨rfl, o_ab⟩⟩
  have g_BRANCHES : GV mg "BRANCHES" (.ref BR) := ⟨_, PySem.W.mg_of X G aBR, rfl⟩
  have hBW : WTup K BR (brT.map V.str) := ⟨itBR, nBR, slBR, lBR, zBR, vBR⟩
  have c_law_draw : Cd l.prog w K mg base 1 "_law_draw" (spDraw K) := ok_draw b_int b_abs b_len Z_law_draw
  have c_law_take : Cd l.prog w K mg base 1 "_law_take" spTake := ok_take b_int b_abs b_len Z_law_take
  have c_law_ops : Cd l.prog w K mg base 1 "_law_ops" spOps := ok_law_ops Z_law_ops
  have c_law_row : Cd l.prog w K mg base 2 "_law_row" spRow := ok_law_row c_law_ops c_law_take Z_law_row
  have c_law_word : Cd l.prog w K mg base 2 "_law_word" (spWordS K) := ok_law_wordS b_len b_int c_law_ops Z_law_word
  have c_law_shown : Cd l.prog w K mg base 2 "_law_shown" (spShown K) := ok_law_shown b_len b_range b_str c_law_ops Z_law_shown
  have c_law_wrong : Cd l.prog w K mg base 2 "_law_wrong" spWrong := ok_law_wrong c_law_take Z_law_wrong
  have c_show_operand : Cd l.prog w K mg base 1 "_show_operand" spOpd := ok_show_operand b_str Z_show_operand
  have c_show_instruction : Cd l.prog w K mg base 2 "show_instruction" (spShow K) := ok_show_instruction TE b_zip c_show_operand Z_show_instruction
  have c_is_silent : Cd l.prog w K mg base 1 "_is_silent" spSil := ok_is_silent Z_is_silent
  have c_is_name : Cd l.prog w K mg base 1 "is_name" spName := ok_is_name b_isinstance b_str b_len b_all g_LETTERS g_NAME_CHARACTERS Z_is_name
  have c_first_labels : Cd l.prog w K mg base 2 "_first_labels" spFirstL := ok_first_labels b_enumerate c_is_silent c_is_name Z_first_labels
  have c_number_of : Cd l.prog w K mg base 1 "_number_of" spNum := ok_number_of b_len b_all b_int b_str g_DIGITS g_LONGEST_NUMBER Z_number_of
  have c_is_number : Cd l.prog w K mg base 1 "is_number" spIsNum := ok_is_number b_isinstance b_int b_bool Z_is_number
  have c_is_word : Cd l.prog w K mg base 2 "is_word" spIsW := ok_is_word g_MASK c_is_number Z_is_word
  have c_may_name_label : Cd l.prog w K mg base 1 "_may_name_label" spMay := ok_may g_BRANCHES hBW Z_may_name_label
  have c_is_operand : Cd l.prog w K mg base 2 "is_operand" spIsOp := ok_is_operand TBN c_is_number Z_is_operand
  have c_value_of : Cd l.prog w K mg base 3 "_value_of" spVal := ok_value_of c_number_of c_is_operand Z_value_of
  have c_encode : Cd l.prog w K mg base 1 "encode" (spEnc K) := ok_encode TE b_zip Z_encode
  have c_word_of_line : Cd l.prog w K mg base 4 "_word_of_line" (spWordL (· ∈ known)) := ok_word_of_line TE formsK b_len b_zip b_str c_number_of c_is_word c_may_name_label c_value_of c_encode Z_word_of_line
  have c_assemble : CdX l.prog w K mg base 5 "assemble" (spAsm (He.ga K "AssemblyError") (· ∈ known)) := ok_asmX TX b_enumerate b_len c_is_silent c_first_labels c_word_of_line Z_assemble
  exact ok_law TX b_range b_len b_str c_law_draw c_law_take c_law_row c_law_word c_law_shown c_law_wrong c_show_instruction c_assemble F_law
theorem all_fin {l : PySem.W.OpenLaw} {w : World} {K : PySem.W.Frag} {h : Heap} {mg : Str → Option Value} {fa : Addr} (X : K.In h) (G : h.Ns mainGlobals mg) (hfa : mg "law" = some (.ref fa)) (c : SaysZ cks fns tabs w K) (cf : feObs K = feVal) (htop : (l.prog.main.scope.names.lookup ("super" : Str)).isSome = false) (hfile : ((l.prog.main.file : Str) == topFile) = true) :
    ∃ fd : FuncData, (∀ (s : Shared) (v : Value), BindsTo s fd ⟨[v], []⟩ [("script", v)]) ∧ ∀ base : Heap, K.In base → base.Ns mainGlobals mg → RunG l.prog w K mg base fa fd "script" (spLaw K) := by
  obtain ⟨itOO, nOO, slOO, lOO, zOO, vOO⟩ := zTup (show tupZ K (He.ga K "OPS") ((opsT.map (·.1)).map V.str) = true from c.q (f := fun K => tupZ K (He.ga K "OPS") (([.str "add", .str "sub", .str "mul", .str "and", .str "or", .str "xor", .str "shl", .str "shr", .str "sar", .str "slt", .str "sltu", .str "divu"] : List V) ++ ([.str "remu", .str "addi", .str "andi", .str "ori", .str "xori", .str "shli", .str "shri", .str "sari", .str "slti", .str "lui", .str "lw", .str "lb"] : List V) ++ ([.str "lbu", .str "sw", .str "sb", .str "beq", .str "bne", .str "blt", .str "bge", .str "bltu", .str "bgeu", .str "jal", .str "jalr", .str "get"] : List V) ++ ([.str "put", .str "exit"] : List V))) 40)
  obtain ⟨esF, nF, lFF, kFF, sFF⟩ := c.t 0 (a := fun K => (He.ga K "FORMS"))
  obtain ⟨esB, nB, lBB, kBB, sBB⟩ := c.t 1 (a := fun K => (He.ga K "BOUNDS"))
  obtain ⟨itBd, nBd, slBd, lBd, zBd, vBd⟩ := zTup (show tupZ K (nsA K (He.ga K "BOUNDS") "d") [.int (0), .int (15)] = true from c.q (f := fun K => tupZ K (nsA K (He.ga K "BOUNDS") "d") [.int (0), .int (15)]) 41)
  obtain ⟨itBs, nBs, slBs, lBs, zBs, vBs⟩ := zTup (show tupZ K (nsA K (He.ga K "BOUNDS") "s") [.int (0), .int (15)] = true from c.q (f := fun K => tupZ K (nsA K (He.ga K "BOUNDS") "s") [.int (0), .int (15)]) 42)
  obtain ⟨itBi, nBi, slBi, lBi, zBi, vBi⟩ := zTup (show tupZ K (nsA K (He.ga K "BOUNDS") "i") [.int (-8192), .int (8191)] = true from c.q (f := fun K => tupZ K (nsA K (He.ga K "BOUNDS") "i") [.int (-8192), .int (8191)]) 43)
  obtain ⟨itBj, nBj, slBj, lBj, zBj, vBj⟩ := zTup (show tupZ K (nsA K (He.ga K "BOUNDS") "j") [.int (-131072), .int (131071)] = true from c.q (f := fun K => tupZ K (nsA K (He.ga K "BOUNDS") "j") [.int (-131072), .int (131071)]) 44)
  obtain ⟨itBu, nBu, slBu, lBu, zBu, vBu⟩ := zTup (show tupZ K (nsA K (He.ga K "BOUNDS") "u") [.int (0), .int (262143)] = true from c.q (f := fun K => tupZ K (nsA K (He.ga K "BOUNDS") "u") [.int (0), .int (262143)]) 45)
  obtain ⟨itBR, nBR, slBR, lBR, zBR, vBR⟩ := zTup (show tupZ K (He.ga K "BRANCHES") (brT.map V.str) = true from c.q (f := fun K => tupZ K (He.ga K "BRANCHES") (([.str "beq", .str "bne", .str "blt", .str "bge", .str "bltu", .str "bgeu"] : List V))) 46)
  obtain ⟨_, o_add⟩ := zStr (c.q 49 : strZ K (He.ga K "FORMS") "add" "dss" = true)
  obtain ⟨_, o_sub⟩ := zStr (c.q 50 : strZ K (He.ga K "FORMS") "sub" "dss" = true)
  obtain ⟨_, o_mul⟩ := zStr (c.q 51 : strZ K (He.ga K "FORMS") "mul" "dss" = true)
  obtain ⟨_, o_and⟩ := zStr (c.q 52 : strZ K (He.ga K "FORMS") "and" "dss" = true)
  obtain ⟨_, o_or⟩ := zStr (c.q 53 : strZ K (He.ga K "FORMS") "or" "dss" = true)
  obtain ⟨_, o_xor⟩ := zStr (c.q 54 : strZ K (He.ga K "FORMS") "xor" "dss" = true)
  obtain ⟨_, o_shl⟩ := zStr (c.q 55 : strZ K (He.ga K "FORMS") "shl" "dss" = true)
  obtain ⟨_, o_shr⟩ := zStr (c.q 56 : strZ K (He.ga K "FORMS") "shr" "dss" = true)
  obtain ⟨_, o_sar⟩ := zStr (c.q 57 : strZ K (He.ga K "FORMS") "sar" "dss" = true)
  obtain ⟨_, o_slt⟩ := zStr (c.q 58 : strZ K (He.ga K "FORMS") "slt" "dss" = true)
  obtain ⟨_, o_sltu⟩ := zStr (c.q 59 : strZ K (He.ga K "FORMS") "sltu" "dss" = true)
  obtain ⟨_, o_divu⟩ := zStr (c.q 60 : strZ K (He.ga K "FORMS") "divu" "dss" = true)
  obtain ⟨_, o_remu⟩ := zStr (c.q 61 : strZ K (He.ga K "FORMS") "remu" "dss" = true)
  obtain ⟨_, o_addi⟩ := zStr (c.q 62 : strZ K (He.ga K "FORMS") "addi" "dsi" = true)
  obtain ⟨_, o_andi⟩ := zStr (c.q 63 : strZ K (He.ga K "FORMS") "andi" "dsi" = true)
  obtain ⟨_, o_ori⟩ := zStr (c.q 64 : strZ K (He.ga K "FORMS") "ori" "dsi" = true)
  obtain ⟨_, o_xori⟩ := zStr (c.q 65 : strZ K (He.ga K "FORMS") "xori" "dsi" = true)
  obtain ⟨_, o_shli⟩ := zStr (c.q 66 : strZ K (He.ga K "FORMS") "shli" "dsi" = true)
  obtain ⟨_, o_shri⟩ := zStr (c.q 67 : strZ K (He.ga K "FORMS") "shri" "dsi" = true)
  obtain ⟨_, o_sari⟩ := zStr (c.q 68 : strZ K (He.ga K "FORMS") "sari" "dsi" = true)
  obtain ⟨_, o_slti⟩ := zStr (c.q 69 : strZ K (He.ga K "FORMS") "slti" "dsi" = true)
  obtain ⟨_, o_lui⟩ := zStr (c.q 70 : strZ K (He.ga K "FORMS") "lui" "du" = true)
  obtain ⟨_, o_lw⟩ := zStr (c.q 71 : strZ K (He.ga K "FORMS") "lw" "dsi" = true)
  obtain ⟨_, o_lb⟩ := zStr (c.q 72 : strZ K (He.ga K "FORMS") "lb" "dsi" = true)
  obtain ⟨_, o_lbu⟩ := zStr (c.q 73 : strZ K (He.ga K "FORMS") "lbu" "dsi" = true)
  obtain ⟨_, o_sw⟩ := zStr (c.q 74 : strZ K (He.ga K "FORMS") "sw" "ssi" = true)
  obtain ⟨_, o_sb⟩ := zStr (c.q 75 : strZ K (He.ga K "FORMS") "sb" "ssi" = true)
  obtain ⟨_, o_beq⟩ := zStr (c.q 76 : strZ K (He.ga K "FORMS") "beq" "ssi" = true)
  obtain ⟨_, o_bne⟩ := zStr (c.q 77 : strZ K (He.ga K "FORMS") "bne" "ssi" = true)
  obtain ⟨_, o_blt⟩ := zStr (c.q 78 : strZ K (He.ga K "FORMS") "blt" "ssi" = true)
  obtain ⟨_, o_bge⟩ := zStr (c.q 79 : strZ K (He.ga K "FORMS") "bge" "ssi" = true)
  obtain ⟨_, o_bltu⟩ := zStr (c.q 80 : strZ K (He.ga K "FORMS") "bltu" "ssi" = true)
  obtain ⟨_, o_bgeu⟩ := zStr (c.q 81 : strZ K (He.ga K "FORMS") "bgeu" "ssi" = true)
  obtain ⟨_, o_jal⟩ := zStr (c.q 82 : strZ K (He.ga K "FORMS") "jal" "dj" = true)
  obtain ⟨_, o_jalr⟩ := zStr (c.q 83 : strZ K (He.ga K "FORMS") "jalr" "dsi" = true)
  obtain ⟨_, o_get⟩ := zStr (c.q 84 : strZ K (He.ga K "FORMS") "get" "d" = true)
  obtain ⟨_, o_put⟩ := zStr (c.q 85 : strZ K (He.ga K "FORMS") "put" "s" = true)
  obtain ⟨_, o_exit⟩ := zStr (c.q 86 : strZ K (He.ga K "FORMS") "exit" "s" = true)
  exact all_mk X G hfa c cf htop hfile (zGlo (c.q 47 : gloZ "OPS" K = true)) lOO zOO vOO (zGlo (c.q 48 : gloZ "FORMS" K = true)) lFF kFF sFF o_add o_sub o_mul o_and o_or o_xor o_shl o_shr o_sar o_slt o_sltu o_divu o_remu o_addi o_andi o_ori o_xori o_shli o_shri o_sari o_slti o_lui o_lw o_lb o_lbu o_sw o_sb o_beq o_bne o_blt o_bge o_bltu o_bgeu o_jal o_jalr o_get o_put o_exit (zGlo (c.q 87 : gloZ "BOUNDS" K = true)) lBB kBB (zNs (c.q 88 : nsZ K (He.ga K "BOUNDS") "d" (some (.ref (nsA K (He.ga K "BOUNDS") "d"))) = true)) lBd zBd vBd (zNs (c.q 89 : nsZ K (He.ga K "BOUNDS") "s" (some (.ref (nsA K (He.ga K "BOUNDS") "s"))) = true)) lBs zBs vBs (zNs (c.q 90 : nsZ K (He.ga K "BOUNDS") "i" (some (.ref (nsA K (He.ga K "BOUNDS") "i"))) = true)) lBi zBi vBi (zNs (c.q 91 : nsZ K (He.ga K "BOUNDS") "j" (some (.ref (nsA K (He.ga K "BOUNDS") "j"))) = true)) lBj zBj vBj (zNs (c.q 92 : nsZ K (He.ga K "BOUNDS") "u" (some (.ref (nsA K (He.ga K "BOUNDS") "u"))) = true)) lBu zBu vBu (zNs (c.q 93 : nsZ K (He.ga K "FORMS") "mov" none = true)) (zNs (c.q 94 : nsZ K (He.ga K "FORMS") "a:b" none = true)) (zGlo (c.q 95 : gloZ "BRANCHES" K = true)) lBR zBR vBR
end K05
open PySem PySem.W PySem.Calls PyProof.Rows
set_option maxRecDepth 100000 in
set_option maxHeartbeats 0 in
theorem PySem.Challenge.cw_restitch_k05_text_of_instructions_holds : PySem.Challenge.rw_restitch_k05_text_of_instructions.Holds := by
  w_on; o_law
  refine HandSHeadRun.head_any (r := OpenLaw.row PySem.Challenge.rw_restitch_k05_text_of_instructions) (q := view (OpenLaw.row PySem.Challenge.rw_restitch_k05_text_of_instructions).prog [57]) (H := K05.hk) (ob := K05.ob) (M := 12000) (loose := K05.topN) (d := HandSHeadRun.topDef (OpenLaw.row PySem.Challenge.rw_restitch_k05_text_of_instructions).prog 57) (kwd := []) K05.ob_eq
    (by kernel_rfl) (fun s => by kernel_rfl) K05.run (by kernel_rfl) (by kernel_rfl) (by kernel_rfl) (by rfl) (by first | assumption | decide +kernel) (by decide +kernel) ⟨rfl, rfl, rfl, rfl, rfl, by decide +kernel⟩ ?hw ?hc
  case hw => w_witness2
  case hc =>
    refine Co.walk_ofZ (l := PySem.Challenge.rw_restitch_k05_text_of_instructions) (n := 63) (x := "script") rfl (by decide) (by kernel_rfl) ?F
    intro w mg fa h Y G hmg0
    obtain ⟨K, KX, c, cf⟩ := Y
    have hmg : mg ("law" : PySem.Str) = some (.ref fa) := by
      have e : (HandSHeadRun.topDef (OpenLaw.row PySem.Challenge.rw_restitch_k05_text_of_instructions).prog 57).name = ("law" : PySem.Str) := by kernel_rfl
      rw [← e]
      exact hmg0
    obtain ⟨fd, hb, hF⟩ := K05.all_fin (l := PySem.Challenge.rw_restitch_k05_text_of_instructions) (w := w) KX G hmg c cf (by kernel_rfl) (by kernel_rfl)
    exact ⟨K, fd, K05.spLaw K, KX, hb, fun H a ns hl _ hS => ⟨a, ns, rfl, hS, hl, fun _ => rfl⟩, hF⟩


