import PyProof.Rows.All
import Wide.All
import OpenK.AllK
import Wide.FinOn
import HandS.Base
import HandS.Call
import HandS.List
import HandS.Comp
import HandS.Ends
import HandS.Iter
import HandS.Text
import HandS.Words
import HandS.WordsList
import HandS.IsInst
import HandS.More
import HandS.Wide
import HandS.Style
import HandS.EndBits
import HandS.Exc
import HandS.ExcOwn
import HandS.ExcInit
import HandS.ExcField
import HandS.TryOnly
import HandS.WordsExc
import HandS.FStr
import HandS.Defaults
import HandS.Lambda
import HandS.EndTab
import HandS.Dict
import HandS.Conv
import HandS.Zip
import HandS.MakeKwOnly
import HandS.Deep
import KE.DatumOrd
import HandS.Rev
import PyProof.Rows.RowBridgeK
import HandS.SetFor
import HandS.Walk
import HandS.TupAny
import KE.GoesZip
import KE.GoesMore
import KE.GoesEnum
import HandS.EndOwn
import PySem.Challenge.RW_warbleline_k35_papers_of_rates
set_option Elab.async false
set_option linter.all false
set_option maxRecDepth 100000
set_option maxHeartbeats 2000000
namespace WB
open PySem PySem.Spec PyProof.Rows L2
/-! ### a def that may be called by its name, letting nothing out -/
def Cal (P : Program) (w : World) (K : PySem.W.Frag) (mg : Str → Option Value) (base : Heap) (k : Nat) (nm : Str) (ps : List Str) (sp : Sp) : Prop :=
  ∃ (f : Addr) (fd : FuncData), FnOk P w K mg base CX0 k f fd ps sp ∧ mg nm = some (.ref f) ∧ PySem.W.keepIn K (.ref f) = true ∧ Binds K fd ps []
theorem Cal.mono {P : Program} {w : World} {K : PySem.W.Frag} {mg : Str → Option Value} {base : Heap} {j k : Nat} {nm : Str} {ps : List Str} {sp : Sp} (c : Cal P w K mg base j nm ps sp) (h : j ≤ k) : Cal P w K mg base k nm ps sp := by
  obtain ⟨f, fd, a, b, d, e⟩ := c
  exact ⟨f, fd, a.mono h, b, d, e⟩
section
variable {X : Cx} {k : Nat} {nm : Str} {ps : List Str} {sp : Sp} {e : Expr} {es : List Expr} {t : TA} {p pos : Pos}
theorem pe_callC (c : Cal X.prog X.w X.K X.mg X.base k nm ps sp) (hr : Room k X.A) (hg : Gl X nm) (ha : PA X (e :: es) t) (hdb : (nm == ("__debug__" : Str)) = false := by decide)
    (he : starEach (e :: es) X.env = (false, eval e X.env) :: starEach es X.env := by rfl) (hpl : (backTo pos (starEach es X.env)).any (·.1) = false := by rfl) :
    PE X (.Call (.Name nm p) (e :: es) [] pos) (tCall sp [] E0 t) := by
  obtain ⟨f, fd, a, b, d, g⟩ := c
  exact pe_call a hr hg b d g .nil pass0 ha hdb he hpl
theorem pe_callC0 (c : Cal X.prog X.w X.K X.mg X.base k nm ps sp) (hr : Room k X.A) (hg : Gl X nm) (hdb : (nm == ("__debug__" : Str)) = false := by decide) :
    PE X (.Call (.Name nm p) [] [] pos) (tCall sp [] E0 tNil) := by
  obtain ⟨f, fd, a, b, d, g⟩ := c
  exact pe_call0 a hr hg b d g .nil pass0 hdb
end
/-! ### rules with the written part by its name (a comprehension's block has the same one) -/
section
variable {X : Cx} (K : PySem.W.Frag)
theorem ix_listK (h : X.K = K) : IxR X (rIxL K) := by subst h; exact ix_list
theorem ix_tupK (h : X.K = K) : IxR X (rIxT K) := by subst h; exact ix_tup
theorem ix_seqK (h : X.K = K) : IxR X (rIx K) := by subst h; exact ix_seq
def rLenK (K : PySem.W.Frag) : List V → Hp → VK → Prop := fun xs H Q => ∃ p ys, xs = [.ref p] ∧ (SqL K H p ys ∨ SqT K H p ys) ∧ Q (.int ys.length) H
theorem call_lenK (h : X.K = K) : CallR X (.builtin "len") (rLenK K) := by subst h; exact call_len_seq
def rListK (K : PySem.W.Frag) : List V → Hp → VK → Prop := fun xs H Q => ∃ p ys, xs = [.ref p] ∧ (SqL K H p ys ∨ SqT K H p ys) ∧ ∀ l, H l = none → Q (.ref l) (upd H l (.lst ys))
theorem call_listK (h : X.K = K) : CallR X (.type "list") (rListK K) := by subst h; exact call_list_of
theorem call_isiK1 (h : X.K = K) : CallR X (.builtin "isinstance") (rIsi K) := by subst h; exact call_isi
theorem call_isiTK (h : X.K = K) : CallR X (.builtin "isinstance") (rIsiT K) := by subst h; exact call_isiT
theorem op_inK (h : X.K = K) : OpR X (compareOp .In) (rIn K false) := by subst h; exact op_in_seq
theorem op_notInK (h : X.K = K) : OpR X (compareOp .NotIn) (rIn K true) := by subst h; exact op_notIn_seq
theorem op_eqDK (h : X.K = K) (hu : X.A.units + 64 < cLine) : OpR X (compareOp .Eq) (rEqD K) := by subst h; exact op_eqD hu
theorem op_neDK (h : X.K = K) (hu : X.A.units + 64 < cLine) : OpR X (compareOp .NotEq) (rNeD K) := by subst h; exact op_neD hu
theorem sl_listK (h : X.K = K) : SlR X (rSlL K) := by subst h; exact sl_list
theorem cr_allK (h : X.K = K) (hc : X.calm = true) : CallR X (.builtin "all") (rAll K) := by subst h; exact cr_all hc
variable {o e : Expr} {es : List Expr} {to : TE} {t : TA} {name : Str} {apos cpos : Pos} {T id : String} {r : V → List V → Hp → VK → Prop}
theorem pe_bm0K (h : X.K = K) (pa : PlainAttrs T) (slot : Slot T name id) (hty : typeOf (.builtin id) = pure (.type "method_descriptor")) (hm : MtR X id r) (ho : PE X o to)
    (hbase : attributeBase o name X.env (eval o X.env) = eval o X.env := by rfl) (hline : (apos.endLine == cpos.line) = true := by rfl) : PE X (.Call (.Attribute o name apos) [] [] cpos) (tBM0 K T r to) := by
  subst h; exact pe_bm0 pa slot hty hm ho hbase hline
theorem pe_bmK (h : X.K = K) (pa : PlainAttrs T) (slot : Slot T name id) (hty : typeOf (.builtin id) = pure (.type "method_descriptor")) (hm : MtR X id r) (ho : PE X o to) (ha : PA X (e :: es) t)
    (hbase : attributeBase o name X.env (eval o X.env) = eval o X.env := by rfl)
    (hfew : ((backTo cpos (starEach (e :: es) X.env)).all (fun x => !x.1) && (backToKw cpos (keywordEach [] X.env)).all (fun x => x.1.isSome)
      && decide ((e :: es).length + ([] : List Keyword).length + (if ([] : List Keyword).isEmpty then 0 else 1) < 30)) = true := by rfl)
    (hline : (apos.endLine == cpos.line) = true := by rfl) (hs : starEach (e :: es) X.env = (false, eval e X.env) :: starEach es X.env := by rfl) (hplain : (backTo cpos (starEach es X.env)).any (·.1) = false := by rfl) :
    PE X (.Call (.Attribute o name apos) (e :: es) [] cpos) (tBM K T r to t) := by
  subst h; exact pe_bm pa slot hty hm ho ha hbase hfew hline hs hplain
variable {tg l : Expr} {tl : TE}
theorem pi_listK (h : X.K = K) (hl : PE X l tl) : PI X tg l (iList K tl) := by subst h; exact pi_list hl
theorem pi_tupK (h : X.K = K) (hl : PE X l tl) : PI X tg l (iTup K tl) := by subst h; exact pi_tup hl
end
/-- behind a statement: what its ways have in common -/
theorem seq_by {t u : TS} {D : Ends} {σ : L2.St} {H : Hp} (J : L2.St → Hp → Prop) (h2 : ∀ σ1 H1, J σ1 H1 → u D σ1 H1) (h1 : (∀ σ1 H1, J σ1 H1 → u D σ1 H1) → t { D with nx := u D } σ H) : tSeq t u D σ H := h1 h2
theorem if_by {c : TT} {t1 t2 u : TS} {D : Ends} {σ : L2.St} {H : Hp} (J : L2.St → Hp → Prop) (h2 : ∀ σ1 H1, J σ1 H1 → u D σ1 H1) (h1 : (∀ σ1 H1, J σ1 H1 → u D σ1 H1) → tIfS c t1 t2 { D with nx := u D } σ H) : tSeq (tIfS c t1 t2) u D σ H := h1 h2
theorem asg_by {te : TE} {i : Nat} {u : TS} {D : Ends} {σ : L2.St} {H : Hp} (J : V → Hp → Prop) (h2 : ∀ v H1, J v H1 → u D (σ.set i (some v)) H1) (h1 : (∀ v H1, J v H1 → u D (σ.set i (some v)) H1) → te σ H (fun x H1 => gName i x σ H1 (u D))) : tSeq (tAsg te (gName i)) u D σ H := h1 h2
theorem name_by {i : Nat} {v : V} {σ : L2.St} {H : Hp} {Q : L2.St → Hp → Prop} (h : Q (σ.set i (some v)) H) : gName i v σ H Q := h
/-! ### heaps -/
theorem same_upd {H : Hp} {p : Addr} {o : HO} (h : H p = none) : Same H (upd H p o) := fun b x e => by
  rw [upd_ne (ne_of_none e h)]
  exact e
/-- an object that was not there ahead may change -/
theorem same_mut {H H' : Hp} {p : Addr} {o : HO} (e : Same H H') (h : H p = none) : Same H (upd H' p o) := fun b x q => by
  rw [upd_ne (ne_of_none q h)]
  exact e b x q
/-- all but what stands at b stays -/
def Mv (b : Addr) (H H' : Hp) : Prop := ∀ a o, a ≠ b → H a = some o → H' a = some o
theorem Mv.refl (b : Addr) (H : Hp) : Mv b H H := fun _ _ _ h => h
theorem Mv.trans {b : Addr} {H H1 H2 : Hp} (x : Mv b H H1) (y : Mv b H1 H2) : Mv b H H2 := fun a o n h => y a o n (x a o n h)
theorem Mv.of {b : Addr} {H H' : Hp} (s : Same H H') : Mv b H H' := fun a o _ h => s a o h
theorem Mv.upd {b : Addr} {H H' : Hp} {o : HO} (x : Mv b H H') : Mv b H (upd H' b o) := fun a u n h => by
  rw [upd_ne n]
  exact x a u n h
theorem Mv.none {b p : Addr} {H H' : Hp} (x : Mv b H H') (n : p ≠ b) (h : H' p = none) : H p = none := by
  cases q : H p with
  | none => rfl
  | some o =>
    rw [x p o n q] at h
    cases h
/-! ### the bag: b.1 the bag, b.2 its numbers -/
def bagL (s : Addr) (i r x c : Int) : List V := [.ref s, .int i, .int r, .int x, .int c]
def Bag (b : Addr × Addr) (H : Hp) : Prop := ∃ (ns : List Int) (i r x c : Int), H b.1 = some (.lst (bagL b.2 i r x c)) ∧ H b.2 = some (.lst (ns.map V.int)) ∧ b.2 ≠ b.1 ∧ 0 ≤ i ∧ 0 ≤ x ∧ x < 2147483648
theorem Bag.same {b : Addr × Addr} {H H' : Hp} (g : Bag b H) (s : Same H H') : Bag b H' := by
  obtain ⟨ns, i, r, x, c, h1, h2, h3, h4, h5, h6⟩ := g
  exact ⟨ns, i, r, x, c, s _ _ h1, s _ _ h2, h3, h4, h5, h6⟩
theorem Bag.ne {b : Addr × Addr} {p : Addr} {H : Hp} (g : Bag b H) (h : H p = none) : p ≠ b.1 := by
  obtain ⟨ns, i, r, x, c, h1, _⟩ := g
  exact fun z => by rw [z, h1] at h; cases h
theorem Bag.ne2 {b : Addr × Addr} {p : Addr} {H : Hp} (g : Bag b H) (h : H p = none) : p ≠ b.2 := by
  obtain ⟨ns, i, r, x, c, _, h1, _⟩ := g
  exact fun z => by rw [z, h1] at h; cases h
theorem Bag.upd {b : Addr × Addr} {p : Addr} {o : HO} {H : Hp} (g : Bag b H) (h1 : p ≠ b.1) (h2 : p ≠ b.2) : Bag b (L2.upd H p o) := by
  obtain ⟨ns, i, r, x, c, e1, e2, h3⟩ := g
  exact ⟨ns, i, r, x, c, by rw [upd_ne h1.symm]; exact e1, by rw [upd_ne h2.symm]; exact e2, h3⟩
/-- a draw: its bag, its bound -/
def spPick : Sp := fun vs H Q _ => ∃ (b : Addr × Addr) (top : Int), vs = [.ref b.1, .int top] ∧ Bag b H ∧ 0 < top ∧ top < 1073741824 ∧ ∀ (H' : Hp) (d : Int), Mv b.1 H H' → Bag b H' → 0 ≤ d → d < top → Q (.int d) H'
/-- the bag of a script -/
def spBag (K : PySem.W.Frag) : Sp := fun vs H Q _ => ∃ (a : Addr) (ns : List Int), vs = [.ref a] ∧ SqL K H a (ns.map V.int) ∧ ∀ (H' : Hp) (b : Addr × Addr), Same H H' → H b.1 = none → Bag b H' → Q (.ref b.1) H'
/-- one of the list's things -/
def spOf (K : PySem.W.Frag) : Sp := fun vs H Q _ => ∃ (b : Addr × Addr) (l : Addr) (xs : List V), vs = [.ref b.1, .ref l] ∧ Bag b H ∧ l ≠ b.1 ∧ H l = some (.lst xs) ∧ 0 < xs.length ∧ xs.length < 1000 ∧ ∀ (H' : Hp) (v : V), Mv b.1 H H' → Bag b H' → v ∈ xs → Q v H'
section
variable {K : PySem.W.Frag}
def tyN : PyData → String
  | .none => "NoneType"
  | .bool _ => "bool"
  | .int _ => "int"
  | .str _ => "str"
  | .list _ => "list"
  | .tuple _ => "tuple"
  | .dict _ => "dict"
theorem ty_dp {H : Hp} {x : V} {d : PyData} (h : Dp K H x d) : TyX K H x (.type (tyN d)) := by
  cases h with
  | non => exact .base .non
  | bl b => exact .base (.bl b)
  | int i => exact .base (.int i)
  | str x => exact .base (.str x)
  | lst hs _ =>
    rcases hs with (h | ⟨o, h⟩) | ⟨o, its, n, h1, h2, _⟩
    · exact .base (.lst h)
    · exact .base (.frz h)
    · exact .kList h1 h2
  | tup hs _ =>
    rcases hs with (h | ⟨o, h⟩) | ⟨o, its, n, h1, h2, _⟩
    · exact .base (.tup h)
    · exact .fTuple h
    · exact .kTuple h1 h2
theorem same_t {H H' : Hp} {a : Addr} {xs : List V} (e : Same H H') (h : SqT K H a xs) : SqT K H' a xs := by
  rcases h with (h | ⟨o, h⟩) | h
  · exact .inl (.inl (e _ _ h))
  · exact .inl (.inr ⟨o, e _ _ h⟩)
  · exact .inr h
mutual
theorem dp_same {H H' : Hp} (e : Same H H') : ∀ {d : PyData} {x : V}, Dp K H x d → Dp K H' x d
  | _, _, .non => .non
  | _, _, .bl b => .bl b
  | _, _, .int i => .int i
  | _, _, .str s => .str s
  | _, _, .lst hs ha => .lst (e.seq hs) (dpa_same e ha)
  | _, _, .tup hs ha => .tup (same_t e hs) (dpa_same e ha)
theorem dpa_same {H H' : Hp} (e : Same H H') : ∀ {ds : List PyData} {xs : List V}, DpAll K H xs ds → DpAll K H' xs ds
  | _, _, .nil => .nil
  | _, _, .cons h t => .cons (dp_same e h) (dpa_same e t)
end
theorem dpa_len {H : Hp} : ∀ {xs : List V} {ds : List PyData}, DpAll K H xs ds → xs.length = ds.length
  | _, _, .nil => rfl
  | _, _, .cons _ t => congrArg (· + 1) (dpa_len t)
theorem dpa_get {H : Hp} : ∀ {xs : List V} {ds : List PyData} {i : Nat} {d : PyData}, DpAll K H xs ds → ds[i]? = some d → ∃ x, xs[i]? = some x ∧ Dp K H x d
  | _, _, _, _, .nil, e => by simp at e
  | _, _, 0, _, .cons h _, e => by simp at e; subst e; exact ⟨_, rfl, h⟩
  | _, _, i + 1, d, .cons _ t, e => by
    obtain ⟨x, h1, h2⟩ := dpa_get (i := i) (d := d) t (by simpa using e)
    exact ⟨x, by simpa using h1, h2⟩
/-- data of at most so many levels -/
def Dn : Nat → PyData → Prop
  | 0, _ => False
  | n + 1, d => (∃ b, d = .bool b) ∨ (∃ i, d = .int i) ∨ (∃ s, d = .str s) ∨ d = .none ∨ ∃ ds, (d = .list ds ∨ d = .tuple ds) ∧ ds.length ≤ 100000 ∧ ∀ e ∈ ds, Dn n e
def spSame (K : PySem.W.Frag) (n : Nat) : Sp := fun vs H Q _ => ∃ (x y : V) (d : PyData), vs = [x, y] ∧ Dp K H x d ∧ Dp K H y d ∧ Dn n d ∧ SeqAt.shaped d = true ∧ ∀ H', Same H H' → Q (.bl true) H'
theorem tYes_by {σ : L2.St} {H : Hp} {Q : Bool → Hp → Prop} (h : Q true H) : tYes σ H Q := h
theorem canLay_mem : ∀ {ds : List PyData} {e : PyData}, e ∈ ds → PyData.canLayAll0 ds = true → PyData.canLay0 e = true
  | d :: ds, e, hm, h => by
    have h : (PyData.canLay0 d && PyData.canLayAll0 ds) = true := h
    rw [Bool.and_eq_true] at h
    rcases List.mem_cons.mp hm with rfl | hm
    · exact h.1
    · exact canLay_mem hm h.2
theorem depth_mem : ∀ {ds : List PyData} {e : PyData}, e ∈ ds → PyData.depth e ≤ PyData.depthAll ds
  | d :: ds, e, hm => by
    show _ ≤ max (PyData.depth d) (PyData.depthAll ds)
    rcases List.mem_cons.mp hm with rfl | hm
    · exact Nat.le_max_left _ _
    · exact Nat.le_trans (depth_mem hm) (Nat.le_max_right _ _)
theorem shaped_mem {ds : List PyData} {e : PyData} (hm : e ∈ ds) (h : SeqAt.shaped (.list ds) = true ∨ SeqAt.shaped (.tuple ds) = true) : SeqAt.shaped e = true := by
  have k : PyData.canLayAll0 ds = true ∧ PyData.depthAll ds + 1 ≤ 64 := by
    rcases h with h | h
    · exact ⟨SeqAt.canLay_of_shaped h, SeqAt.depth_of_shaped h⟩
    · exact ⟨SeqAt.canLay_of_shaped h, SeqAt.depth_of_shaped h⟩
  unfold SeqAt.shaped
  rw [Bool.and_eq_true]
  exact ⟨canLay_mem hm k.1, decide_eq_true (by have := depth_mem hm; omega)⟩
theorem ifT {A B : Prop} {b : Bool} (e : b = true) (h : A) : if b = true then A else B := by rw [if_pos e]; exact h
theorem ifF {A B : Prop} {b : Bool} (e : b = false) (h : B) : if b = true then A else B := by rw [e]; exact iteF h
end
end WB
namespace WB
open PySem PySem.Spec PyProof.Rows L2
section
variable {K : PySem.W.Frag}
theorem for_enumK {a : Addr} {xs : List V} {g : TG} {tb : TS} {D : Ends} {σ : L2.St} {H : Hp} (Pv : Nat → L2.St → Hp → Prop) (h0 : Pv 0 σ H) (hl : ∀ i σ H, i ≤ xs.length → Pv i σ H → SqL K H a xs)
    (hs : ∀ i x T σ H, xs[i]? = some x → Pv i σ H → H T = none → g (.ref T) σ (upd H T (.tup [.int (i : Nat), x])) fun σ2 H2 => tb { D with nx := Pv (i + 1), ct := Pv (i + 1), bk := D.nx } σ2 H2) (hd : ∀ σ H, Pv xs.length σ H → D.nx σ H) :
    ∃ W : Nat → Nat → L2.St → Hp → Prop, (∃ m, W 0 m σ H) ∧ ∀ i m σ H, W i m σ H →
      ((Ite K a).stop i H ∧ D.nx σ H) ∨ ((Ite K a).go i H ∧ ∃ N : L2.St → Hp → Prop, (∀ σ' H', N σ' H' → ∃ m', m' < m ∧ W (i + 1) m' σ' H') ∧ ∀ x H', (Ite K a).yld i H x H' → g x σ H' fun σ2 H2 => tb { D with nx := N, ct := N, bk := D.nx } σ2 H2) := by
  refine ⟨fun i m σ H => m = xs.length - i ∧ i ≤ xs.length ∧ Pv i σ H, ⟨xs.length, by simp, Nat.zero_le _, h0⟩, ?_⟩
  rintro i m σ H ⟨rfl, hi, p⟩
  have q := hl i σ H hi p
  by_cases hlt : i < xs.length
  · refine .inr ⟨⟨xs, xs[i], q, by simp [hlt]⟩, Pv (i + 1), fun σ' H' p' => ⟨xs.length - (i + 1), by omega, rfl, hlt, p'⟩, fun x H' y => ?_⟩
    obtain ⟨T, z, rfl, nT, rfl, y⟩ := y
    exact hs i z T σ H (y xs q) p nT
  · have e : i = xs.length := by omega
    subst e
    exact .inl ⟨⟨xs, q, Nat.le_refl _⟩, hd σ H p⟩
end
/-! ### bits, numbers in bits, seals: the mathematics -/
def Bits (ns : List Int) : Prop := ∀ z ∈ ns, z = 0 ∨ z = 1
/-- a number in so many bits, the one of greatest worth first -/
def wr : Nat → Int → List Int
  | 0, _ => []
  | i + 1, n => ((n / 2 ^ i) % 2) :: wr i n
theorem wr_len : ∀ (i : Nat) (n : Int), (wr i n).length = i
  | 0, _ => rfl
  | i + 1, n => congrArg (· + 1) (wr_len i n)
theorem wr_bits : ∀ (i : Nat) (n : Int), Bits (wr i n)
  | 0, _ => fun z h => nomatch h
  | i + 1, n => fun z h => by
    rcases List.mem_cons.mp h with rfl | h
    · omega
    · exact wr_bits i n z h
theorem half (n : Int) (i : Nat) : n / 2 ^ i / 2 = n / 2 ^ (i + 1) := by
  rw [Int.pow_succ, Int.ediv_ediv_of_nonneg (by exact Int.pow_nonneg (by decide))]
/-- the register: one more bit -/
def stepR (c : Nat) (b : Int) : Nat := if ((c / 32768 : Nat) : Int) = b then c * 2 % 65536 else (c * 2 % 65536) ^^^ 4129
theorem stepR_lt (c : Nat) (b : Int) : stepR c b < 65536 := by
  unfold stepR
  have h : c * 2 % 65536 < 65536 := Nat.mod_lt _ (by decide)
  split
  · exact h
  · exact Nat.xor_lt_two_pow (n := 16) h (by decide)
def regs (bs : List Int) : Nat := bs.foldl stepR 65535
theorem regs_lt (bs : List Int) : regs bs < 65536 := by
  have : ∀ (l : List Int) (c : Nat), c < 65536 → l.foldl stepR c < 65536 := by
    intro l
    induction l with
    | nil => exact fun c h => h
    | cons b r ih => exact fun c _ => ih _ (stepR_lt c b)
  exact this bs 65535 (by decide)
def sealL (bs : List Int) : List Int := wr 16 (regs bs : Nat)
theorem take_more {α : Type} {l : List α} {i : Nat} {x : α} (h : l[i]? = some x) : l.take (i + 1) = l.take i ++ [x] := by
  rw [List.take_add_one, h]
  rfl
theorem regs_more {bs : List Int} {i : Nat} {b : Int} (h : bs[i]? = some b) : regs (bs.take (i + 1)) = stepR (regs (bs.take i)) b := by
  unfold regs
  rw [take_more h, List.foldl_append]
  rfl
theorem wr_at (c : Nat) (i : Nat) : ((c : Int) / 2 ^ i) % 2 = if c.testBit i then 1 else 0 := by
  have e : ((c : Int) / 2 ^ i) % 2 = ((c / 2 ^ i % 2 : Nat) : Int) := by
    rw [Int.natCast_emod, Int.natCast_ediv, Int.natCast_pow]
    rfl
  rw [e, Nat.testBit_eq_decide_div_mod_eq]
  have h : c / 2 ^ i % 2 < 2 := Nat.mod_lt _ (by decide)
  by_cases h1 : c / 2 ^ i % 2 = 1
  · rw [h1]; rfl
  · have h0 : c / 2 ^ i % 2 = 0 := by omega
    rw [h0]; rfl
def holdsB (ns : List Int) : Bool := decide (16 ≤ ns.length) && decide (sealL (ns.take (ns.length - 16)) = ns.drop (ns.length - 16))
theorem wr_shift (c : Nat) : wr 16 ((c * 2 % 65536 : Nat) : Int) = (wr 16 (c : Int)).drop 1 ++ [0] := by
  have e : ((c * 2 % 65536 : Nat) : Int) = (c : Int) * 2 % 65536 := by rw [Int.natCast_emod, Int.natCast_mul]; rfl
  rw [e]
  generalize (c : Int) = z
  simp only [wr, List.drop, List.cons_append, List.nil_append, List.cons.injEq, and_true]
  refine ⟨?_, ?_, ?_, ?_, ?_, ?_, ?_, ?_, ?_, ?_, ?_, ?_, ?_, ?_, ?_, ?_⟩ <;> omega
def fl (M : List Int) (k : Nat) : List Int := M.set k (1 - M.getD k 0)
theorem wr_flip (a : Nat) : wr 16 ((a ^^^ 4129 : Nat) : Int) = fl (fl (fl (wr 16 (a : Int)) 3) 10) 15 := by
  simp only [wr, wr_at, Nat.testBit_xor, fl]
  simp only [List.set, List.getD, List.getElem?_cons_succ, List.getElem?_cons_zero, Option.getD]
  have h : ∀ i : Nat, (if ((a.testBit i) ^^ true) = true then (1 : Int) else 0) = 1 - (if a.testBit i = true then 1 else 0) := by
    intro i
    cases a.testBit i <;> rfl
  have t0 : (4129 : Nat).testBit 0 = true := by decide
  have t5 : (4129 : Nat).testBit 5 = true := by decide
  have t12 : (4129 : Nat).testBit 12 = true := by decide
  have n1 : (4129 : Nat).testBit 1 = false := by decide
  have n2 : (4129 : Nat).testBit 2 = false := by decide
  have n3 : (4129 : Nat).testBit 3 = false := by decide
  have n4 : (4129 : Nat).testBit 4 = false := by decide
  have n6 : (4129 : Nat).testBit 6 = false := by decide
  have n7 : (4129 : Nat).testBit 7 = false := by decide
  have n8 : (4129 : Nat).testBit 8 = false := by decide
  have n9 : (4129 : Nat).testBit 9 = false := by decide
  have n10 : (4129 : Nat).testBit 10 = false := by decide
  have n11 : (4129 : Nat).testBit 11 = false := by decide
  have n13 : (4129 : Nat).testBit 13 = false := by decide
  have n14 : (4129 : Nat).testBit 14 = false := by decide
  have n15 : (4129 : Nat).testBit 15 = false := by decide
  simp only [t0, t5, t12, n1, n2, n3, n4, n6, n7, n8, n9, n10, n11, n13, n14, n15, Bool.xor_false, h]
/-- data of ints -/
def dI (ns : List Int) : PyData := .list (ns.map PyData.int)
theorem dpa_ints {K : PySem.W.Frag} {H : Hp} : ∀ ns : List Int, DpAll K H (ns.map V.int) (ns.map PyData.int)
  | [] => .nil
  | n :: r => .cons (.int n) (dpa_ints r)
theorem dp_ints {K : PySem.W.Frag} {H : Hp} {a : Addr} {ns : List Int} (h : SqL K H a (ns.map V.int)) : Dp K H (.ref a) (dI ns) := .lst h (dpa_ints ns)
theorem depth_ints : ∀ ns : List Int, PyData.depthAll (ns.map PyData.int) = 0
  | [] => rfl
  | n :: r => by
    show max 0 (PyData.depthAll (r.map PyData.int)) = 0
    rw [depth_ints r]
    rfl
theorem canLay_ints : ∀ ns : List Int, PyData.canLayAll0 (ns.map PyData.int) = true
  | [] => rfl
  | n :: r => by
    show (true && PyData.canLayAll0 (r.map PyData.int)) = true
    rw [canLay_ints r]
    rfl
theorem shaped_ints (ns : List Int) : SeqAt.shaped (dI ns) = true := by
  unfold SeqAt.shaped
  rw [Bool.and_eq_true]
  refine ⟨canLay_ints ns, decide_eq_true ?_⟩
  show PyData.depthAll (ns.map PyData.int) + 1 ≤ 64
  rw [depth_ints]
  decide
theorem eqv_ints (ns ms : List Int) : PyData.eqv (dI ns) (dI ms) = decide (ns = ms) := by
  have : ∀ (ns ms : List Int), PyData.eqvAll (ns.map PyData.int) (ms.map PyData.int) = decide (ns = ms) := by
    intro ns
    induction ns with
    | nil =>
      intro ms
      cases ms with
      | nil => rfl
      | cons m r => rfl
    | cons n r ih =>
      intro ms
      cases ms with
      | nil => rfl
      | cons m t =>
        show (PyData.eqv (.int n) (.int m) && PyData.eqvAll (r.map PyData.int) (t.map PyData.int)) = _
        rw [ih t]
        show ((n == m) && decide (r = t)) = _
        rw [show (n == m) = decide (n = m) from by rw [Bool.beq_eq_decide_eq], ← Bool.decide_and]
        exact decide_eq_decide.mpr ⟨fun h => by rw [h.1, h.2], fun h => List.cons.inj h⟩
  exact this ns ms
/-! ### what a law knows of the heap: the bag at b, and these -/
structure SH (b : Addr × Addr) (H : Hp) (L : List (Addr × HO)) : Prop where
  bag : Bag b H
  nb : ∀ p ∈ L, p.1 ≠ b.1 ∧ p.1 ≠ b.2
  kn : ∀ p ∈ L, H p.1 = some p.2
section
variable {b : Addr × Addr} {p : Addr} {H H' : Hp} {L L' : List (Addr × HO)} {o o' : HO}
theorem SH.same (h : SH b H L) (s : Same H H') : SH b H' L := ⟨h.bag.same s, h.nb, fun q hq => s _ _ (h.kn q hq)⟩
theorem SH.mv (h : SH b H L) (m : Mv b.1 H H') (g : Bag b H') : SH b H' L := ⟨g, h.nb, fun q hq => m _ _ (h.nb q hq).1 (h.kn q hq)⟩
theorem SH.add (h : SH b H L) (n : p ≠ b.1) (n2 : p ≠ b.2) (e : H p = some o) : SH b H ((p, o) :: L) :=
  ⟨h.bag, fun q hq => (List.mem_cons.mp hq).elim (fun z => by rw [z]; exact ⟨n, n2⟩) (h.nb q), fun q hq => (List.mem_cons.mp hq).elim (fun z => by rw [z]; exact e) (h.kn q)⟩
theorem SH.new (h : SH b H L) (n : H p = none) : SH b (upd H p o) ((p, o) :: L) := (h.same (same_upd n)).add (h.bag.ne n) (h.bag.ne2 n) upd_same
theorem SH.newS (h : SH b H L) (s : Same H H') (n : H p = none) (e : H' p = some o) : SH b H' ((p, o) :: L) := (h.same s).add (h.bag.ne n) (h.bag.ne2 n) e
theorem SH.newM (h : SH b H L) (m : Mv b.1 H H') (g : Bag b H') (n : H p = none) (e : H' p = some o) : SH b H' ((p, o) :: L) := (h.mv m g).add (h.bag.ne n) (h.bag.ne2 n) e
theorem SH.sub (h : SH b H L) (hs : ∀ q ∈ L', q ∈ L) : SH b H L' := ⟨h.bag, fun q hq => h.nb q (hs q hq), fun q hq => h.kn q (hs q hq)⟩
theorem SH.get (h : SH b H L) (hm : (p, o) ∈ L) : H p = some o := h.kn _ hm
theorem SH.ne (h : SH b H L) (hm : (p, o) ∈ L) : p ≠ b.1 := (h.nb _ hm).1
/-- the first of them is written; the others stand elsewhere -/
theorem SH.put (h : SH b H ((p, o) :: L)) (hd : ∀ q ∈ L, q.1 ≠ p) : SH b (upd H p o') ((p, o') :: L) :=
  ⟨h.bag.upd (h.nb _ (.head _)).1 (h.nb _ (.head _)).2, fun q hq => (List.mem_cons.mp hq).elim (fun z => by rw [z]; exact h.nb (p, o) (.head L)) (fun hq => h.nb q (.tail _ hq)),
    fun q hq => (List.mem_cons.mp hq).elim (fun z => by rw [z]; exact upd_same) (fun hq => by rw [upd_ne (hd q hq)]; exact h.kn q (.tail _ hq))⟩
theorem SH.apart (h : SH b H L) (n : H p = none) : ∀ q ∈ L, q.1 ≠ p := fun q hq => ne_of_none (h.kn q hq) n
theorem SH.nil (g : Bag b H) : SH b H [] := ⟨g, (fun _ h => absurd h List.not_mem_nil), (fun _ h => absurd h List.not_mem_nil)⟩
end
theorem bits_nil : Bits [] := fun _ h => nomatch h
theorem bits_app {a c : List Int} (h : Bits a) (h' : Bits c) : Bits (a ++ c) := fun z hz => (List.mem_append.mp hz).elim (h z) (h' z)
theorem bits_one {z : Int} (h : z = 0 ∨ z = 1) : Bits [z] := fun y hy => by rw [List.mem_singleton.mp hy]; exact h
theorem bits_take {a : List Int} (h : Bits a) (n : Nat) : Bits (a.take n) := fun z hz => h z (List.mem_of_mem_take hz)
theorem bits_drop {a : List Int} (h : Bits a) (n : Nat) : Bits (a.drop n) := fun z hz => h z (List.mem_of_mem_drop hz)
theorem seal_bits (ns : List Int) : Bits (sealL ns) := wr_bits _ _
theorem seal_len (ns : List Int) : (sealL ns).length = 16 := wr_len _ _
theorem cut_to_n (xs : List V) (n : Nat) : cutV xs none (some (n : Int)) = xs.take n := by
  unfold cutV
  rw [HT.sIx_none, HT.sIx_nat, List.drop_zero, Nat.sub_zero]
  by_cases h : n ≤ xs.length
  · rw [Nat.min_eq_left h]
  · rw [Nat.min_eq_right (by omega), List.take_of_length_le (Nat.le_refl _), List.take_of_length_le (by omega)]
theorem cut_from_n (xs : List V) (n : Nat) : cutV xs (some (n : Int)) none = xs.drop n := by
  unfold cutV
  rw [HT.sIx_none, HT.sIx_nat]
  by_cases h : n ≤ xs.length
  · rw [Nat.min_eq_left h]
    exact List.take_of_length_le (by simp)
  · rw [Nat.min_eq_right (by omega), List.drop_of_length_le (Nat.le_refl _), List.drop_of_length_le (by omega)]
    exact List.take_nil
theorem sIx_back (l d n : Nat) (h : 0 < n) : HT.sIx l d (some (-(n : Int))) = l - n := by
  show (if -(n : Int) < 0 then (-(n : Int) + (l : Int)).toNat else min (-(n : Int)).toNat l) = l - n
  rw [if_pos (by omega)]
  omega
theorem cut_to_b (xs : List V) (n : Nat) (h : 0 < n) : cutV xs none (some (-(n : Int))) = xs.take (xs.length - n) := by
  unfold cutV
  rw [HT.sIx_none, sIx_back _ _ n h, List.drop_zero, Nat.sub_zero]
theorem cut_from_b (xs : List V) (n : Nat) (h : 0 < n) : cutV xs (some (-(n : Int))) none = xs.drop (xs.length - n) := by
  unfold cutV
  rw [HT.sIx_none, sIx_back _ _ n h]
  exact List.take_of_length_le (by simp)
theorem sz4 {n : Nat} (h : n ≤ 100000) : n ≤ sizeLine := Nat.le_trans h (by decide)
theorem sz4l {n : Nat} (h : n < 100000) : n < sizeLine := Nat.lt_of_lt_of_le h (by decide)
theorem holds_sealed {ns : List Int} : holdsB (ns ++ sealL ns) = true := by
  unfold holdsB
  have l : (ns ++ sealL ns).length = ns.length + 16 := by rw [List.length_append, seal_len]
  rw [l, Nat.add_sub_cancel, List.take_left, List.drop_left]
  simp
theorem holds_short {ns : List Int} (h : ns.length < 16) : holdsB ns = false := by
  unfold holdsB
  rw [decide_eq_false (by omega), Bool.false_and]
theorem inV_ints (z : Int) : ∀ ks : List Int, inV (.int z) (ks.map V.int) = decide (z ∈ ks)
  | [] => rfl
  | k :: r => by
    show ((k == z) || inV (.int z) (r.map V.int)) = _
    rw [inV_ints z r]
    by_cases h : z = k
    · subst h
      simp
    · have h2 : (k == z) = false := by simpa using fun e => h e.symm
      rw [h2, Bool.false_or]
      exact decide_eq_decide.mpr ⟨fun hm => .tail _ hm, fun hm => (List.mem_cons.mp hm).elim (fun e => absurd e h) (fun e => e)⟩
def isB (b : Int) : Prop := b = 0 ∨ b = 1
theorem bits_cons {b : Int} {r : List Int} (h : Bits (b :: r)) : isB b ∧ Bits r := ⟨h b (.head _), fun z hz => h z (.tail _ hz)⟩
theorem getI {ns : List Int} {i : Nat} {y : V} (h : (ns.map V.int)[i]? = some y) : ∃ z, ns[i]? = some z ∧ y = V.int z := by
  rw [List.getElem?_map] at h
  cases e : ns[i]? with
  | none => rw [e] at h; cases h
  | some z => rw [e] at h; exact ⟨z, rfl, (Option.some.inj h).symm⟩
end WB
namespace WB
open PySem PySem.Spec PyProof.Rows L2
/-! ### a class's own function, called by the class: C.m(e, ..) -/
structure ClsFn (K : PySem.W.Frag) (mg : Str → Option Value) (x m : Str) (C f : Addr) : Prop where
  gC : mg x = some (.ref C)
  sg : PySem.W.specialIn K (.ref C) "__getattribute__" = some (some (.builtin "type.__getattribute__"))
  ty : PySem.W.typeIn K (.ref C) = some (.type "type")
  rd : PySem.W.readsIn K C (.type "type") = true
  fc : PySem.W.findCls K (.ref C) (.type "type") m = some (.val (.ref f))
  hd : PySem.W.handedIn (.ref f) = true
  kp : PySem.W.keepIn K (.ref f) = true
section
variable {X : Cx} {CX : CXT} {k : Nat} {f C : Addr} {fd : FuncData} {ps : List Str} {sp : Sp} {E : XK} {x m : Str} {p1 p2 pos : Pos} {e : Expr} {es : List Expr} {t : TA}
theorem pe_clsfn {pl : Sem Bool} (T : ClsFn X.K X.mg x m C f) (F : FnOk X.prog X.w X.K X.mg X.base CX k f fd ps sp) (hr : Room k X.A) (hb : Binds X.K fd ps []) (hx : Passes CX X E) (hg : Gl X x) (ha : PA X (e :: es) t)
    (hc : eval (.Call (.Attribute (.Name x p1) m p2) (e :: es) [] pos) X.env = (do
      let ov ← eval (.Name x p1) X.env
      standAt p2.atName
      let (f, first) ← holding [ov] (getMethod ov m pl)
      callWith pos f first (backTo pos (starEach (e :: es) X.env)) (backToKw pos (keywordEach [] X.env))) := by rfl)
    (hdb : (x == ("__debug__" : Str)) = false := by decide) (he : starEach (e :: es) X.env = (false, eval e X.env) :: starEach es X.env := by rfl) (hpl : (backTo pos (starEach es X.env)).any (·.1) = false := by rfl) :
    PE X (.Call (.Attribute (.Name x p1) m p2) (e :: es) [] pos) (tCall sp [] E t) := by
  refine ⟨fun pins s σ H Q I h => ?_⟩
  refine PySem.W.methodCall_KW (ld_glob I hg T.gC ?_ hdb) hc
  obtain ⟨mm, fr⟩ := I.fr
  refine PySem.W.method_of_cls fr I.ok.mod.kin T.sg (PySem.W.cls_val fr I.ok.mod.kin T.ty T.rd T.fc T.hd ?_)
  show wpAny _ _ (callWith pos (Value.ref f) [] (backTo pos (starEach (e :: es) X.env)) []) _ _ _
  refine PySem.W.callWith_K (h₀ := X.base) I.ok.mod.kin T.kp (thn (ha.run pos pins _ σ H _ (I.tok _) h) fun us s1 ⟨vs, H1, I1, r, q⟩ => ⟨I1.kIn, ?_⟩) he hpl
  exact run_fn F hr hb .nil hx I1 r q
end
/-! ### own exceptions -/
/-- LineError.__init__ -/
def spLE (K : PySem.W.Frag) : Sp := fun vs H Q _ => ∃ (a C : Addr) (w t : V), vs = [.ref a, w, t] ∧ OexC K C ∧ PySem.W.findIn K (.ref C) "word" = some none ∧ H a = some (exo a C none) ∧
  ∀ d, H d = none → d ≠ a → Q .non (upd (upd H d (exd d [(("word" : Str), w)])) a (exo a C (some d)))
/-- a class below it, its name, its field -/
def spIni (K : PySem.W.Frag) (C : Addr) (nm fld : Str) : Sp := fun vs H Q _ => ∃ (a : Addr) (i : Int), vs = [.ref a, .int i] ∧ i.natAbs.log2 < 1000 ∧ H a = some (exo a C none) ∧
  ∀ d, H d = none → d ≠ a → Q .non (upd (upd (upd H d (exd d [(("word" : Str), .str nm)])) a (exo a C (some d))) d (exd d [(fld, .int i), (("word" : Str), .str nm)]))
def XcOk (P : Program) (w : World) (K : PySem.W.Frag) (mg : Str → Option Value) (base : Heap) (k : Nat) (nm : Str) (C : Addr) (sp : Sp) : Prop :=
  ∃ (fI : Addr) (fd : FuncData) (ps : List Str), OexC K C ∧ PySem.W.findIn K (.ref C) "__init__" = some (some (.ref fI)) ∧ PySem.W.typeIn K (.ref fI) = some (.type "function") ∧ FnOk P w K mg base CX0 k fI fd ps sp ∧ Binds K fd ps [] ∧ mg nm = some (.ref C)
theorem XcOk.mono {P : Program} {w : World} {K : PySem.W.Frag} {mg : Str → Option Value} {base : Heap} {j k : Nat} {nm : Str} {C : Addr} {sp : Sp} (x : XcOk P w K mg base j nm C sp) (h : j ≤ k) : XcOk P w K mg base k nm C sp := by
  obtain ⟨fI, fd, ps, a, b, c, d, e⟩ := x
  exact ⟨fI, fd, ps, a, b, c, d.mono h, e⟩
section
variable {X : Cx} {k : Nat} {nm : Str} {C : Addr} {sp : Sp} {e : Expr} {es : List Expr} {ta : TA} {p pos : Pos}
theorem pmk_c (x : XcOk X.prog X.w X.K X.mg X.base k nm C sp) (hr : Room (k + 1) X.A) (hg : Gl X nm) (ha : PA X (e :: es) ta) (hdb : (nm == ("__debug__" : Str)) = false := by decide)
    (he : starEach (e :: es) X.env = (false, eval e X.env) :: starEach es X.env := by rfl) (hpl : (backTo pos (starEach es X.env)).any (·.1) = false := by rfl) : PMk X (.Call (.Name nm p) (e :: es) [] pos) (tMkO C sp [] ta) := by
  obtain ⟨fI, fd, ps, a, b, c, d, e1, g⟩ := x
  exact pmk_oex a b c d hr e1 .nil pass0 hg g ha hdb he hpl
end
theorem mk_inner {K : PySem.W.Frag} {C : Addr} {nm fld : Str} {i : Int} {H1 : Hp} {Q : XK} (hi : i.natAbs.log2 < 1000)
    (q : ∀ H' d, Same H1 H' → H1 d = none → H' d = some (.xd [(fld, .int i), (("word" : Str), .str nm)]) → Q (.ref C) (some d) H') :
    ([V.int i] : List V).length ≤ 1000 ∧ ∀ a, H1 a = none → spIni K C nm fld (.ref a :: ([V.int i] ++ [])) (upd H1 a (exo a C none))
      (fun v H2 => v = .non ∧ ∃ (d : Addr) (fs : List (Str × V)), H2 a = some (exo a C (some d)) ∧ H2 d = some (exd d fs) ∧ H1 d = none ∧ Q (.ref C) (some d) (upd (del H2 a) d (.xd fs))) (fun _ _ _ => False) := by
  refine ⟨by show 1 ≤ 1000; decide, fun a na => ⟨a, i, rfl, hi, upd_same, fun d nd da => ⟨rfl, d, [(fld, .int i), (("word" : Str), .str nm)], ?_, upd_same, ?_, ?_⟩⟩⟩
  · rw [upd_ne da.symm, upd_same]
  · rw [upd_ne da] at nd
    exact nd
  · rw [upd_ne da] at nd
    refine q _ d (fun b o h => ?_) nd upd_same
    have hb : b ≠ d := ne_of_none h nd
    have hba : b ≠ a := ne_of_none h na
    rw [upd_ne hb, del_ne hba, upd_ne hb, upd_ne hba, upd_ne hb, upd_ne hba]
    exact h
/-! ### defs that may let an exception out -/
def CalX (P : Program) (w : World) (K : PySem.W.Frag) (mg : Str → Option Value) (base : Heap) (k : Nat) (nm : Str) (ps : List Str) (sp : Sp) : Prop :=
  ∃ (f : Addr) (fd : FuncData), FnOk P w K mg base (L2.CX P w) k f fd ps sp ∧ mg nm = some (.ref f) ∧ PySem.W.keepIn K (.ref f) = true ∧ Binds K fd ps []
theorem CalX.mono {P : Program} {w : World} {K : PySem.W.Frag} {mg : Str → Option Value} {base : Heap} {j k : Nat} {nm : Str} {ps : List Str} {sp : Sp} (c : CalX P w K mg base j nm ps sp) (h : j ≤ k) : CalX P w K mg base k nm ps sp := by
  obtain ⟨f, fd, a, b, d, e⟩ := c
  exact ⟨f, fd, a.mono h, b, d, e⟩
section
variable {X : Cx} {k : Nat} {nm : Str} {ps : List Str} {sp : Sp} {E : XK} {e : Expr} {es : List Expr} {t : TA} {p pos : Pos}
/-- where it lets nothing out -/
theorem pe_callF (c : CalX X.prog X.w X.K X.mg X.base k nm ps sp) (hr : Room k X.A) (hg : Gl X nm) (ha : PA X (e :: es) t) (hdb : (nm == ("__debug__" : Str)) = false := by decide)
    (he : starEach (e :: es) X.env = (false, eval e X.env) :: starEach es X.env := by rfl) (hpl : (backTo pos (starEach es X.env)).any (·.1) = false := by rfl) :
    PE X (.Call (.Name nm p) (e :: es) [] pos) (tCall sp [] E0 t) := by
  obtain ⟨f, fd, a, b, d, g⟩ := c
  exact pe_call a hr hg b d g .nil passL ha hdb he hpl
/-- where what it lets out is taken -/
theorem pe_callP (c : CalX X.prog X.w X.K X.mg X.base k nm ps sp) (hr : Room k X.A) (hx : Passes (L2.CX X.prog X.w) X E) (hg : Gl X nm) (ha : PA X (e :: es) t) (hdb : (nm == ("__debug__" : Str)) = false := by decide)
    (he : starEach (e :: es) X.env = (false, eval e X.env) :: starEach es X.env := by rfl) (hpl : (backTo pos (starEach es X.env)).any (·.1) = false := by rfl) :
    PE X (.Call (.Name nm p) (e :: es) [] pos) (tCall sp [] E t) := by
  obtain ⟨f, fd, a, b, d, g⟩ := c
  exact pe_call a hr hg b d g .nil hx ha hdb he hpl
end
theorem txt_fits {z : Str} {i : Int} (hz : z.length ≤ 1000) (hi : i.natAbs.log2 < 1000) : (z ++ Str.ofString (toString i)).length ≤ sizeLine := by
  have e := PySem.int_text_length_le (k := 1000) (a := i) (by decide) hi
  rw [PySem.Str.length_append, PySem.ofString_length, PySem.sizeLine_eq]
  omega
/-! ### several clauses, each with the name n (slot i) -/
def asEnds (i : Nat) (D : Ends) : Ends := ⟨fun σ' H' => D.nx (σ'.set i none) H', D.rt, fun σ' H' => D.bk (σ'.set i none) H', fun σ' H' => D.ct (σ'.set i none) H'⟩
def wManyA (K : PySem.W.Frag) (i : Nat) (Wo : WX) (D : Ends) : List (Value × (Addr → Value → Option Addr → TS)) → WX
  | [] => Wo
  | (c, ts) :: r => fun cls d σ H => ∃ b, PySem.W.exmOne K cls c = some b ∧ (b = true → ∀ a, H a = none → ts a cls d (asEnds i D) (σ.set i (some (.ref a))) H) ∧ (b = false → wManyA K i Wo D r cls d σ H)
inductive HdsA (X : Cx) (n : Str) : List ExceptHandler → List (Value × (Addr → Value → Option Addr → TS)) → Prop
  | nil : HdsA X n [] []
  | cons {x : Str} {c : Value} {ts : Addr → Value → Option Addr → TS} {st : Stmt} {sts : List Stmt} {q1 q2 : Pos} {hs : List ExceptHandler} {l : List (Value × (Addr → Value → Option Addr → TS))} (hc : Names X x c)
      (hsu : ∀ (a : Addr) (oe : Obj) (cls : Value) (d : Option Addr) (pn : List (Addr × Obj)), Zc cls d oe → (∃ vs, oe.data = .fields vs) → PSs (X.suite a ((a, oe) :: pn)) (st :: sts) (ts a cls d)) (r : HdsA X n hs l) :
      HdsA X n (.ExceptHandler (some (.Name x q1)) (some n) (st :: sts) q2 :: hs) ((c, ts) :: l)
section
variable {X : Cx} {n : Str} {i : Nat} {bd : List Stmt} {h0 : ExceptHandler} {hs : List ExceptHandler} {l : List (Value × (Addr → Value → Option Addr → TS))} {pos : Pos} {tb : WX → TS} {Wo : WX}
theorem ps_try_manyA (hst : X.stack = X.env :: X.outer) (hfm : X.env.frame = some X.env.locals) (hnd : X.N.Nodup) (hni : X.N[i]? = some n) (hnl : X.env.kindOf n = some .local) (tk : Takes X Wo)
    (hb : ∀ (W : WX) (pn : List (Addr × Obj)) (xe : Value → Shared → Prop), Takes (X.tr pn xe) W → PassesOwn (model X.prog X.w) X.A X.env xe → PSs (X.tr pn xe) bd (tb W))
    (hh : HdsA X n (h0 :: hs) l) : PS X (.Try bd (h0 :: hs) [] [] pos) (fun D σ H => tb (wManyA X.K i Wo D l) D σ H) := by
  refine ⟨fun pins s σ H D I hw => ?_⟩
  have kk := I.ok
  have hfr2 : X.A.frames = some (X.env :: X.outer) := kk.frames.trans (congrArg some hst)
  have hlo : Loc X.env.scope n := Or.inl hnl
  refine wpAny_Try_except (wpAny_mono ((hb (wManyA X.K i Wo D l) (X.pn ++ pins) (fun e z1 => wpAny (model X.prog X.w) X.A (noteFrame e X.env) (fun _ z2 => wpAny (model X.prog X.w) X.A (setFlight e none) (fun _ z3 =>
    wpAny (model X.prog X.w) X.A (handleBy e X.env (h0 :: hs)) (SP X pins D) X.xe z3) X.xe z2) X.xe z1) (fun u z' xx => ?_) PassesOwn.looking).run [] s σ H D (I.toTry _) hw) (fun fl z1 hsp => ?_) (fun _ _ y => y))
  · obtain ⟨a, B, sI, pins', τ, G, cls, d, rfl, J', nb, up, sky, na, hos, hag, wch⟩ := xx
    have J : Inv X pins τ G sI := J'.ofTry kk
    have sky2 : Sky B (X.env :: X.outer) a (Zc cls d) X.env.locals z'.heap := hst ▸ sky
    refine Sky.land Zc.steady hfr2 hfm sky2 fun g3 fl3 up3 => ?_
    have J3 : Inv X pins τ G { z' with heap := g3 } := J.landed nb fl3.1 (up.trans up3) hos hag
    obtain ⟨o3, v3, he3, hz3, hd3⟩ := fl3.there
    have nin : a ∉ frs (X.env :: X.outer) := fun hm => by
      obtain ⟨_, o', e', hnf⟩ := fl3.2.2.1.mem hm
      rw [he3] at e'; cases e'; exact hnf _ hd3
    have nL : a ≠ X.env.locals := fun y => nin (List.mem_filterMap.mpr ⟨X.env, List.mem_cons_self, hfm.trans (congrArg some y.symm)⟩)
    have nF : a ∉ X.fs := fun hm => by
      obtain ⟨e, he, y⟩ := List.mem_filterMap.mp hm
      exact nin (List.mem_filterMap.mpr ⟨e, List.mem_cons_of_mem _ he, y⟩)
    have S3 := J3.suite he3 hd3 na nL nF
    have go : ∀ {hs' : List ExceptHandler} {l' : List (Value × (Addr → Value → Option Addr → TS))}, HdsA X n hs' l' → wManyA X.K i Wo D l' cls d τ G → wpAny (model X.prog X.w) X.A (handleBy (.ref a) X.env hs') (SP X pins D) X.xe { z' with heap := g3 } := by
      intro hs' l' hk
      induction hk with
      | nil =>
        intro wch
        obtain ⟨k1, k2, k3, oe, vs, T, oT, ts', he, hz, hd, h1, hr⟩ := id fl3
        refine wpAny_handleBy_nil ?_
        unfold PySem.passOn
        refine wpAny_bind (wpAny_field he hd h1 ?_)
        have fin : wpAny (model X.prog X.w) X.A (setFlight (.ref a) X.env.frame) (fun _ z4 => wpAny (model X.prog X.w) X.A (throw (.ref a) : Sem Flow) (SP X pins D) X.xe z4) X.xe { z' with heap := g3 } := by
          rw [hfm]
          exact HandSPX.setFlight_upZ fl3 fun h4 hh4 up4 => wpAny_throw (tk _ _ ⟨a, B, sI, pins, τ, G, cls, d, rfl, J, nb, (up.trans up3).trans up4, .inr (.inr (hst ▸ hh4)), na, hos, hag, wch⟩)
        rw [if_neg (by simp : ¬ ((Value.ref T == Value.none) = true))]
        first | exact wpAny_bind (wpAny_pure (wpAny_bind fin)) | exact wpAny_bind fin
      | @cons x c ts st sts q1 q2 hs2 l2 hc hsu r ih =>
        intro wch
        obtain ⟨b, hb1, yes, no⟩ := wch
        refine wpAny_handleBy_cons (codeAny_handlers_test ?_) (fun y => by cases y)
        have LT : PySem.W.Looks (model X.prog X.w) g3 (typeOf (.ref a)) cls := fun A Q E s k q => wpAny_typeOf_ref (k _ _ he3) (hz3.1.symm ▸ q)
        have LM := PySem.W.exm_one (M := model X.prog X.w) J3.kIn LT hb1
        have tst : ∀ {Q : Value → Shared → Prop} {E : Value → Shared → Prop}, Q c { z' with heap := g3 } → wpAny (model X.prog X.w) (X.A.mark (some (.ref a))) (eval (.Name x q1) X.env) Q E { z' with heap := g3 } := fun {Q E} y => by
          rcases hc with ⟨hg, hdb, hm | ⟨hm, hv, hnn⟩⟩
          · exact ld_glob (X := X.suite a ((a, o3) :: (X.pn ++ pins))) S3 hg hm y hdb
          · exact ld_blt (X := X.suite a ((a, o3) :: (X.pn ++ pins))) S3 hg hm hv y hnn hdb
        refine tst (LM.here ?_)
        cases b with
        | false => exact ih (no rfl)
        | true =>
          refine codeAny_handlers_suite_as (HandSPX.lands_againZ fl3 fun g4 fl4 up4 => ?_)
          have J4 : Inv X pins τ G { z' with heap := g4 } := J.landed nb fl4.1 ((up.trans up3).trans up4) hos hag
          obtain ⟨o4, v4, he4, hz4, hd4⟩ := fl4.there
          refine store_ok (X := X.suite a ((a, o4) :: (X.pn ++ pins))) (v := .ref a) (J4.suite he4 hd4 na nL nF) hnd hni hlo rfl (fun s5 S5 => ?_) (.inr hnl)
          refine wpAny_mono ((hsu a o4 cls d (X.pn ++ pins) hz4 ⟨_, hd4⟩).run [] s5 _ G _ S5 (yes rfl a na)) (fun fl z6 hsp => ?_) (fun _ _ y => y.elim)
          have over : ∀ {τ6 : L2.St} {G6 : Hp} {R : Shared → Prop}, Inv (X.suite a ((a, o4) :: (X.pn ++ pins))) [] τ6 G6 z6 → (∀ z7, Inv X pins (τ6.set i none) G6 z7 → R z7) →
              wpAny (model X.prog X.w) X.A (do bindName X.env n .none; unbindBehindTheSuite X.env n q2) (fun _ z7 => R z7) X.xe z6 := fun S6 hq => gone_ok (S6.unsuite kk) hnd hni hnl hq
          cases fl with
          | next => obtain ⟨τ6, G6, S6, q6⟩ := hsp; exact over S6 fun z7 J7 => ⟨_, _, J7, q6⟩
          | brk => obtain ⟨τ6, G6, S6, q6⟩ := hsp; exact over S6 fun z7 J7 => ⟨_, _, J7, q6⟩
          | cont => obtain ⟨τ6, G6, S6, q6⟩ := hsp; exact over S6 fun z7 J7 => ⟨_, _, J7, q6⟩
          | ret u => obtain ⟨v6, τ6, G6, S6, r6, q6⟩ := hsp; exact over S6 fun z7 J7 => ⟨_, _, _, J7, r6, q6⟩
    exact go hh wch
  · cases fl with
    | next => obtain ⟨τ, G, J', q⟩ := hsp; exact wpAny_execs_nil ⟨τ, G, J'.ofTry kk, q⟩
    | brk => obtain ⟨τ, G, J', q⟩ := hsp; exact ⟨τ, G, J'.ofTry kk, q⟩
    | cont => obtain ⟨τ, G, J', q⟩ := hsp; exact ⟨τ, G, J'.ofTry kk, q⟩
    | ret u => obtain ⟨v, τ, G, J', r, q⟩ := hsp; exact ⟨v, τ, G, J'.ofTry kk, r, q⟩
end
/-! ### what a law with lambdas knows of the heap: the bag at b, the tables T, these lists -/
/-- all that is no list stays -/
def NL (H H' : Hp) : Prop := ∀ a o, H a = some o → (∀ xs, o ≠ .lst xs) → H' a = some o
theorem tabs_nl {T : List (Addr × Str)} {H H' : Hp} (t : LamX.Tabs T H) (h : NL H H') : LamX.Tabs T H' := fun p hp => by
  obtain ⟨ps, h1, h2, h3⟩ := t p hp
  refine ⟨ps, h _ _ h1 (fun xs z => by cases z), h2, fun pos cv hc => ?_⟩
  obtain ⟨c, e1, e2⟩ := h3 pos cv hc
  exact ⟨c, e1, h _ _ e2 (fun xs z => by unfold LamX.CodeO at z; cases z)⟩
structure ST (b : Addr × Addr) (T : List (Addr × Str)) (H : Hp) (L : List (Addr × List V)) : Prop where
  bag : Bag b H
  nb : ∀ p ∈ L, p.1 ≠ b.1 ∧ p.1 ≠ b.2
  kn : ∀ p ∈ L, H p.1 = some (.lst p.2)
  tab : LamX.Tabs T H
section
variable {b : Addr × Addr} {T : List (Addr × Str)} {p : Addr} {H H' : Hp} {L L' : List (Addr × List V)} {o o' : List V}
theorem ST.same (h : ST b T H L) (s : Same H H') : ST b T H' L := ⟨h.bag.same s, h.nb, fun q hq => s _ _ (h.kn q hq), h.tab.ext s⟩
theorem ST.mv (h : ST b T H L) (m : Mv b.1 H H') (g : Bag b H') : ST b T H' L := ⟨g, h.nb, fun q hq => m _ _ (h.nb q hq).1 (h.kn q hq), tabs_nl h.tab (fun a o e n => m a o (fun z => by
  obtain ⟨_, _, _, _, _, h1, _⟩ := h.bag
  rw [z, h1] at e
  exact n _ (Option.some.inj e).symm) e)⟩
theorem ST.add (h : ST b T H L) (n : p ≠ b.1) (n2 : p ≠ b.2) (e : H p = some (.lst o)) : ST b T H ((p, o) :: L) :=
  ⟨h.bag, fun q hq => (List.mem_cons.mp hq).elim (fun z => by rw [z]; exact ⟨n, n2⟩) (h.nb q), fun q hq => (List.mem_cons.mp hq).elim (fun z => by rw [z]; exact e) (h.kn q), h.tab⟩
theorem ST.new (h : ST b T H L) (n : H p = none) : ST b T (upd H p (.lst o)) ((p, o) :: L) := (h.same (same_upd n)).add (h.bag.ne n) (h.bag.ne2 n) upd_same
theorem ST.newS (h : ST b T H L) (s : Same H H') (n : H p = none) (e : H' p = some (.lst o)) : ST b T H' ((p, o) :: L) := (h.same s).add (h.bag.ne n) (h.bag.ne2 n) e
theorem ST.newM (h : ST b T H L) (m : Mv b.1 H H') (g : Bag b H') (n : H p = none) (e : H' p = some (.lst o)) : ST b T H' ((p, o) :: L) := (h.mv m g).add (h.bag.ne n) (h.bag.ne2 n) e
theorem ST.sub (h : ST b T H L) (hs : ∀ q ∈ L', q ∈ L) : ST b T H L' := ⟨h.bag, fun q hq => h.nb q (hs q hq), fun q hq => h.kn q (hs q hq), h.tab⟩
theorem ST.get (h : ST b T H L) (hm : (p, o) ∈ L) : H p = some (.lst o) := h.kn _ hm
theorem ST.ne (h : ST b T H L) (hm : (p, o) ∈ L) : p ≠ b.1 := (h.nb _ hm).1
theorem ST.put (h : ST b T H ((p, o) :: L)) (hd : ∀ q ∈ L, q.1 ≠ p) : ST b T (upd H p (.lst o')) ((p, o') :: L) :=
  ⟨h.bag.upd (h.nb _ (.head _)).1 (h.nb _ (.head _)).2, fun q hq => (List.mem_cons.mp hq).elim (fun z => by rw [z]; exact h.nb (p, o) (.head L)) (fun hq => h.nb q (.tail _ hq)),
    fun q hq => (List.mem_cons.mp hq).elim (fun z => by rw [z]; exact upd_same) (fun hq => by rw [upd_ne (hd q hq)]; exact h.kn q (.tail _ hq)), tabs_nl h.tab (fun a u e n => by
      have e2 := h.kn (p, o) (.head _)
      rw [upd_ne (fun z => by rw [z, e2] at e; exact n _ (Option.some.inj e).symm)]
      exact e)⟩
theorem ST.apart (h : ST b T H L) (n : H p = none) : ∀ q ∈ L, q.1 ≠ p := fun q hq => ne_of_none (h.kn q hq) n
theorem ST.nil (g : Bag b H) (t : LamX.Tabs T H) : ST b T H [] := ⟨g, (fun _ h => absurd h List.not_mem_nil), (fun _ h => absurd h List.not_mem_nil), t⟩
theorem ST.extN (h : ST b T H L) (e : LamX.ExtN H H') (t : LamX.Tabs T H') : ST b T H' L := by
  refine ⟨?_, h.nb, fun q hq => e _ _ (h.kn q hq) (fun ps z => by cases z), t⟩
  obtain ⟨ns, i, r, x, c, h1, h2, h3⟩ := h.bag
  exact ⟨ns, i, r, x, c, e _ _ h1 (fun ps z => by cases z), e _ _ h2 (fun ps z => by cases z), h3⟩
end
/-! ### takes, where the slots are as many as the names -/
theorem takes_len {X : Cx} {W : WX} (tk : Takes X W) : Takes X (fun cls d σ H => σ.length = X.N.length → W cls d σ H) := fun u s' x => by
  obtain ⟨a, B, sI, pins, σ, H, cls, d, e, I, nb, up, sky, na, os, ag, w⟩ := x
  exact tk u s' ⟨a, B, sI, pins, σ, H, cls, d, e, I, nb, up, sky, na, os, ag, w I.len⟩
/-- what the law's at makes of a lambda that is refused by one of these classes -/
def TAt (cs : List (Addr × Str)) : (XK → Hp → VK → Prop) → Hp → VK → Prop := fun tl H Q =>
  tl (fun cls d H' => ∃ e ∈ cs, cls = .ref e.1 ∧ ∃ (dd : Addr) (v : V), d = some dd ∧ H' dd = some (.xd [(("at" : Str), v), (("word" : Str), .str e.2)]) ∧ ∀ p, H' p = none → Q (.ref p) (upd H' p (.lst [.str e.2, v]))) H (fun _ _ => False)
/-- a class of refusals with a place -/
structure AtC (K : PySem.W.Frag) (mg : Str → Option Value) (nm : Str) (C : Addr) : Prop where
  gC : mg nm = some (.ref C)
  xf : XfC K C
  no : PySem.W.findIn K (.ref C) "at" = some none
theorem set_get {σ : L2.St} {i : Nat} {v : Option V} (h : i < σ.length) : (σ.set i v)[i]? = some v := by
  rw [List.getElem?_set_self h]
/-! ### a law that hands lambdas to a def -/
def LamTo (X : Cx) (T : List (Addr × Str)) (nm : Str) (TT : (XK → Hp → VK → Prop) → Hp → VK → Prop) : Prop :=
  ∀ {params : Arguments} {body : Expr} {scope : Scope} {t : XK → TE} {p lpos pos : Pos} {k : Nat}, Room (k + 2) X.A → LamX.LamS X.env.scope scope → defaultsOf params X.env = ([], []) →
    (∀ (q : Str) (cl : List (Str × Addr)) (pm cv ctv : Value), bindArgs (PySem.W.kla_fn "<lambda>" q params body scope cl pm cv ctv) ⟨[], []⟩ = pure []) →
    (∀ (A : Around) (outer : List Env) (s : Shared) (H : Hp) (E : XK) (f c' : Addr), Room k (A.deeper (LamX.lamEnv X scope s.heap.objs.size f c')) → PE (LamX.lamCx X A outer s H E scope f c') body (t E)) →
    PE X (.Call (.Name nm p) [.Lambda params body scope lpos] [] pos) (LamX.tLam T TT t)
theorem okL {P : Program} {w : World} {K : PySem.W.Frag} {mg : Str → Option Value} {base : Heap} {x qual : Str} {st : Stmt} {f c : Addr} {N ps : List Str} {k : Nat} {sp : Sp} {oc : Value} {od an : Option Addr} {osl : Array (Option Value)} {kV doc pm ct : Value}
    (lk : K.lookup f = some ⟨oc, od, .func (PySem.W.fnOf x qual (defArgs st) (defBody st) (defScope st) .none kV doc pm an (.ref c) ct), osl⟩) (hcd : PySem.W.codeIn K (.ref c) qual = true) (S : FnScope N ps (defScope st)) (len : ∀ vs H Q E, sp vs H Q E → vs.length = ps.length)
    (hbody : ∀ (A : Around) (outer : List Env) (s : Shared) (H : Hp) (vs : List V) (Q : VK) (E : XK), Room k (A.deeper (envOfC qual (defScope st) s.heap.objs.size f (.ref c))) → sp vs H Q E →
      ∃ t, PSs (cxOf CX0 P w K mg base N qual (defScope st) f (.ref c) A outer s H E).nox (defBody st) t ∧ t { nx := fun _ H' => Q .non H', rt := Q } (L2.start N vs) H) :
    FnOk P w K mg base CX0 (k + 1) f (PySem.W.fnOf x qual (defArgs st) (defBody st) (defScope st) .none kV doc pm an (.ref c) ct) ps sp := by
  refine fn_of lk hcd S len fun A outer s H vs Q E hr hsp => ?_
  obtain ⟨t, h, q⟩ := hbody A outer s H vs Q E hr hsp
  exact ⟨t, h.nox, q⟩
/-! ### a class of refusals without a value -/
def spIni0 (K : PySem.W.Frag) (C : Addr) (nm : Str) : Sp := fun vs H Q _ => ∃ (a : Addr), vs = [.ref a] ∧ H a = some (exo a C none) ∧ ∀ d, H d = none → d ≠ a → Q .non (upd (upd H d (exd d [(("word" : Str), .str nm)])) a (exo a C (some d)))
section
variable {X : Cx} {k : Nat} {nm : Str} {C : Addr} {sp : Sp} {p pos : Pos}
theorem pmk_c0 (x : XcOk X.prog X.w X.K X.mg X.base k nm C sp) (hr : Room (k + 1) X.A) (hg : Gl X nm) (hdb : (nm == ("__debug__" : Str)) = false := by decide) : PMk X (.Call (.Name nm p) [] [] pos) (tMkO C sp [] tNil) := by
  obtain ⟨fI, fd, ps, T, iC, tI, F1, hb, hm⟩ := x
  intro pins s σ H Q I h
  obtain ⟨nm', q, N, bs, bm, sn, sub, ab, col, dd, k0, k1, k2, k3, k5, hC, hbm⟩ := T.cls
  refine wpAny_Call_Name_kw (ld_glob I hg hm ?_ hdb)
  refine PySem.W.callWith_K0 I.kIn T.kC ?_
  show wpAny _ _ (call (.ref C) []) _ _ _
  have q1 : ∀ a, H a = none → sp (.ref a :: ([] ++ [])) (upd H a (exo a C none)) _ _ := h.2
  obtain ⟨hp, g, dr, tk, os⟩ := s
  have hsz : hp.objs.size ≤ hp.objs.size + 1 := Nat.le_succ _
  have hq := q1 (hp.objs.size + 1) (I.hok.fresh hsz)
  have kk : ∀ b o, hp.get? b = some o → ((hp.push (PySem.W.kdv_tup [])).push (PySem.HandSPX.excO C hp.objs.size)).get? b = some o := fun b o e => Heap.get?_push_of_some _ (Heap.get?_push_of_some _ e)
  have hget : ((hp.push (PySem.W.kdv_tup [])).push (PySem.HandSPX.excO C hp.objs.size)).get? (hp.objs.size + 1) = some (PySem.HandSPX.excO C hp.objs.size) := by heap_get
  have I2 : Inv X pins σ (upd H (hp.objs.size + 1) (exo (hp.objs.size + 1) C none)) ⟨(hp.push (PySem.W.kdv_tup [])).push (PySem.HandSPX.excO C hp.objs.size), g, dr, tk, os⟩ :=
    I.laid (t' := tk) (a := hp.objs.size + 1) (o := exo (hp.objs.size + 1) C none) (h' := (hp.push (PySem.W.kdv_tup [])).push (PySem.HandSPX.excO C hp.objs.size)) kk hsz (exo_ok hget)
  have r2 : Vals [V.ref (hp.objs.size + 1)] [Value.ref (hp.objs.size + 1)] := .cons rfl .nil
  have hl : ([Value.ref (hp.objs.size + 1)] ++ []).length = ps.length := (F1.len _ _ _ _ hq)
  refine wpAny_call (PySem.HandSPX.call_own F.excBase_ValueError (fun Y => PySem.HandSPX.refsVE_contains Y bm hbm) (I.kIn _ _ hC) (PySem.W.looks_findIn I.kIn iC) (fun self => PySem.W.bind_fn I.kIn self tI) (Nat.zero_le _)
    (codeAny_mono (F1.run _ X.stack _ _ ⟨[Value.ref (hp.objs.size + 1)], []⟩ [Value.ref (hp.objs.size + 1)] _ _ (fun _ _ _ => False) (hr.make C [] []) (I2.env0.make C [] []) (hb _ [Value.ref (hp.objs.size + 1)] I2.kIn hl) r2 hq) fun r s' hq' => ?_))
  cases r with
  | error er => exact (show False from hq').elim
  | ok fl =>
    cases fl with
    | ret u =>
      obtain ⟨v, H2, os2, bare2, un2, hok2, rv, ev, d, fs, ea, ed, hd1, q2⟩ := hq'
      subst ev
      obtain ⟨h2, g2, d2, t2, os'⟩ := s'
      exact ⟨rv, mk_end (raises_own T.exC T.tyC) I hsz kk un2 hok2 os2 bare2 ea ed hd1 q2⟩
    | next => exact False.elim hq'
    | brk => exact False.elim hq'
    | cont => exact False.elim hq'
end
theorem mk_inner0 {K : PySem.W.Frag} {C : Addr} {nm : Str} {H1 : Hp} {Q : XK}
    (q : ∀ H' d, Same H1 H' → H1 d = none → H' d = some (.xd [(("word" : Str), .str nm)]) → Q (.ref C) (some d) H') :
    ([] : List V).length ≤ 1000 ∧ ∀ a, H1 a = none → spIni0 K C nm (.ref a :: (([] : List V) ++ [])) (upd H1 a (exo a C none))
      (fun v H2 => v = .non ∧ ∃ (d : Addr) (fs : List (Str × V)), H2 a = some (exo a C (some d)) ∧ H2 d = some (exd d fs) ∧ H1 d = none ∧ Q (.ref C) (some d) (upd (del H2 a) d (.xd fs))) (fun _ _ _ => False) := by
  refine ⟨Nat.zero_le _, fun a na => ⟨a, rfl, upd_same, fun d nd da => ⟨rfl, d, [(("word" : Str), .str nm)], upd_same, ?_, ?_, ?_⟩⟩⟩
  · rw [upd_ne da, upd_same]
  · rw [upd_ne da] at nd
    exact nd
  · rw [upd_ne da] at nd
    refine q _ d (fun b o h => ?_) nd upd_same
    have hb : b ≠ d := ne_of_none h nd
    have hba : b ≠ a := ne_of_none h na
    rw [upd_ne hb, del_ne hba, upd_ne hba, upd_ne hb, upd_ne hba]
    exact h
/-- what the law's tried makes of a lambda: told, or refused by the class at C, whose word it tells -/
def TTried (C : Addr) (nm : Str) : (XK → Hp → VK → Prop) → Hp → VK → Prop := fun tl H Q =>
  tl (fun cls d H' => cls = .ref C ∧ ∃ (dd : Addr) (fs : List (Str × V)), d = some dd ∧ H' dd = some (.xd fs) ∧ fs.lookup ("word" : Str) = some (.str nm) ∧ ∀ p, H' p = none → Q (.ref p) (upd H' p (.tup [.str "refused", .str nm]))) H
    (fun v H1 => ([V.str "told", v] : List V).length ≤ sizeLine ∧ ∀ p, H1 p = none → Q (.ref p) (upd H1 p (.tup [.str "told", v])))
/-! ### a def called by keywords alone -/
def gK {α : Type} (perm : List α → List α) : List α → List α → List α
  | [], ws => perm ws
  | _ :: _, _ => []
section
variable {X : Cx} {CX : CXT} {k : Nat} {f : Addr} {fd : FuncData} {ps ks : List Str} {sp : Sp} {E : XK} {x : Str} {p pos : Pos} {kws : List Keyword} {tk : TA} {g : List Value → List Value → List Value} {gV : List V → List V → List V}
theorem pe_callK0 (F : FnOk X.prog X.w X.K X.mg X.base CX k f fd ps sp) (hr : Room k X.A) (hg : Gl X x) (hm : X.mg x = some (.ref f)) (hk : PySem.W.keepIn X.K (.ref f) = true) (hb : KBinds X.K fd ps ks g gV) (hx : Passes CX X E) (hkw : PK X kws tk)
    (hall : ((backToKw pos (keywordEach kws X.env)).all fun x => x.1.isSome) = true := by rfl) (hks : (backToKw pos (keywordEach kws X.env)).filterMap (·.1) = ks := by rfl) (hdb : (x == ("__debug__" : Str)) = false := by decide)
    (hpl : ((backTo pos (starEach [] X.env)).any (·.1) || (backToKw pos (keywordEach kws X.env)).any fun x => x.1.isNone) = false := by rfl) : PE X (.Call (.Name x p) [] kws pos) (tCallK sp gV E tNil tk) := by
  refine ⟨fun pins s σ H Q I h => wpAny_Call_Name_kw (ld_glob I hg hm ?_ hdb)⟩
  refine PySem.W.callWith_KW0 (I.ok.mod.kin) hk hall (thn (hkw.run pos pins s σ H (fun zs H2 => sp (gV [] zs) H2 Q E) I h) fun ws s2 x => ?_) hpl
  obtain ⟨zs, H2, I2, rz, q2⟩ := x
  refine ⟨I2.kIn, ?_⟩
  rw [hks]
  exact run_fnk F hr hb hx I2 .nil rz q2
end
def CalK (P : Program) (w : World) (K : PySem.W.Frag) (mg : Str → Option Value) (base : Heap) (k : Nat) (nm : Str) (ps ks : List Str) (gV : List V → List V → List V) (sp : Sp) : Prop :=
  ∃ (f : Addr) (fd : FuncData) (g : List Value → List Value → List Value), FnOk P w K mg base (L2.CX P w) k f fd ps sp ∧ mg nm = some (.ref f) ∧ PySem.W.keepIn K (.ref f) = true ∧ KBinds K fd ps ks g gV
theorem CalK.mono {P : Program} {w : World} {K : PySem.W.Frag} {mg : Str → Option Value} {base : Heap} {j k : Nat} {nm : Str} {ps ks : List Str} {gV : List V → List V → List V} {sp : Sp} (c : CalK P w K mg base j nm ps ks gV sp) (h : j ≤ k) : CalK P w K mg base k nm ps ks gV sp := by
  obtain ⟨f, fd, g, a, b, d, e⟩ := c
  exact ⟨f, fd, g, a.mono h, b, d, e⟩
section
variable {X : Cx} {k : Nat} {ps ks : List Str} {sp : Sp} {nm : Str} {p pos : Pos} {kws : List Keyword} {tk : TA} {gV : List V → List V → List V}
theorem pe_callKF (c : CalK X.prog X.w X.K X.mg X.base k nm ps ks gV sp) (hr : Room k X.A) (hg : Gl X nm) (hkw : PK X kws tk)
    (hall : ((backToKw pos (keywordEach kws X.env)).all fun x => x.1.isSome) = true := by rfl) (hks : (backToKw pos (keywordEach kws X.env)).filterMap (·.1) = ks := by rfl) (hdb : (nm == ("__debug__" : Str)) = false := by decide)
    (hpl : ((backTo pos (starEach [] X.env)).any (·.1) || (backToKw pos (keywordEach kws X.env)).any fun x => x.1.isNone) = false := by rfl) : PE X (.Call (.Name nm p) [] kws pos) (tCallK sp gV E0 tNil tk) := by
  obtain ⟨f, fd, g, a, b, d, e⟩ := c
  exact pe_callK0 a hr hg b d e passL hkw hall hks hdb hpl
end
def two {α : Type} : List α → List α
  | [a, b] => [b, a]
  | _ => []
theorem kb_one {K : PySem.W.Frag} {x qual y : Str} {st : Stmt} {f : Addr} {fd : FuncData} (F : Fun K x qual st f fd) (h : ∀ (kV doc pm : Value) (an : Option Addr) (cdv ct : Value) (u : Value), bindArgs (PySem.W.fnOf x qual (defArgs st) (defBody st) (defScope st) .none kV doc pm an cdv ct) ⟨[], [(y, u)]⟩ = pure [(y, u)]) :
    KBinds K fd [y] [y] (gK id) (gK id) := by
  refine ⟨fun s us ws X hl M A E Q q => ?_, fun {vs us zs ws} r rz => ?_⟩
  · obtain ⟨oc, od, kV, doc, pm, an, cdv, ct, osl, rfl, _⟩ := F.ex
    cases us with
    | cons _ _ => exact absurd hl (by show 0 ≠ 1; decide)
    | nil =>
      match ws, hl with
      | [u], _ =>
        show wpAny M A (bindArgs _ ⟨[], [(y, u)]⟩) Q E s
        rw [h]
        exact wpAny_pure q
  · cases r with
    | nil => exact rz
    | cons _ _ => exact .nil
theorem kb_two {K : PySem.W.Frag} {x qual y z : Str} {st : Stmt} {f : Addr} {fd : FuncData} (F : Fun K x qual st f fd) (h : ∀ (kV doc pm : Value) (an : Option Addr) (cdv ct : Value) (u v : Value), bindArgs (PySem.W.fnOf x qual (defArgs st) (defBody st) (defScope st) .none kV doc pm an cdv ct) ⟨[], [(z, u), (y, v)]⟩ = pure [(y, v), (z, u)]) :
    KBinds K fd [y, z] [z, y] (gK two) (gK two) := by
  refine ⟨fun s us ws X hl M A E Q q => ?_, fun {vs us zs ws} r rz => ?_⟩
  · obtain ⟨oc, od, kV, doc, pm, an, cdv, ct, osl, rfl, _⟩ := F.ex
    cases us with
    | cons _ _ => exact absurd hl (by show 0 ≠ 2; decide)
    | nil =>
      match ws, hl, q with
      | [], hl, q => exact absurd hl (by show 0 ≠ 2; decide)
      | [_], hl, q => exact absurd hl (by show 0 ≠ 2; decide)
      | [u, v], _, q =>
        show wpAny M A (bindArgs _ ⟨[], [(z, u), (y, v)]⟩) Q E s
        rw [h]
        exact wpAny_pure q
      | _ :: _ :: _ :: _, hl, q => exact absurd hl (by show 0 ≠ 2; decide)
  · cases r with
    | cons _ _ => exact .nil
    | nil =>
      cases rz with
      | nil => exact .nil
      | cons a r => cases r with
        | nil => exact .nil
        | cons b r => cases r with
          | nil => exact .cons b (.cons a .nil)
          | cons _ _ => exact .nil
/-- what the law's most makes of a lambda that is refused by the class at C -/
def TMost (C : Addr) (nm : Str) : (XK → Hp → VK → Prop) → Hp → VK → Prop := fun tl H Q =>
  tl (fun cls d H' => cls = .ref C ∧ ∃ (dd : Addr) (v : V), d = some dd ∧ H' dd = some (.xd [(("most" : Str), v), (("word" : Str), .str nm)]) ∧ ∀ p, H' p = none → Q (.ref p) (upd H' p (.lst [.str nm, v]))) H (fun _ _ => False)
end WB
namespace WB
open PySem PySem.Spec PyProof.Rows L2
/-! ### lambdas that are kept in a list -/
abbrev lamO (X : Cx) (params : Arguments) (body : Expr) (scope : Scope) (pm : Value) (c' : Addr) (ctv : Value) : Obj := PySem.W.kla_obj "<lambda>" (X.env.qual ++ "<lambda>") params body scope (cloFrom X.env.cells scope.names []) pm c' ctv
section
variable {X : Cx} {pins : List (Addr × Obj)} {σ : L2.St} {H : Hp} {s : Shared}
theorem inv_pin (I : Inv X pins σ H s) (hst : X.stack = X.env :: X.outer) (hfm : X.env.frame = some X.env.locals) {f : Addr} {o : Obj} (hf : s.heap.get? f = some o) (hn : H f = none) (hfr : f ∉ frs X.stack) (hd : ∀ v, o.data ≠ .cell v) : Inv X (pins ++ [(f, o)]) σ H s := by
  have nL : f ≠ X.env.locals := fun y => hfr (List.mem_filterMap.mpr ⟨X.env, by rw [hst]; exact List.mem_cons_self, hfm.trans (congrArg some y.symm)⟩)
  have nF : f ∉ X.fs := fun hm => by
    obtain ⟨e, he, y⟩ := List.mem_filterMap.mp hm
    exact hfr (List.mem_filterMap.mpr ⟨e, by rw [hst]; exact List.mem_cons_of_mem _ he, y⟩)
  refine { I with pin := fun p hp => ?_ }
  rcases List.mem_append.mp hp with h | h
  · exact I.pin p (List.mem_append_left _ h)
  rcases List.mem_append.mp h with h | h
  · exact I.pin p (List.mem_append_right _ h)
  · rw [List.mem_singleton.mp h]
    exact ⟨hf, hn, nL, nF, hd⟩
theorem inv_unpin {l : List (Addr × Obj)} (I : Inv X (pins ++ l) σ H s) : Inv X pins σ H s := by
  refine { I with pin := fun p hp => I.pin p ?_ }
  rcases List.mem_append.mp hp with h | h
  · exact List.mem_append_left _ h
  · exact List.mem_append_right _ (List.mem_append_left _ h)
end
section
variable {X : Cx} {T : List (Addr × Str)} {c P : Addr} {params : Arguments} {body : Expr} {scope : Scope} {lpos lp py pos : Pos} {y : Str} {i : Nat} {rest : List Stmt} {u : Addr → Addr → TS}
theorem sp_back {X : Cx} {pins l : List (Addr × Obj)} {D : Ends} {fl : Flow} {s : Shared} (kk : Cx.Ok X) (h : SP (X.tr (X.pn ++ (pins ++ l)) X.xe) [] D fl s) : SP X pins D fl s := by
  cases fl with
  | next => obtain ⟨τ, G, J, q⟩ := h; exact ⟨τ, G, inv_unpin (J.ofTry kk), q⟩
  | brk => obtain ⟨τ, G, J, q⟩ := h; exact ⟨τ, G, inv_unpin (J.ofTry kk), q⟩
  | cont => obtain ⟨τ, G, J, q⟩ := h; exact ⟨τ, G, inv_unpin (J.ofTry kk), q⟩
  | ret u => obtain ⟨v, τ, G, J, r, q⟩ := h; exact ⟨v, τ, G, inv_unpin (J.ofTry kk), r, q⟩
/-- xs = [lambda: e] -/
theorem pss_lamset {q : Str} (hq : X.env.qual ++ "<lambda>" = q) (hst : X.stack = X.env :: X.outer) (hfm : X.env.frame = some X.env.locals) (hN : X.N.Nodup) (hi : X.N[i]? = some y) (hy : Loc X.env.scope y) (TB : LamX.TabB X.base X.mg c P) (hcode : X.env.code = .ref c) (hmT : (P, X.env.qual ++ "<lambda>") ∈ T)
    (hu : ∀ p ∈ T, p.1 = P → p.2 = X.env.qual ++ "<lambda>") (L : LamX.LamS X.env.scope scope) (hdef : defaultsOf params X.env = ([], []))
    (hrest : ∀ (f c' : Addr) (pm ctv : Value) (pn' : List (Addr × Obj)), f ∉ frs X.stack → (f, lamO X params body scope pm c' ctv) ∈ pn' → (∀ p ∈ X.pn, p ∈ pn') → PSs (X.tr pn' X.xe) rest (u f c'))
    (hs : swapsWith (.List [.Lambda params body scope lpos] lp) (some (.Name y py)) pos.line X.env = pure false := by rfl) (hl : X.fn y = true ∨ X.env.scope.names.lookup y = some .local := by first | exact .inr rfl | exact .inl rfl) :
    PSs X (.Assign [.Name y py] (.List [.Lambda params body scope lpos] lp) pos :: rest)
      (fun D σ H => LamX.Tabs T H ∧ ∀ (f c' : Addr) (H1 : Hp), LamX.ExtN H H1 → LamX.Tabs T H1 → H1 f = none → H1 c' = some (LamX.CodeO c' q) → ∀ p, H1 p = none → u f c' D (σ.set i (some (.ref p))) (upd H1 p (.lst [.ref f]))) := by
  refine ⟨fun pins s σ H D I h => ?_⟩
  subst hq
  obtain ⟨hT, h⟩ := h
  have kk := I.ok
  refine wpAny_execs_cons (wpAny_Assign_Name (wpAny_List_spliced ?_) hs)
  show wpAny _ _ (spliced [(false, _)]) _ _ _
  refine Calls.spliced_cons (LamX.lam_make2 I TB hcode hmT hu hT hdef (L.has I.ok) fun f c' pm ctv H1 s' I1 eN T1 hf hfn hfr hco => Calls.spliced_nil ⟨(by show 1 ≤ sizeLine; decide), ?_⟩)
  have I2 := inv_pin I1 hst hfm hf hfn hfr (fun v z => by cases z)
  have hfresh := I2.hok.fresh (Nat.le_refl s'.heap.objs.size)
  have I3 : Inv X (pins ++ [(f, lamO X params body scope pm c' ctv)]) σ (upd H1 s'.heap.objs.size (.lst [.ref f])) { s' with heap := s'.heap.push { cls := .type "list", data := .seq (List.toArray [Value.ref f]) } } :=
    I2.laid (t' := s'.toks) (fun b w e => Heap.get?_push_of_some _ e) (Nat.le_refl _) ⟨(by show 1 ≤ sizeLine; decide), [Value.ref f], 0, .cons rfl .nil, Heap.get?_push_size s'.heap rfl⟩
  refine store_ok (v := .ref s'.heap.objs.size) I3 hN hi hy rfl (fun s2 I4 => ?_) hl
  have kr := (hrest f c' pm ctv (X.pn ++ (pins ++ [(f, lamO X params body scope pm c' ctv)])) hfr (List.mem_append_right _ (List.mem_append_right _ (.head _))) (fun p hp => List.mem_append_left _ hp)).run [] s2 _ _ D (I4.toTry X.xe) (h f c' H1 eN T1 hfn hco _ hfresh)
  exact wpAny_mono kr (fun fl z hsp => sp_back kk hsp) (fun _ _ y => y)
variable {p1 p2 p3 p4 : Pos}
/-- xs.append(lambda: e) -/
theorem pss_lamapp {q : Str} (hq : X.env.qual ++ "<lambda>" = q) (hst : X.stack = X.env :: X.outer) (hfm : X.env.frame = some X.env.locals) (hv : PE X (.Name y p1) (tVar i)) (TB : LamX.TabB X.base X.mg c P) (hcode : X.env.code = .ref c) (hmT : (P, X.env.qual ++ "<lambda>") ∈ T)
    (hu : ∀ p ∈ T, p.1 = P → p.2 = X.env.qual ++ "<lambda>") (L : LamX.LamS X.env.scope scope) (hdef : defaultsOf params X.env = ([], []))
    (hrest : ∀ (f c' : Addr) (pm ctv : Value) (pn' : List (Addr × Obj)), f ∉ frs X.stack → (f, lamO X params body scope pm c' ctv) ∈ pn' → (∀ p ∈ X.pn, p ∈ pn') → PSs (X.tr pn' X.xe) rest (u f c'))
    (hbase : attributeBase (.Name y p1) "append" X.env (eval (.Name y p1) X.env) = eval (.Name y p1) X.env := by rfl) (hline : (p2.endLine == p3.line) = true := by rfl)
    (hs : swapsWith (.Call (.Attribute (.Name y p1) "append" p2) [.Lambda params body scope lpos] [] p3) none p4.line X.env = pure false := by rfl) :
    PSs X (.Expr (.Call (.Attribute (.Name y p1) "append" p2) [.Lambda params body scope lpos] [] p3) p4 :: rest)
      (fun D σ H => LamX.Tabs T H ∧ ∃ p xs, σ[i]? = some (some (.ref p)) ∧ H p = some (.lst xs) ∧ xs.length < sizeLine ∧ ∀ (f c' : Addr) (H1 : Hp), LamX.ExtN H H1 → LamX.Tabs T H1 → H1 f = none → H1 c' = some (LamX.CodeO c' q) → u f c' D σ (upd H1 p (.lst (xs ++ [.ref f])))) := by
  refine ⟨fun pins s σ H D I h => ?_⟩
  subst hq
  obtain ⟨hT, p, xs, hσ, hp, hz, h⟩ := h
  have kk := I.ok
  refine wpAny_execs_cons (wpAny_Expr_any ?_ I.quiet hs)
  refine wpAny_Call_method_late (trees := [(false, _)]) hbase (by rfl) hline rfl (thn (hv.run pins s σ H (fun x H1 => x = .ref p ∧ H1 = H) I ⟨_, hσ, rfl, rfl⟩) fun v s1 x => ?_)
  obtain ⟨x, H1, I1, r1, rfl, rfl⟩ := x
  obtain ⟨h1, h2⟩ := tyV_is (T := "list") I1 r1 (.inl ⟨rfl, xs, SqL.of hp⟩)
  refine ⟨"list", "list.append", PySem.F.plainAttrs_list, PySem.F.slot_list_append, PySem.F.type_list_append, h1, h2, ?_⟩
  refine Calls.callWith_builtin (by rfl) (Calls.evalArgs_plain ?_)
  refine Calls.spliced_cons (LamX.lam_make2 I1 TB hcode hmT hu hT hdef (L.has I1.ok) fun f c' pm ctv H2 s' I2 eN T2 hf hfn hfr hco => Calls.spliced_nil ?_)
  have I3 := inv_pin I2 hst hfm hf hfn hfr (fun v z => by cases z)
  have hp2 := eN _ _ hp (fun ps z => by cases z)
  refine thn (mt_append (X := X) (pins ++ [(f, lamO X params body scope pm c' ctv)]) s' σ H2 (.ref p) [.ref f] v [Value.ref f] (fun v H' => H' = upd H2 p (.lst (xs ++ [.ref f]))) I3 r1 (.cons rfl .nil) ⟨p, xs, .ref f, rfl, rfl, hp2, hz, rfl⟩) fun w s2 x => ?_
  obtain ⟨w', H', I4, r4, rfl⟩ := x
  have kr := (hrest f c' pm ctv (X.pn ++ (pins ++ [(f, lamO X params body scope pm c' ctv)])) hfr (List.mem_append_right _ (List.mem_append_right _ (.head _))) (fun p hp => List.mem_append_left _ hp)).run [] s2 _ _ D (I4.toTry X.xe) (h f c' H2 eN T2 hfn hco)
  exact wpAny_mono kr (fun fl z hsp => sp_back kk hsp) (fun _ _ y => y)
end
section
variable {X : Cx} {TT : (XK → Hp → VK → Prop) → Hp → VK → Prop} {x a : Str} {g f c' : Addr} {k : Nat} {pg : Arguments} {bg : List Stmt} {sg : Scope} {dV kV doc pm cdv ct oc pm' ctv : Value} {an od : Option Addr} {osl : Array (Option Value)} {Ng : List Str}
  {params : Arguments} {body ea : Expr} {scope : Scope} {t : XK → TE} {p pos : Pos} {j : Nat}
/-- g(x), where x is a lambda that was kept -/
theorem pe_actname {q : Str} (hq : X.env.qual ++ "<lambda>" = q) (hpin : (f, lamO X params body scope pm' c' ctv) ∈ X.pn) (hfr : f ∉ frs X.stack) (hg : Gl X x) (hm : X.mg x = some (.ref g)) (hk : PySem.W.keepIn X.K (.ref g) = true) (lk : X.K.lookup g = some ⟨oc, od, .func (PySem.W.fnOf x x pg bg sg dV kV doc pm an cdv ct), osl⟩)
    (hcg : PySem.W.codeIn X.K cdv x = true) (hb : L2.Binds X.K (PySem.W.fnOf x x pg bg sg dV kV doc pm an cdv ct) [a] []) (Sg : FnScope Ng [a] sg) (hNg : Ng[0]? = some a) (hva : Vis sg a) (hG : LamX.GivesTo X Ng x sg g cdv bg a (X.env.qual ++ "<lambda>") TT)
    (hr : Room (k + 2) X.A) (L : LamX.LamS X.env.scope scope) (hbind : ∀ (q : Str) (cl : List (Str × Addr)) (pm cv ctv : Value), bindArgs (PySem.W.kla_fn "<lambda>" q params body scope cl pm cv ctv) ⟨[], []⟩ = pure [])
    (hbody : ∀ (A : Around) (outer : List Env) (s : Shared) (H : Hp) (E : XK) (f c' : Addr), Room k (A.deeper (LamX.lamEnv X scope s.heap.objs.size f c')) → PE (LamX.lamCx X A outer s H E scope f c') body (t E)) (ha : PE X ea (tVar j))
    (hdb : (x == ("__debug__" : Str)) = false := by decide) (hd : (a == ("__debug__" : Str)) = false := by decide) (hcd : (a == ("__classdict__" : Str)) = false := by decide)
    (he : starEach [ea] X.env = (false, eval ea X.env) :: starEach [] X.env := by rfl) (hpl : (backTo pos (starEach [] X.env)).any (·.1) = false := by rfl) :
    PE X (.Call (.Name x p) [ea] [] pos) (fun σ H Q => σ[j]? = some (some (.ref f)) ∧ H c' = some (LamX.CodeO c' q) ∧ TT (fun E H' Q' => t E σ H' Q') H Q) := by
  refine ⟨fun pins s σ H Q I h => wpAny_Call_Name_kw (ld_glob I hg hm (PySem.W.callWith_K I.ok.mod.kin hk ?_ he hpl) hdb)⟩
  subst hq
  obtain ⟨hσ, hco, hT⟩ := h
  refine thn ((pa_cons ha pa_nil he).run pos pins s σ H (fun vs H1 => vs = [.ref f] ∧ H1 = H) I ⟨_, hσ, rfl, rfl⟩) fun us s1 y => ?_
  obtain ⟨vs, H1, I1, r1, rfl, rfl⟩ := y
  obtain ⟨w, rfl, rw_⟩ := r1.one
  have rw2 : w = Value.ref f := rw_
  subst rw2
  refine ⟨I1.kIn, ?_⟩
  obtain ⟨hf, hfn, _⟩ := I1.pin _ (List.mem_append_left _ hpin)
  have rc := LamX.run_ofS (CX := C8.CX0) (E := C8.E0) (Q := Q) lk hcg Sg hr I1.env0 (hb s1 [Value.ref f] I1.kIn rfl) (show Vals [V.ref f] [Value.ref f] from .cons rfl .nil) rfl (fun hr' => by
    obtain ⟨t', ht', hq'⟩ := hG f c' s1 H1 Q (fun E H' Q' => t E σ H' Q') (fun W pn xe E p1 p2 tk hW => LamX.pe_act I1 L hf hfn hfr (hbind _ _ _ _ _) tk hW hr' (fun A outer s H hr2 => hbody A outer s H E f c' hr2) hNg hva hd hcd) hco hT
    exact ⟨t', ht'.nox, hq'⟩)
  refine wpAny_call (codeAny_mono rc fun r s2 hq => ?_)
  cases r with
  | error e => exact (show False from hq).elim
  | ok fl =>
    cases fl with
    | next => exact (show False from hq).elim
    | brk => exact (show False from hq).elim
    | cont => exact (show False from hq).elim
    | ret u => exact I1.after hq
theorem pe_or2 {X : Cx} {e : Expr} {t u : TE} (h1 : PE X e t) (h2 : PE X e u) : PE X e (fun σ H Q => t σ H Q ∨ u σ H Q) := ⟨fun pins s σ H Q I h => h.elim (fun h => h1.run pins s σ H Q I h) (fun h => h2.run pins s σ H Q I h)⟩
end
end WB
namespace WB
open PySem PySem.Spec PyProof.Rows L2
/-! ### objects: fields, methods, new ones -/
section
variable {X : Cx} (K : PySem.W.Frag) {e o value : Expr} {f : Str} {pos pos' tpos : Pos} {ta tv : TE} {op : Operator} {rd : V → V → Hp → VK → Prop}
theorem pe_fldK (h : X.K = K) (he : PE X e ta) (hb : attributeBase e f X.env (eval e X.env) = eval e X.env := by rfl) : PE X (.Attribute e f pos) (tFld K ta f) := by subst h; exact pe_fld he hb
theorem ps_fldK (h : X.K = K) (ho : PE X o ta) (hv : PE X value tv) (hs : swapsWith value (some (.Attribute o f pos')) pos.line X.env = pure false := by rfl) : PS X (.Assign [.Attribute o f pos'] value pos) (sFld K ta tv f) := by subst h; exact ps_fld ho hv hs
theorem ps_fldaugK (h : X.K = K) (ho : PE X o ta) (hv : PE X value tv) (hop : InOp X op rd) : PS X (.AugAssign (.Attribute o f tpos) op value pos) (sFldAug K ta tv rd f) := by subst h; exact ps_fldaug ho hv hop
def rTupK (K : PySem.W.Frag) : List V → Hp → VK → Prop := fun xs H Q => ∃ p ys, xs = [.ref p] ∧ ((SqL K H p ys ∧ ∀ l, H l = none → Q (.ref l) (upd H l (.tup ys))) ∨ (SqT K H p ys ∧ Q (.ref p) H))
theorem call_tupleK (h : X.K = K) : CallR X (.type "tuple") (rTupK K) := by subst h; exact call_tuple_of
end
/-- a method of the class at C -/
def CalM (CX : CXT) (P : Program) (w : World) (K : PySem.W.Frag) (mg : Str → Option Value) (base : Heap) (k : Nat) (C : Addr) (m : Str) (ps : List Str) (sp : Sp) : Prop :=
  ∃ (f : Addr) (fd : FuncData), Cls K C ∧ Meth K C m f ∧ FnOk P w K mg base CX k f fd ps sp ∧ Binds K fd ps []
theorem CalM.mono {CX : CXT} {P : Program} {w : World} {K : PySem.W.Frag} {mg : Str → Option Value} {base : Heap} {j k : Nat} {C : Addr} {m : Str} {ps : List Str} {sp : Sp} (c : CalM CX P w K mg base j C m ps sp) (h : j ≤ k) : CalM CX P w K mg base k C m ps sp := by
  obtain ⟨f, fd, a, b, d, e⟩ := c
  exact ⟨f, fd, a, b, d.mono h, e⟩
/-- new things of the class at C -/
def CalN (P : Program) (w : World) (K : PySem.W.Frag) (mg : Str → Option Value) (base : Heap) (k : Nat) (nm : Str) (C : Addr) (ps : List Str) (sp : Sp) : Prop :=
  ∃ (f : Addr) (fd : FuncData), Mk K C f ∧ FnOk P w K mg base CX0 k f fd ps sp ∧ mg nm = some (.ref C) ∧ Binds K fd ps []
theorem CalN.mono {P : Program} {w : World} {K : PySem.W.Frag} {mg : Str → Option Value} {base : Heap} {j k : Nat} {nm : Str} {C : Addr} {ps : List Str} {sp : Sp} (c : CalN P w K mg base j nm C ps sp) (h : j ≤ k) : CalN P w K mg base k nm C ps sp := by
  obtain ⟨f, fd, a, b, d, e⟩ := c
  exact ⟨f, fd, a, b.mono h, d, e⟩
section
variable {X : Cx} {k : Nat} {C : Addr} {m nm : Str} {ps : List Str} {sp : Sp} {E : XK} {pos apos p : Pos} {e o : Expr} {es : List Expr} {ta : TE} {t : TA} {pl : Sem Bool}
theorem pe_methC (ho : PE X o ta) (c : CalM CX0 X.prog X.w X.K X.mg X.base k C m ps sp) (hr : Room k X.A) (ha : PA X (e :: es) t) (hs : starEach (e :: es) X.env = (false, eval e X.env) :: starEach es X.env := by rfl) (hpl : (backTo pos (starEach es X.env)).any (·.1) = false := by rfl)
    (hc : eval (.Call (.Attribute o m apos) (e :: es) [] pos) X.env = (do
      let ov ← eval o X.env
      standAt apos.atName
      let (f, first) ← holding [ov] (getMethod ov m pl)
      callWith pos f first (backTo pos (starEach (e :: es) X.env)) (backToKw pos (keywordEach [] X.env))) := by rfl) : PE X (.Call (.Attribute o m apos) (e :: es) [] pos) (tMeth C m sp [] E0 ta t) := by
  obtain ⟨f, fd, a, b, d, g⟩ := c
  exact pe_meth ho a b d hr g .nil pass0 ha hs hpl hc
theorem pe_methC0 (ho : PE X o ta) (c : CalM CX0 X.prog X.w X.K X.mg X.base k C m ps sp) (hr : Room k X.A)
    (hc : eval (.Call (.Attribute o m apos) [] [] pos) X.env = (do
      let ov ← eval o X.env
      standAt apos.atName
      let (f, first) ← holding [ov] (getMethod ov m pl)
      callWith pos f first (backTo pos (starEach [] X.env)) (backToKw pos (keywordEach [] X.env))) := by rfl) : PE X (.Call (.Attribute o m apos) [] [] pos) (tMeth C m sp [] E0 ta tNil) := by
  obtain ⟨f, fd, a, b, d, g⟩ := c
  exact pe_meth0 ho a b d hr g .nil pass0 hc
/-- a method that may let an exception out, where it lets out none -/
theorem pe_methF (ho : PE X o ta) (c : CalM (L2.CX X.prog X.w) X.prog X.w X.K X.mg X.base k C m ps sp) (hr : Room k X.A) (ha : PA X (e :: es) t) (hs : starEach (e :: es) X.env = (false, eval e X.env) :: starEach es X.env := by rfl) (hpl : (backTo pos (starEach es X.env)).any (·.1) = false := by rfl)
    (hc : eval (.Call (.Attribute o m apos) (e :: es) [] pos) X.env = (do
      let ov ← eval o X.env
      standAt apos.atName
      let (f, first) ← holding [ov] (getMethod ov m pl)
      callWith pos f first (backTo pos (starEach (e :: es) X.env)) (backToKw pos (keywordEach [] X.env))) := by rfl) : PE X (.Call (.Attribute o m apos) (e :: es) [] pos) (tMeth C m sp [] E0 ta t) := by
  obtain ⟨f, fd, a, b, d, g⟩ := c
  exact pe_meth ho a b d hr g .nil passL ha hs hpl hc
theorem pe_methP (ho : PE X o ta) (c : CalM (L2.CX X.prog X.w) X.prog X.w X.K X.mg X.base k C m ps sp) (hr : Room k X.A) (hx : Passes (L2.CX X.prog X.w) X E) (ha : PA X (e :: es) t) (hs : starEach (e :: es) X.env = (false, eval e X.env) :: starEach es X.env := by rfl) (hpl : (backTo pos (starEach es X.env)).any (·.1) = false := by rfl)
    (hc : eval (.Call (.Attribute o m apos) (e :: es) [] pos) X.env = (do
      let ov ← eval o X.env
      standAt apos.atName
      let (f, first) ← holding [ov] (getMethod ov m pl)
      callWith pos f first (backTo pos (starEach (e :: es) X.env)) (backToKw pos (keywordEach [] X.env))) := by rfl) : PE X (.Call (.Attribute o m apos) (e :: es) [] pos) (tMeth C m sp [] E ta t) := by
  obtain ⟨f, fd, a, b, d, g⟩ := c
  exact pe_meth ho a b d hr g .nil hx ha hs hpl hc
theorem pe_makeC0 (c : CalN X.prog X.w X.K X.mg X.base k nm C ps sp) (hr : Room (k + 1) X.A) (hg : Gl X nm) (hdb : (nm == ("__debug__" : Str)) = false := by decide) : PE X (.Call (.Name nm p) [] [] pos) (tMake C sp [] E0 tNil) := by
  obtain ⟨f, fd, a, b, d, g⟩ := c
  exact pe_make0 a b hr hg d g .nil pass0 hdb
end
/-! ### heaps that keep their lists -/
/-- lists, tuples and what is held still stay -/
def Lk (H H' : Hp) : Prop := ∀ a o, H a = some o → (∃ xs, o = .lst xs) ∨ (∃ xs, o = .tup xs) ∨ (∃ u v, o = .frz u v) → H' a = some o
section
variable {K : PySem.W.Frag}
theorem lk_l {H H' : Hp} {a : Addr} {xs : List V} (e : Lk H H') (h : SqL K H a xs) : SqL K H' a xs := by
  rcases h with (h | ⟨o, h⟩) | h
  · exact .inl (.inl (e _ _ h (.inl ⟨_, rfl⟩)))
  · exact .inl (.inr ⟨o, e _ _ h (.inr (.inr ⟨_, _, rfl⟩))⟩)
  · exact .inr h
theorem lk_t {H H' : Hp} {a : Addr} {xs : List V} (e : Lk H H') (h : SqT K H a xs) : SqT K H' a xs := by
  rcases h with (h | ⟨o, h⟩) | h
  · exact .inl (.inl (e _ _ h (.inr (.inl ⟨_, rfl⟩))))
  · exact .inl (.inr ⟨o, e _ _ h (.inr (.inr ⟨_, _, rfl⟩))⟩)
  · exact .inr h
mutual
theorem dp_lk {H H' : Hp} (e : Lk H H') : ∀ {d : PyData} {x : V}, Dp K H x d → Dp K H' x d
  | _, _, .non => .non
  | _, _, .bl b => .bl b
  | _, _, .int i => .int i
  | _, _, .str s => .str s
  | _, _, .lst hs ha => .lst (lk_l e hs) (dpa_lk e ha)
  | _, _, .tup hs ha => .tup (lk_t e hs) (dpa_lk e ha)
theorem dpa_lk {H H' : Hp} (e : Lk H H') : ∀ {ds : List PyData} {xs : List V}, DpAll K H xs ds → DpAll K H' xs ds
  | _, _, .nil => .nil
  | _, _, .cons h t => .cons (dp_lk e h) (dpa_lk e t)
end
theorem lk_mv {b : Addr} {H H' : Hp} (m : Mv b H H') (h : ∀ o, H b = some o → ¬ ((∃ xs, o = .lst xs) ∨ (∃ xs, o = .tup xs) ∨ (∃ u v, o = .frz u v))) : Lk H H' := fun a o e k => m a o (fun z => by subst z; exact h o e k) e
theorem lk_same {H H' : Hp} (s : Same H H') : Lk H H' := fun a o e _ => s a o e
end
end WB
namespace WB
open PySem PySem.Spec PyProof.Rows L2
/-! ### things that stand apart in the heap -/
/-- all but what stands at F stays, and nothing vanishes -/
structure MvF (F : List Addr) (H H' : Hp) : Prop where
  kp : ∀ a o, a ∉ F → H a = some o → H' a = some o
  al : ∀ a, H' a = none → H a = none
theorem al_same {H H' : Hp} (s : Same H H') : ∀ a, H' a = none → H a = none := fun _ h => s.free h
theorem al_upd {H H' : Hp} {p : Addr} {o : HO} (s : ∀ a, H' a = none → H a = none) : ∀ a, upd H' p o a = none → H a = none := fun a h => by
  by_cases z : a = p
  · rw [z, upd_same] at h
    cases h
  · rw [upd_ne z] at h
    exact s a h
theorem al_mv {H H' : Hp} {p : Addr} {o : HO} (m : Mv p H H') (e : H' p = some o) : ∀ a, H' a = none → H a = none := fun a h => by
  by_cases z : a = p
  · rw [z, e] at h
    cases h
  · exact m.none z h
section
variable {F : List Addr} {H H' H1 H2 : Hp}
theorem MvF.refl (F : List Addr) (H : Hp) : MvF F H H := ⟨fun _ _ _ h => h, fun _ h => h⟩
theorem MvF.of (s : Same H H') : MvF F H H' := ⟨fun a o _ h => s a o h, al_same s⟩
theorem MvF.mv {p : Addr} {o : HO} (m : Mv p H H') (e : H' p = some o) (hp : p ∈ F) : MvF F H H' := ⟨fun a u n h => m a u (fun z => n (z ▸ hp)) h, al_mv m e⟩
theorem MvF.trans (m : MvF F H H1) (m' : MvF F H1 H2) : MvF F H H2 := ⟨fun a o n h => m'.kp a o n (m.kp a o n h), fun a h => m.al a (m'.al a h)⟩
theorem MvF.upd {p : Addr} {o : HO} (m : MvF F H H') (hp : p ∈ F) : MvF F H (L2.upd H' p o) := ⟨fun a u n h => by rw [upd_ne (fun z : a = p => n (by rw [z]; exact hp))]; exact m.kp a u n h, al_upd m.al⟩
theorem MvF.wide {G : List Addr} (m : MvF F H H') (h : ∀ a ∈ F, a ∈ G) : MvF G H H' := ⟨fun a o n e => m.kp a o (fun z => n (h a z)) e, m.al⟩
/-- where the second one's places are the first one's, or new -/
theorem MvF.trans2 {G : List Addr} (m : MvF F H H1) (m' : MvF G H1 H2) (hg : ∀ a ∈ G, a ∈ F ∨ H a = none) : MvF F H H2 := by
  refine ⟨fun a o n e => m'.kp a o (fun z => ?_) (m.kp a o n e), fun a h => m.al a (m'.al a h)⟩
  rcases hg a z with y | y
  · exact n y
  · rw [y] at e
    cases e
theorem MvF.same (m : MvF F H H') (s : Same H' H1) : MvF F H H1 := m.trans (.of s)
theorem MvF.new (m : MvF F H H') {p : Addr} {o : HO} (n : H' p = none) : MvF F H (L2.upd H' p o) := m.same (same_upd n)
theorem MvF.free (m : MvF F H H') {p : Addr} (h : H' p = none) : H p = none := m.al p h
theorem MvF.toSame (m : MvF [] H H') : Same H H' := fun a o h => m.kp a o List.not_mem_nil h
end
/-- no table of code, no thing of the machine's own -/
def plain : HO → Prop
  | .tbl _ => False
  | .ext _ => False
  | _ => True
structure Th where
  ft : List Addr
  P : Hp → Prop
  loc : ∀ H H' : Hp, (∀ a ∈ ft, ∀ o, H a = some o → H' a = some o) → P H → P H'
  al : ∀ H, P H → ∀ a ∈ ft, ∃ o, H a = some o ∧ plain o
/-- these things stand apart, and the tables of code are as they were -/
structure Hs (T : List (Addr × Str)) (Ts : List Th) (H : Hp) : Prop where
  all : ∀ (i : Nat) (T : Th), Ts[i]? = some T → T.P H
  sep : ∀ (i j : Nat) (x y : Th), i ≠ j → Ts[i]? = some x → Ts[j]? = some y → ∀ a ∈ x.ft, a ∉ y.ft
  tab : LamX.Tabs T H
theorem Th.live (T : Th) {H : Hp} (h : T.P H) {a : Addr} (ha : a ∈ T.ft) : H a ≠ none := by
  obtain ⟨o, e, _⟩ := T.al H h a ha
  rw [e]
  exact fun z => nomatch z
theorem tabs_keep {T : List (Addr × Str)} {H H' : Hp} (t : LamX.Tabs T H) (h : ∀ a o, H a = some o → ¬ plain o → H' a = some o) : LamX.Tabs T H' := fun p hp => by
  obtain ⟨ps, h1, h2, h3⟩ := t p hp
  refine ⟨ps, h _ _ h1 (fun z => z), h2, fun pos cv hc => ?_⟩
  obtain ⟨c, e1, e2⟩ := h3 pos cv hc
  exact ⟨c, e1, h _ _ e2 (fun z => z)⟩
section
variable {T0 : List (Addr × Str)} {Ts Ts' : List Th} {T T' N : Th} {H H' : Hp}
theorem Hs.nil (t : LamX.Tabs T0 H) : Hs T0 [] H := ⟨fun i T h => (by cases h), fun i j x y _ h => (by cases h), t⟩
theorem Hs.nil0 : Hs [] [] H := .nil (fun p hp => absurd hp List.not_mem_nil)
theorem Hs.get (h : Hs T0 Ts H) (i : Nat) (hi : Ts[i]? = some T) : T.P H := h.all i T hi
theorem Hs.same (h : Hs T0 Ts H) (s : Same H H') : Hs T0 Ts H' := ⟨fun i T hi => T.loc H H' (fun a _ o e => s a o e) (h.all i T hi), h.sep, h.tab.ext s⟩
/-- a lambda was made -/
theorem Hs.extN (h : Hs T0 Ts H) (e : LamX.ExtN H H') (t : LamX.Tabs T0 H') : Hs T0 Ts H' := ⟨fun i T hi => T.loc H H' (fun a ha o q => e a o q (fun ps z => by
  obtain ⟨o', e1, e2⟩ := T.al H (h.all i T hi) a ha
  rw [e1] at q
  cases q
  rw [z] at e2
  exact e2)) (h.all i T hi), h.sep, t⟩
theorem Hs.ne (h : Hs T0 Ts H) (i j : Nat) {x y : Th} (hi : Ts[i]? = some x) (hj : Ts[j]? = some y) {a b : Addr} (ha : a ∈ x.ft) (hb : b ∈ y.ft) (n : i ≠ j := by decide) : a ≠ b := fun z => h.sep i j x y n hi hj a ha (z ▸ hb)
theorem Hs.keep (h : Hs T0 Ts H) {i j : Nat} {x : Th} {F : List Addr} (hi : Ts[i]? = some T) (hj : Ts[j]? = some x) (n : j ≠ i) (m : MvF F H H') (hF : ∀ a ∈ F, a ∈ T.ft ∨ H a = none) : x.P H' := by
  refine x.loc H H' (fun a ha o e => m.kp a o (fun z => ?_) e) (h.all j x hj)
  rcases hF a z with y | y
  · exact h.sep j i x T n hj hi a ha y
  · rw [y] at e
    cases e
theorem Hs.op {F : List Addr} (h : Hs T0 Ts H) (i : Nat) (hi : Ts[i]? = some T) (m : MvF F H H') (hF : ∀ a ∈ F, a ∈ T.ft ∨ H a = none) (hp : T'.P H') (hf : ∀ a ∈ T'.ft, a ∈ T.ft ∨ H a = none) : Hs T0 (Ts.set i T') H' := by
  have hil : i < Ts.length := (List.getElem?_eq_some_iff.mp hi).1
  have new : ∀ (j : Nat) (y : Th), j ≠ i → Ts[j]? = some y → ∀ a ∈ T'.ft, a ∉ y.ft := fun j y n hj a ha z => by
    rcases hf a ha with q | q
    · exact h.sep i j T y n.symm hi hj a q z
    · exact y.live (h.all j y hj) z q
  refine ⟨fun j x hj => ?_, fun j k x y n hj hk => ?_, tabs_keep h.tab fun a o e np => m.kp a o (fun z => ?_) e⟩
  · rw [List.getElem?_set] at hj
    by_cases z : i = j
    · rw [if_pos z, if_pos (z ▸ hil)] at hj
      cases hj
      exact hp
    · rw [if_neg z] at hj
      exact h.keep hi hj (fun q => z q.symm) m hF
  · rw [List.getElem?_set] at hj hk
    by_cases z : i = j
    · rw [if_pos z, if_pos (z ▸ hil)] at hj
      rw [if_neg (fun q => n (z.symm.trans q))] at hk
      cases hj
      exact new k y (fun q => n (z.symm.trans q.symm)) hk
    · rw [if_neg z] at hj
      by_cases z2 : i = k
      · rw [if_pos z2, if_pos (z2 ▸ hil)] at hk
        cases hk
        exact fun a ha hb => new j x (fun q => z q.symm) hj a hb ha
      · rw [if_neg z2] at hk
        exact h.sep j k x y n hj hk
  · rcases hF a z with y | y
    · obtain ⟨o', e1, e2⟩ := T.al H (h.all i T hi) a y
      rw [e1] at e
      cases e
      exact np e2
    · rw [y] at e
      cases e
theorem Hs.cons (h : Hs T0 Ts H) (hp : T.P H) (hf : ∀ (j : Nat) (y : Th), Ts[j]? = some y → ∀ a ∈ T.ft, a ∉ y.ft) : Hs T0 (T :: Ts) H := by
  refine ⟨fun j x hj => ?_, fun j k x y n hj hk => ?_, h.tab⟩
  · cases j with
    | zero => cases hj; exact hp
    | succ j => exact h.all j x hj
  · cases j with
    | zero =>
      cases hj
      cases k with
      | zero => exact absurd rfl n
      | succ k => exact hf k y hk
    | succ j =>
      cases k with
      | zero =>
        cases hk
        exact fun a ha hb => hf j x hj a hb ha
      | succ k => exact h.sep j k x y (fun q => n (congrArg (· + 1) q)) hj hk
theorem Hs.new (h : Hs T0 Ts H) (s : Same H H') (hp : T.P H') (hf : ∀ a ∈ T.ft, H a = none) : Hs T0 (T :: Ts) H' :=
  (h.same s).cons hp fun j y hj a ha hb => y.live (h.all j y hj) hb (hf a ha)
/-- a thing changes, and a new one comes -/
theorem Hs.opNew {F : List Addr} (h : Hs T0 Ts H) (i : Nat) (hi : Ts[i]? = some T) (m : MvF F H H') (hF : ∀ a ∈ F, a ∈ T.ft ∨ H a = none) (hp : T'.P H') (hf : ∀ a ∈ T'.ft, a ∈ T.ft ∨ H a = none) (hn : N.P H') (hnf : ∀ a ∈ N.ft, H a = none ∧ a ∉ T'.ft) : Hs T0 (N :: Ts.set i T') H' := by
  refine (h.op i hi m hF hp hf).cons hn fun j y hj a ha hb => ?_
  rw [List.getElem?_set] at hj
  by_cases z : i = j
  · rw [if_pos z, if_pos (z ▸ (List.getElem?_eq_some_iff.mp hi).1)] at hj
    cases hj
    exact (hnf a ha).2 hb
  · rw [if_neg z] at hj
    exact y.live (h.all j y hj) hb (hnf a ha).1
/-- these places of the list, in this order -/
def pickTs (Ts : List Th) : List Nat → List Th
  | [] => []
  | i :: r => match Ts[i]? with
    | some x => x :: pickTs Ts r
    | none => pickTs Ts r
theorem mem_pick : ∀ {is : List Nat} {k : Nat} {x : Th}, (pickTs Ts is)[k]? = some x → ∃ i ∈ is, Ts[i]? = some x
  | [], k, x, h => by cases h
  | i :: r, k, x, h => by
    unfold pickTs at h
    cases e : Ts[i]? with
    | none =>
      rw [e] at h
      obtain ⟨j, hj, q⟩ := mem_pick h
      exact ⟨j, .tail _ hj, q⟩
    | some y =>
      rw [e] at h
      cases k with
      | zero => cases h; exact ⟨i, .head _, e⟩
      | succ k =>
        obtain ⟨j, hj, q⟩ := mem_pick (k := k) h
        exact ⟨j, .tail _ hj, q⟩
theorem Hs.sel (h : Hs T0 Ts H) : ∀ (is : List Nat), is.Nodup → Hs T0 (pickTs Ts is) H
  | [], _ => .nil h.tab
  | i :: r, hn => by
    have hn := List.nodup_cons.mp hn
    have t := h.sel r hn.2
    unfold pickTs
    cases e : Ts[i]? with
    | none => exact t
    | some x =>
      refine t.cons (h.all i x e) fun j y hj => ?_
      obtain ⟨k, hk, q⟩ := mem_pick hj
      exact h.sep i k x y (fun z => hn.1 (z ▸ hk)) e q
theorem Hs.tail {x : Th} (h : Hs T0 (x :: Ts) H) : Hs T0 Ts H := ⟨fun i T hi => h.all (i + 1) T hi, fun i j x y n hi hj => h.sep (i + 1) (j + 1) x y (by omega) hi hj, h.tab⟩
theorem Hs.head {x : Th} (h : Hs T0 (x :: Ts) H) : x.P H := h.all 0 x rfl
theorem Hs.apart {x y : Th} (h : Hs T0 (x :: Ts) H) (hy : y ∈ Ts) : ∀ a ∈ x.ft, a ∉ y.ft := by
  obtain ⟨j, hj⟩ := List.getElem?_of_mem hy
  exact h.sep 0 (j + 1) x y (by omega) rfl hj
theorem Hs.swap {x y : Th} (h : Hs T0 (x :: y :: Ts) H) : Hs T0 (y :: x :: Ts) H :=
  (h.tail.tail.cons h.head fun j z hj => h.apart (.tail _ (List.mem_of_getElem? hj))).cons h.tail.head fun j z hj a ha hb => by
    rcases List.mem_cons.mp (List.mem_of_getElem? hj) with rfl | hm
    · exact h.apart (.head _) a hb ha
    · exact h.tail.apart hm a ha hb
theorem Hs.perm (p : Ts.Perm Ts') : ∀ {H : Hp}, Hs T0 Ts H → Hs T0 Ts' H := by
  induction p with
  | nil => exact fun h => h
  | cons x q ih => exact fun h => (ih h.tail).cons h.head fun j y hj => h.apart (q.mem_iff.mpr (List.mem_of_getElem? hj))
  | swap x y l => exact fun h => h.swap
  | trans _ _ ih1 ih2 => exact fun h => ih2 (ih1 h)
/-- two things seen as one -/
theorem Hs.merge {A B C : Th} (h : Hs T0 (A :: B :: Ts) H) (hp : C.P H) (hf : ∀ a ∈ C.ft, a ∈ A.ft ∨ a ∈ B.ft) : Hs T0 (C :: Ts) H :=
  h.tail.tail.cons hp fun j y hj a ha hb => (hf a ha).elim (fun z => h.apart (.tail _ (List.mem_of_getElem? hj)) a z hb) (fun z => h.tail.apart (List.mem_of_getElem? hj) a z hb)
theorem Hs.drop1 {x y : Th} (h : Hs T0 (x :: y :: Ts) H) : Hs T0 (x :: Ts) H := h.swap.tail
theorem Hs.drop2 {x y z : Th} (h : Hs T0 (x :: y :: z :: Ts) H) : Hs T0 (x :: y :: Ts) H := h.tail.drop1.cons h.head fun j u hj => by
  rcases List.mem_cons.mp (List.mem_of_getElem? hj) with rfl | hm
  · exact h.apart (.head _)
  · exact h.apart (.tail _ (.tail _ hm))
theorem Hs.drop3 {x y z u : Th} (h : Hs T0 (x :: y :: z :: u :: Ts) H) : Hs T0 (x :: y :: z :: Ts) H := h.tail.drop2.cons h.head fun j v hj => by
  rcases List.mem_cons.mp (List.mem_of_getElem? hj) with rfl | hm
  · exact h.apart (.head _)
  rcases List.mem_cons.mp hm with rfl | hm
  · exact h.apart (.tail _ (.head _))
  · exact h.apart (.tail _ (.tail _ (.tail _ hm)))
end
/-! ### the commonest things -/
/-- what stands at a -/
def tO (a : Addr) (o : HO) : Th := ⟨[a], fun H => H a = some o ∧ plain o, fun H H' k h => ⟨k a (.head _) o h.1, h.2⟩, fun H h b hb => by rw [List.mem_singleton.mp hb]; exact ⟨o, h⟩⟩
abbrev tL (a : Addr) (xs : List V) : Th := tO a (.lst xs)
theorem Bag.al {b : Addr × Addr} {H : Hp} (g : Bag b H) : H b.1 ≠ none ∧ H b.2 ≠ none := by
  obtain ⟨ns, i, r, x, c, h1, h2, _⟩ := g
  exact ⟨(by rw [h1]; exact fun z => nomatch z), (by rw [h2]; exact fun z => nomatch z)⟩
def tB (b : Addr × Addr) : Th := ⟨[b.1, b.2], Bag b, fun H H' k h => by
  obtain ⟨ns, i, r, x, c, h1, h2, h3⟩ := h
  exact ⟨ns, i, r, x, c, k _ (.head _) _ h1, k _ (.tail _ (.head _)) _ h2, h3⟩, fun H h a ha => by
  obtain ⟨ns, i, r, x, c, h1, h2, h3⟩ := h
  rcases List.mem_cons.mp ha with rfl | ha
  · exact ⟨_, h1, trivial⟩
  · rw [List.mem_singleton.mp ha]
    exact ⟨_, h2, trivial⟩⟩
theorem in1 {a p : Addr} (h : a ∈ [p]) : a = p := List.mem_singleton.mp h
section
variable {T0 : List (Addr × Str)} {b : Addr × Addr} {Ts : List Th} {H H' : Hp} {p : Addr} {o o' : HO}
theorem Hs.bag (h : Hs T0 (tB b :: Ts) H) : Bag b H := h.get 0 rfl
theorem mvf_bag (m : Mv b.1 H H') (g : Bag b H') : MvF [b.1, b.2] H H' := by
  obtain ⟨ns, i, r, x, c, h1, h2, h3⟩ := g
  exact .mv m h1 (.head _)
theorem Hs.mv (h : Hs T0 (tB b :: Ts) H) (m : Mv b.1 H H') (g : Bag b H') : Hs T0 (tB b :: Ts) H' := h.op (T := tB b) (T' := tB b) 0 rfl (mvf_bag m g) (fun a ha => .inl ha) g (fun a ha => .inl ha)
/-- a draw that tells a new thing -/
theorem Hs.newM (h : Hs T0 (tB b :: Ts) H) (m : Mv b.1 H H') (g : Bag b H') (n : H p = none) (e : H' p = some o) (pl : plain o := by exact trivial) : Hs T0 (tB b :: tO p o :: Ts) H' := by
  have h2 : Hs T0 (tO p o :: tB b :: Ts) H' := (h.opNew (T := tB b) (T' := tB b) (N := tO p o) 0 rfl (mvf_bag m g) (fun a ha => .inl ha) g (fun a ha => .inl ha) ⟨e, pl⟩ (fun a ha => by
    rw [in1 ha]
    refine ⟨n, fun z => ?_⟩
    rcases List.mem_cons.mp z with z | z
    · exact (h.bag.al.1) (z ▸ n)
    · exact (h.bag.al.2) (in1 z ▸ n)))
  exact h2.swap
/-- a new thing at the head -/
theorem Hs.newH (h : Hs T0 Ts H) (s : Same H H') (n : H p = none) (e : H' p = some o) (pl : plain o := by exact trivial) : Hs T0 (tO p o :: Ts) H' := h.new (T := tO p o) s ⟨e, pl⟩ (fun a ha => by rw [in1 ha]; exact n)
theorem Hs.newHU (h : Hs T0 Ts H) (n : H p = none) (pl : plain o := by exact trivial) : Hs T0 (tO p o :: Ts) (upd H p o) := h.newH (same_upd n) n upd_same pl
/-- a new thing, put behind the bag -/
theorem Hs.newB (h : Hs T0 (tB b :: Ts) H) (s : Same H H') (n : H p = none) (e : H' p = some o) (pl : plain o := by exact trivial) : Hs T0 (tB b :: tO p o :: Ts) H' := (h.newH s n e pl).swap
theorem Hs.newU (h : Hs T0 (tB b :: Ts) H) (n : H p = none) (pl : plain o := by exact trivial) : Hs T0 (tB b :: tO p o :: Ts) (upd H p o) := h.newB (same_upd n) n upd_same pl
theorem Hs.put (h : Hs T0 Ts H) (i : Nat) (hi : Ts[i]? = some (tO p o)) (pl : plain o' := by exact trivial) : Hs T0 (Ts.set i (tO p o')) (upd H p o') :=
  h.op i hi (F := [p]) ((MvF.refl [p] H).upd (.head _)) (fun a ha => .inl ha) ⟨upd_same, pl⟩ (fun a ha => .inl ha)
theorem Hs.at (h : Hs T0 Ts H) (i : Nat) (hi : Ts[i]? = some (tO p o)) : H p = some o := (h.get i hi).1
end
/-! ### groups: several things seen as one -/
theorem sep_flat {Ts : List Th} {H : Hp} (h : Hs [] Ts H) : ∀ a ∈ Ts.flatMap (·.ft), ∃ o, H a = some o ∧ plain o := fun a ha => by
  obtain ⟨T, hT, ha⟩ := List.mem_flatMap.mp ha
  obtain ⟨i, hi⟩ := List.getElem?_of_mem hT
  exact T.al H (h.all i T hi) a ha
def tG (Ts : List Th) : Th := ⟨Ts.flatMap (·.ft), fun H => Hs [] Ts H, fun H H' k h => ⟨fun i T hi => T.loc H H' (fun a ha => k a (List.mem_flatMap.mpr ⟨T, List.mem_of_getElem? hi, ha⟩)) (h.all i T hi), h.sep, fun p hp => absurd hp List.not_mem_nil⟩, fun H h a ha => sep_flat h a ha⟩
section
variable {T0 : List (Addr × Str)} {Ts Gs : List Th} {H : Hp}
theorem Hs.tabs0 (h : Hs T0 Ts H) : Hs [] Ts H := ⟨h.all, h.sep, fun p hp => absurd hp List.not_mem_nil⟩
theorem Hs.app : ∀ {As : List Th}, Hs [] As H → Hs T0 Ts H → (∀ x ∈ As, ∀ y ∈ Ts, ∀ a ∈ x.ft, a ∉ y.ft) → Hs T0 (As ++ Ts) H
  | [], _, h, _ => h
  | A :: As, g, h, d => (Hs.app g.tail h (fun x hx => d x (.tail _ hx))).cons g.head fun j y hj a ha hb => by
    rcases List.mem_append.mp (List.mem_of_getElem? hj) with hm | hm
    · exact g.apart hm a ha hb
    · exact d A (.head _) y hm a ha hb
theorem Hs.left : ∀ {As : List Th}, Hs T0 (As ++ Ts) H → Hs [] As H
  | [], _ => .nil (fun p hp => absurd hp List.not_mem_nil)
  | A :: As, h => (Hs.left (As := As) h.tail).cons h.head fun j y hj => h.apart (List.mem_append_left _ (List.mem_of_getElem? hj))
theorem Hs.right : ∀ {As : List Th}, Hs T0 (As ++ Ts) H → Hs T0 Ts H
  | [], h => h
  | _ :: As, h => Hs.right (As := As) h.tail
theorem Hs.cross : ∀ {As : List Th}, Hs T0 (As ++ Ts) H → ∀ x ∈ As, ∀ y ∈ Ts, ∀ a ∈ x.ft, a ∉ y.ft
  | A :: As, h, x, hx, y, hy => by
    rcases List.mem_cons.mp hx with rfl | hx
    · exact h.apart (List.mem_append_right _ hy)
    · exact Hs.cross (As := As) h.tail x hx y hy
theorem Hs.ungroup (h : Hs T0 (tG Ts :: Gs) H) : Hs T0 (Ts ++ Gs) H := Hs.app h.head h.tail (fun x hx y hy a ha hb => h.apart hy a (List.mem_flatMap.mpr ⟨x, hx, ha⟩) hb)
theorem Hs.group (h : Hs T0 (Ts ++ Gs) H) : Hs T0 (tG Ts :: Gs) H := h.right.cons h.left fun j y hj a ha hb => by
  obtain ⟨x, hx, ha⟩ := List.mem_flatMap.mp ha
  exact h.cross x hx y (List.mem_of_getElem? hj) a ha hb
end
section
variable {α : Type} {T0 : List (Addr × Str)} {As : List Th} {Y : List α} {f : α → Th} {w : Nat} {y y' : α} {H : Hp}
theorem perm_at : ∀ {Y : List α} {w : Nat} {y : α}, Y[w]? = some y → (y :: Y.eraseIdx w).Perm Y
  | x :: Y, 0, y, h => by cases h; exact .refl _
  | x :: Y, w + 1, y, h => (List.Perm.swap x y _).trans (.cons x (perm_at (Y := Y) (w := w) h))
theorem erase_set : ∀ (Y : List α) (w : Nat) (y : α), (Y.set w y).eraseIdx w = Y.eraseIdx w
  | [], _, _ => rfl
  | x :: Y, 0, y => rfl
  | x :: Y, w + 1, y => congrArg (x :: ·) (erase_set Y w y)
/-- the w-th one to the head -/
theorem Hs.front (h : Hs T0 (As ++ Y.map f) H) (hy : Y[w]? = some y) : Hs T0 (f y :: (As ++ (Y.eraseIdx w).map f)) H := by
  refine h.perm (List.Perm.trans ?_ List.perm_middle)
  exact .append_left As ((perm_at hy).map f).symm
theorem Hs.back (h : Hs T0 (f y' :: (As ++ (Y.eraseIdx w).map f)) H) (hw : w < Y.length) : Hs T0 (As ++ (Y.set w y').map f) H := by
  have hy : (Y.set w y')[w]? = some y' := by rw [List.getElem?_set, if_pos rfl, if_pos hw]
  have := perm_at hy
  rw [erase_set] at this
  refine h.perm (List.Perm.trans List.perm_middle.symm ?_)
  exact .append_left As (this.map f)
end
end WB
namespace WB
open PySem PySem.Spec PyProof.Rows L2
section
variable {X : Cx} (K : PySem.W.Frag)
theorem cr_sumK (h : X.K = K) (hc : X.calm = true) : CallR X (.builtin "sum") (rSum K) := by subst h; exact cr_sum hc
theorem cr_minK (h : X.K = K) (hc : X.calm = true) : CallR X (.builtin "min") (rMin K) := by subst h; exact cr_min hc
theorem cr_maxK (h : X.K = K) (hc : X.calm = true) : CallR X (.builtin "max") (rMax K) := by subst h; exact cr_max hc
end
/-! ### while, by an invariant and a measure -/
def wN (Pv : L2.St → Hp → Prop) (μ : L2.St → Hp → Nat) (m : Nat) : L2.St → Hp → Prop := fun σ H => Pv σ H ∧ μ σ H < m
theorem wN_ok {Pv : L2.St → Hp → Prop} {μ : L2.St → Hp → Nat} {m : Nat} : ∀ σ' H', wN Pv μ m σ' H' → ∃ m', m' < m ∧ m' = μ σ' H' ∧ Pv σ' H' := fun _ _ h => ⟨_, h.2, rfl, h.1⟩
theorem while_w {c : TT} {tb : TS} {D : Ends} {σ : L2.St} {H : Hp} (Pv : L2.St → Hp → Prop) (μ : L2.St → Hp → Nat) (h0 : Pv σ H)
    (hs : ∀ σ H, Pv σ H → c σ H fun b H1 => if b = true then ∃ N : L2.St → Hp → Prop, (∀ σ' H', N σ' H' → ∃ m', m' < μ σ H ∧ m' = μ σ' H' ∧ Pv σ' H') ∧ tb { D with nx := N, ct := N, bk := D.nx } σ H1 else D.nx σ H1) : tWhile c tb D σ H := by
  refine ⟨fun m σ H => m = μ σ H ∧ Pv σ H, ⟨_, rfl, h0⟩, ?_⟩
  rintro m σ H ⟨rfl, p⟩
  exact hs σ H p
/-! ### defs with keyword-only parameters: n written by place, keywords named ks; gV puts them in the parameters' order -/
def CalW (P : Program) (w : World) (K : PySem.W.Frag) (mg : Str → Option Value) (base : Heap) (k : Nat) (nm : Str) (ps : List Str) (n : Nat) (ks : List Str) (gV : List V → List V → List V) (sp : Sp) : Prop :=
  ∃ (f : Addr) (fd : FuncData) (g : List Value → List Value → List Value), FnOk P w K mg base (L2.CX P w) k f fd ps sp ∧ mg nm = some (.ref f) ∧ PySem.W.keepIn K (.ref f) = true ∧ KBn K fd ps n ks g gV
theorem CalW.mono {P : Program} {w : World} {K : PySem.W.Frag} {mg : Str → Option Value} {base : Heap} {j k n : Nat} {nm : Str} {ps ks : List Str} {gV : List V → List V → List V} {sp : Sp} (c : CalW P w K mg base j nm ps n ks gV sp) (h : j ≤ k) : CalW P w K mg base k nm ps n ks gV sp := by
  obtain ⟨f, fd, g, a, b, d, e⟩ := c
  exact ⟨f, fd, g, a.mono h, b, d, e⟩
/-- with the keyword-only ones left out: dvs their values -/
def CalD (P : Program) (w : World) (K : PySem.W.Frag) (mg : Str → Option Value) (base : Heap) (k : Nat) (nm : Str) (ps : List Str) (dvs : List V) (sp : Sp) : Prop :=
  ∃ (f : Addr) (fd : FuncData) (ds : List Value), FnOk P w K mg base (L2.CX P w) k f fd ps sp ∧ mg nm = some (.ref f) ∧ PySem.W.keepIn K (.ref f) = true ∧ Binds K fd ps ds ∧ Vals dvs ds
theorem CalD.mono {P : Program} {w : World} {K : PySem.W.Frag} {mg : Str → Option Value} {base : Heap} {j k : Nat} {nm : Str} {ps : List Str} {dvs : List V} {sp : Sp} (c : CalD P w K mg base j nm ps dvs sp) (h : j ≤ k) : CalD P w K mg base k nm ps dvs sp := by
  obtain ⟨f, fd, g, a, b, d, e⟩ := c
  exact ⟨f, fd, g, a.mono h, b, d, e⟩
/-- new things of the class at C, by keywords -/
def CalNW (P : Program) (w : World) (K : PySem.W.Frag) (mg : Str → Option Value) (base : Heap) (k : Nat) (nm : Str) (C : Addr) (ps ks : List Str) (gV : List V → List V → List V) (sp : Sp) : Prop :=
  ∃ (f : Addr) (fd : FuncData) (g : List Value → List Value → List Value), Mk K C f ∧ FnOk P w K mg base (L2.CX P w) k f fd ps sp ∧ mg nm = some (.ref C) ∧ KBn K fd ps 1 ks g gV
theorem CalNW.mono {P : Program} {w : World} {K : PySem.W.Frag} {mg : Str → Option Value} {base : Heap} {j k : Nat} {nm : Str} {C : Addr} {ps ks : List Str} {gV : List V → List V → List V} {sp : Sp} (c : CalNW P w K mg base j nm C ps ks gV sp) (h : j ≤ k) : CalNW P w K mg base k nm C ps ks gV sp := by
  obtain ⟨f, fd, g, a, b, d, e⟩ := c
  exact ⟨f, fd, g, a, b.mono h, d, e⟩
/-- and with the keyword-only ones left out -/
def CalND (P : Program) (w : World) (K : PySem.W.Frag) (mg : Str → Option Value) (base : Heap) (k : Nat) (nm : Str) (C : Addr) (ps : List Str) (dvs : List V) (sp : Sp) : Prop :=
  ∃ (f : Addr) (fd : FuncData) (ds : List Value), Mk K C f ∧ FnOk P w K mg base (L2.CX P w) k f fd ps sp ∧ mg nm = some (.ref C) ∧ Binds K fd ps ds ∧ Vals dvs ds
theorem CalND.mono {P : Program} {w : World} {K : PySem.W.Frag} {mg : Str → Option Value} {base : Heap} {j k : Nat} {nm : Str} {C : Addr} {ps : List Str} {dvs : List V} {sp : Sp} (c : CalND P w K mg base j nm C ps dvs sp) (h : j ≤ k) : CalND P w K mg base k nm C ps dvs sp := by
  obtain ⟨f, fd, g, a, b, d, e⟩ := c
  exact ⟨f, fd, g, a, b.mono h, d, e⟩
section
variable {X : Cx} {k n : Nat} {C : Addr} {ps ks : List Str} {sp : Sp} {E : XK} {nm : Str} {p pos : Pos} {e : Expr} {es : List Expr} {kws : List Keyword} {t tk : TA} {gV : List V → List V → List V} {dvs : List V}
theorem pe_callW (c : CalW X.prog X.w X.K X.mg X.base k nm ps n ks gV sp) (hr : Room k X.A) (hx : Passes (L2.CX X.prog X.w) X E) (hg : Gl X nm) (ha : PA X (e :: es) t) (hkw : PK X kws tk)
    (hall : (backToKw pos (keywordEach kws X.env)).all (·.1.isSome) = true := by rfl) (hks : (backToKw pos (keywordEach kws X.env)).filterMap (·.1) = ks := by rfl)
    (hdb : (nm == ("__debug__" : Str)) = false := by decide) (he : starEach (e :: es) X.env = (false, eval e X.env) :: starEach es X.env := by rfl)
    (hpl : ((backTo pos (starEach (e :: es) X.env)).any (·.1) || (backToKw pos (keywordEach kws X.env)).any (·.1.isNone)) = false := by rfl) :
    PE X (.Call (.Name nm p) (e :: es) kws pos) (tCallN n ks.length sp gV E t tk) := by
  obtain ⟨f, fd, g, a, b, d, q⟩ := c
  exact pe_callN a hr hg b d q hx ha hkw hall hks hdb he hpl
theorem pe_callWF (c : CalW X.prog X.w X.K X.mg X.base k nm ps n ks gV sp) (hr : Room k X.A) (hg : Gl X nm) (ha : PA X (e :: es) t) (hkw : PK X kws tk)
    (hall : (backToKw pos (keywordEach kws X.env)).all (·.1.isSome) = true := by rfl) (hks : (backToKw pos (keywordEach kws X.env)).filterMap (·.1) = ks := by rfl)
    (hdb : (nm == ("__debug__" : Str)) = false := by decide) (he : starEach (e :: es) X.env = (false, eval e X.env) :: starEach es X.env := by rfl)
    (hpl : ((backTo pos (starEach (e :: es) X.env)).any (·.1) || (backToKw pos (keywordEach kws X.env)).any (·.1.isNone)) = false := by rfl) :
    PE X (.Call (.Name nm p) (e :: es) kws pos) (tCallN n ks.length sp gV E0 t tk) := pe_callW c hr passL hg ha hkw hall hks hdb he hpl
/-- keywords alone -/
theorem pe_callW0 (c : CalW X.prog X.w X.K X.mg X.base k nm ps 0 ks gV sp) (hr : Room k X.A) (hx : Passes (L2.CX X.prog X.w) X E) (hg : Gl X nm) (hkw : PK X kws tk)
    (hall : (backToKw pos (keywordEach kws X.env)).all (·.1.isSome) = true := by rfl) (hks : (backToKw pos (keywordEach kws X.env)).filterMap (·.1) = ks := by rfl) (hdb : (nm == ("__debug__" : Str)) = false := by decide)
    (hpl : ((backTo pos (starEach [] X.env)).any (·.1) || (backToKw pos (keywordEach kws X.env)).any (·.1.isNone)) = false := by rfl) :
    PE X (.Call (.Name nm p) [] kws pos) (tCallN 0 ks.length sp gV E tNil tk) := by
  obtain ⟨f, fd, g, a, b, d, hb⟩ := c
  refine ⟨fun pins s σ H Q I h => wpAny_Call_Name_kw (ld_glob I hg b ?_ hdb)⟩
  refine PySem.W.callWith_KW0 (I.ok.mod.kin) d hall (thn (hkw.run pos pins s σ H _ I h) fun ws s2 x => ?_) hpl
  obtain ⟨zs, H2, I2, rz, l1, l2, q2⟩ := x
  refine ⟨I2.kIn, ?_⟩
  rw [hks]
  exact run_fnN (us := []) (vs := []) a hr hb hx I2 .nil rz rfl l2 q2
theorem pe_callW0F (c : CalW X.prog X.w X.K X.mg X.base k nm ps 0 ks gV sp) (hr : Room k X.A) (hg : Gl X nm) (hkw : PK X kws tk)
    (hall : (backToKw pos (keywordEach kws X.env)).all (·.1.isSome) = true := by rfl) (hks : (backToKw pos (keywordEach kws X.env)).filterMap (·.1) = ks := by rfl) (hdb : (nm == ("__debug__" : Str)) = false := by decide)
    (hpl : ((backTo pos (starEach [] X.env)).any (·.1) || (backToKw pos (keywordEach kws X.env)).any (·.1.isNone)) = false := by rfl) :
    PE X (.Call (.Name nm p) [] kws pos) (tCallN 0 ks.length sp gV E0 tNil tk) := pe_callW0 c hr passL hg hkw hall hks hdb hpl
/-- the keyword-only ones left out -/
theorem pe_callD (c : CalD X.prog X.w X.K X.mg X.base k nm ps dvs sp) (hr : Room k X.A) (hx : Passes (L2.CX X.prog X.w) X E) (hg : Gl X nm) (ha : PA X (e :: es) t) (hdb : (nm == ("__debug__" : Str)) = false := by decide)
    (he : starEach (e :: es) X.env = (false, eval e X.env) :: starEach es X.env := by rfl) (hpl : (backTo pos (starEach es X.env)).any (·.1) = false := by rfl) :
    PE X (.Call (.Name nm p) (e :: es) [] pos) (tCall sp dvs E t) := by
  obtain ⟨f, fd, ds, a, b, d, q, v⟩ := c
  exact pe_call a hr hg b d q v hx ha hdb he hpl
theorem pe_callDF (c : CalD X.prog X.w X.K X.mg X.base k nm ps dvs sp) (hr : Room k X.A) (hg : Gl X nm) (ha : PA X (e :: es) t) (hdb : (nm == ("__debug__" : Str)) = false := by decide)
    (he : starEach (e :: es) X.env = (false, eval e X.env) :: starEach es X.env := by rfl) (hpl : (backTo pos (starEach es X.env)).any (·.1) = false := by rfl) :
    PE X (.Call (.Name nm p) (e :: es) [] pos) (tCall sp dvs E0 t) := pe_callD c hr passL hg ha hdb he hpl
theorem pe_callD0F (c : CalD X.prog X.w X.K X.mg X.base k nm ps dvs sp) (hr : Room k X.A) (hg : Gl X nm) (hdb : (nm == ("__debug__" : Str)) = false := by decide) :
    PE X (.Call (.Name nm p) [] [] pos) (tCall sp dvs E0 tNil) := by
  obtain ⟨f, fd, ds, a, b, d, q, v⟩ := c
  exact pe_call0 a hr hg b d q v passL hdb
theorem pe_makeW (c : CalNW X.prog X.w X.K X.mg X.base k nm C ps ks gV sp) (hr : Room (k + 1) X.A) (hx : Passes (L2.CX X.prog X.w) X E) (hg : Gl X nm) (hkw : PK X kws tk)
    (hall : (backToKw pos (keywordEach kws X.env)).all (·.1.isSome) = true := by rfl) (hks : (backToKw pos (keywordEach kws X.env)).filterMap (·.1) = ks := by rfl) (hdb : (nm == ("__debug__" : Str)) = false := by decide)
    (hpl : ((backTo pos (starEach [] X.env)).any (·.1) || (backToKw pos (keywordEach kws X.env)).any (·.1.isNone)) = false := by rfl) :
    PE X (.Call (.Name nm p) [] kws pos) (tMakeK C 0 ks.length sp gV E tNil tk) := by
  obtain ⟨f, fd, g, a, b, d, hb⟩ := c
  exact pe_makeK0 a b hr hg d hb hx hkw hall hks hdb hpl
theorem pe_makeWF (c : CalNW X.prog X.w X.K X.mg X.base k nm C ps ks gV sp) (hr : Room (k + 1) X.A) (hg : Gl X nm) (hkw : PK X kws tk)
    (hall : (backToKw pos (keywordEach kws X.env)).all (·.1.isSome) = true := by rfl) (hks : (backToKw pos (keywordEach kws X.env)).filterMap (·.1) = ks := by rfl) (hdb : (nm == ("__debug__" : Str)) = false := by decide)
    (hpl : ((backTo pos (starEach [] X.env)).any (·.1) || (backToKw pos (keywordEach kws X.env)).any (·.1.isNone)) = false := by rfl) :
    PE X (.Call (.Name nm p) [] kws pos) (tMakeK C 0 ks.length sp gV E0 tNil tk) := pe_makeW c hr passL hg hkw hall hks hdb hpl
theorem pe_makeDF (c : CalND X.prog X.w X.K X.mg X.base k nm C ps dvs sp) (hr : Room (k + 1) X.A) (hg : Gl X nm) (hdb : (nm == ("__debug__" : Str)) = false := by decide) :
    PE X (.Call (.Name nm p) [] [] pos) (tMake C sp dvs E0 tNil) := by
  obtain ⟨f, fd, ds, a, b, d, hb, v⟩ := c
  exact pe_make0 a b hr hg d hb v passL hdb
end
/-! ### defs as values, called out of a list -/
def tGl (mg : Str → Option Value) (nm : Str) : TE := fun _ H Q => ∀ f, mg nm = some (.ref f) → Q (.ref f) H
def tCall2 (mg : Str → Option Value) (nm1 nm2 : Str) (sp1 sp2 : Sp) (tf : TE) (t : TA) : TE := fun σ H Q => tf σ H fun y H1 => ∃ f, y = .ref f ∧ ((mg nm1 = some (.ref f) ∧ t σ H1 fun vs H2 => sp1 (vs ++ []) H2 Q E0) ∨ (mg nm2 = some (.ref f) ∧ t σ H1 fun vs H2 => sp2 (vs ++ []) H2 Q E0))
section
variable {X : Cx} {k : Nat} {nm nm1 nm2 : Str} {ps ps1 ps2 : List Str} {sp sp1 sp2 : Sp} {fe e : Expr} {es : List Expr} {tf : TE} {t : TA} {p pos : Pos}
theorem pe_gl (c : Cal X.prog X.w X.K X.mg X.base k nm ps sp) (mg : Str → Option Value) (hm : X.mg = mg) (hg : Gl X nm) (hdb : (nm == ("__debug__" : Str)) = false := by decide) : PE X (.Name nm p) (tGl mg nm) := by
  subst hm
  obtain ⟨f, fd, a, b, d, g⟩ := c
  refine ⟨fun pins s σ H Q I h => ?_⟩
  exact (pe_glob (v := .ref f) (pos := p) hg b rfl hdb).run pins s σ H Q I (h f b)
theorem pe_call2 (c1 : Cal X.prog X.w X.K X.mg X.base k nm1 ps1 sp1) (c2 : Cal X.prog X.w X.K X.mg X.base k nm2 ps2 sp2) (mg : Str → Option Value) (hm : X.mg = mg) (hf : PE X fe tf) (hr : Room k X.A) (ha : PA X (e :: es) t)
    (ht : eval (.Call fe (e :: es) [] pos) X.env = (do callWith pos (← eval fe X.env) [] (backTo pos (starEach (e :: es) X.env)) (backToKw pos (keywordEach [] X.env))) := by rfl)
    (he : starEach (e :: es) X.env = (false, eval e X.env) :: starEach es X.env := by rfl) (hpl : (backTo pos (starEach es X.env)).any (·.1) = false := by rfl) : PE X (.Call fe (e :: es) [] pos) (tCall2 mg nm1 nm2 sp1 sp2 tf t) := by
  subst hm
  obtain ⟨f1, fd1, a1, b1, d1, g1⟩ := c1
  obtain ⟨f2, fd2, a2, b2, d2, g2⟩ := c2
  refine ⟨fun pins s σ H Q I h => ?_⟩
  refine Call_ (thn (hf.run pins s σ H _ I h) fun u s1 ⟨y, H1, I1, ry, f, ey, q⟩ => ?_) ht
  subst ey
  obtain rfl : u = Value.ref f := ry
  rcases q with ⟨m, q⟩ | ⟨m, q⟩
  · obtain rfl : f1 = f := by
      rw [b1] at m
      cases m
      rfl
    refine PySem.W.callWith_K (h₀ := X.base) I.ok.mod.kin d1 (thn (ha.run pos pins s1 σ _ _ I1 q) fun us s2 ⟨vs, H2, I2, r, q⟩ => ⟨I2.kIn, ?_⟩) he hpl
    exact run_fn a1 hr g1 .nil pass0 I2 r q
  · obtain rfl : f2 = f := by
      rw [b2] at m
      cases m
      rfl
    refine PySem.W.callWith_K (h₀ := X.base) I.ok.mod.kin d2 (thn (ha.run pos pins s1 σ _ _ I1 q) fun us s2 ⟨vs, H2, I2, r, q⟩ => ⟨I2.kIn, ?_⟩) he hpl
    exact run_fn a2 hr g2 .nil pass0 I2 r q
end
section
variable {K : PySem.W.Frag} {x qual y : Str} {params : Arguments} {body : List Stmt} {scope : Scope} {kws : List (Str × V)} {f : Addr} {fd : FuncData} {ps : List Str} {v : V}
theorem kbn_app (F : FunD K x qual params body scope [] kws f fd) (n : Nat) (ks : List Str) (hk : kws ≠ [])
    (h : ∀ (D : Addr) (doc pm : Value) (an : Option Addr) (cdv ct : Value) (us ws : List Value), us.length = n → ws.length = ks.length → bindArgs (PySem.W.fnOf x qual params body scope .none (.ref D) doc pm an cdv ct) ⟨us, ks.zip ws⟩ = pure (ps.zip (us ++ ws))) :
    ∃ g, KBn K fd ps n ks g (fun vs zs => vs ++ zs) := by
  obtain ⟨mv, h⟩ := F.kbinds0 (ps := ps) n ks [] (fun {α} us mv ws => us ++ ws) hk (fun q hq => by cases hq) (fun r1 _ r3 => r1.append r3) (fun D doc pm an cdv ct us mv ws l1 l2 l3 => by
    have : mv = [] := List.eq_nil_of_length_eq_zero l2
    subst this
    exact h D doc pm an cdv ct us ws l1 l3)
  exact ⟨_, h⟩
/-- two keywords, in the other order -/
theorem kbn_two (F : FunD K x qual params body scope [] kws f fd) (ks : List Str) (hk : kws ≠ []) (h2 : ks.length = 2)
    (h : ∀ (D : Addr) (doc pm : Value) (an : Option Addr) (cdv ct : Value) (u v : Value), bindArgs (PySem.W.fnOf x qual params body scope .none (.ref D) doc pm an cdv ct) ⟨[], ks.zip [u, v]⟩ = pure (ps.zip [v, u])) :
    ∃ g, KBn K fd ps 0 ks g (fun vs zs => vs ++ two zs) := by
  obtain ⟨mv, h⟩ := F.kbinds0 (ps := ps) 0 ks [] (fun {α} us mv ws => us ++ two ws) hk (fun q hq => by cases hq) (fun r1 _ r3 => r1.append (by
    cases r3 with
    | nil => exact .nil
    | cons a r => cases r with
      | nil => exact .nil
      | cons b r => cases r with
        | nil => exact .cons b (.cons a .nil)
        | cons _ _ => exact .nil)) (fun D doc pm an cdv ct us mv ws l1 l2 l3 => by
    have : mv = [] := List.eq_nil_of_length_eq_zero l2
    subst this
    have : us = [] := List.eq_nil_of_length_eq_zero l1
    subst this
    rw [h2] at l3
    match ws, l3 with
    | [u, v], _ => exact h D doc pm an cdv ct u v)
  exact ⟨_, h⟩
theorem dfl_one (F : FunD K x qual params body scope [] [(y, v)] f fd) (n : Nat) (hn : n + 1 = ps.length)
    (h : ∀ (D : Addr) (doc pm : Value) (an : Option Addr) (cdv ct : Value) (us : List Value) (u : Value), us.length = n → KwChain D [(y, u)] (bindArgs (PySem.W.fnOf x qual params body scope .none (.ref D) doc pm an cdv ct) ⟨us, []⟩) (ps.zip (us ++ [u]))) :
    ∃ ds, Vals [v] ds ∧ Binds K fd ps ds := F.binds0 n (by intro z; cases z) hn (fun D doc pm an cdv ct us ks l1 l2 => by
  match ks, l2 with
  | [u], _ => exact h D doc pm an cdv ct us u l1)
theorem funD_one {oc : Value} {od an : Option Addr} {dc pm cd ct : Value} {sl : Array (Option Value)} {D : Addr} {u : Value} (l : K.lookup f = some ⟨oc, od, .func (PySem.W.fnOf x qual params body scope .none (.ref D) dc pm an cd ct), sl⟩) (c : PySem.W.codeIn K cd qual = true) (k : PySem.W.keepIn K (.ref f) = true)
    (n : PySem.W.nsIn K D y = some (some u)) (r : RelV v u) : FunD K x qual params body scope [] [(y, v)] f (PySem.W.fnOf x qual params body scope .none (.ref D) dc pm an cd ct) :=
  ⟨⟨_, _, _, _, _, _, _, _, _, _, rfl, l, c, .inl ⟨rfl, rfl⟩, .inr ⟨D, rfl, fun q hq => by rw [List.mem_singleton.mp hq]; exact ⟨u, n, r⟩⟩⟩, k⟩
end
end WB
namespace WB
open PySem PySem.Spec PyProof.Rows L2
/-! ### many things of one kind, as one -/
section
variable {α : Type} {T0 : List (Addr × Str)} {Ts : List Th} {Y : List α} {f : α → Th} {i j : Nat} {y y' z : α} {H H' : Hp} {N : Th}
theorem mem_tG {a : Addr} : a ∈ (tG (Y.map f)).ft ↔ ∃ y ∈ Y, a ∈ (f y).ft := by
  show a ∈ (Y.map f).flatMap (·.ft) ↔ _
  rw [List.mem_flatMap]
  constructor
  · rintro ⟨T, hT, ha⟩
    obtain ⟨y, hy, rfl⟩ := List.mem_map.mp hT
    exact ⟨y, hy, ha⟩
  · rintro ⟨y, hy, ha⟩
    exact ⟨f y, List.mem_map.mpr ⟨y, hy, rfl⟩, ha⟩
theorem map_at (hj : Y[j]? = some y) : (Y.map f)[j]? = some (f y) := by
  rw [List.getElem?_map, hj]
  rfl
theorem Hs.gget (h : Hs T0 Ts H) (i : Nat) (hi : Ts[i]? = some (tG (Y.map f))) (hj : Y[j]? = some y) : (f y).P H := by
  have g : Hs [] (Y.map f) H := h.get i hi
  exact g.get j (map_at hj)
theorem gset_ft (hj : Y[j]? = some y) (hf : ∀ a ∈ (f y').ft, a ∈ (f y).ft ∨ H a = none) : ∀ a ∈ (tG ((Y.set j y').map f)).ft, a ∈ (tG (Y.map f)).ft ∨ H a = none := fun a ha => by
  obtain ⟨z, hz, ha⟩ := mem_tG.mp ha
  rcases List.mem_or_eq_of_mem_set hz with q | q
  · exact .inl (mem_tG.mpr ⟨z, q, ha⟩)
  · rw [q] at ha
    exact (hf a ha).imp (fun x => mem_tG.mpr ⟨y, List.mem_of_getElem? hj, x⟩) id
theorem gset_P {F : List Addr} (g : Hs [] (Y.map f) H) (hj : Y[j]? = some y) (m : MvF F H H') (hF : ∀ a ∈ F, a ∈ (f y).ft ∨ H a = none) (hp : (f y').P H') (hf : ∀ a ∈ (f y').ft, a ∈ (f y).ft ∨ H a = none) : (tG ((Y.set j y').map f)).P H' := by
  have := g.op (T' := f y') j (map_at hj) m hF hp hf
  rw [← List.map_set] at this
  exact this
theorem Hs.gset {F : List Addr} (h : Hs T0 Ts H) (i : Nat) (hi : Ts[i]? = some (tG (Y.map f))) (hj : Y[j]? = some y) (m : MvF F H H') (hF : ∀ a ∈ F, a ∈ (f y).ft ∨ H a = none) (hp : (f y').P H') (hf : ∀ a ∈ (f y').ft, a ∈ (f y).ft ∨ H a = none) : Hs T0 (Ts.set i (tG ((Y.set j y').map f))) H' :=
  h.op i hi m (fun a ha => (hF a ha).imp (fun x => mem_tG.mpr ⟨y, List.mem_of_getElem? hj, x⟩) id) (gset_P (h.get i hi) hj m hF hp hf) (gset_ft hj hf)
/-- the j-th changes, and a new one comes -/
theorem Hs.gsetN {F : List Addr} (h : Hs T0 Ts H) (i : Nat) (hi : Ts[i]? = some (tG (Y.map f))) (hj : Y[j]? = some y) (m : MvF F H H') (hF : ∀ a ∈ F, a ∈ (f y).ft ∨ H a = none) (hp : (f y').P H') (hf : ∀ a ∈ (f y').ft, a ∈ (f y).ft ∨ H a = none)
    (hn : N.P H') (hnf : ∀ a ∈ N.ft, H a = none ∧ a ∉ (f y').ft) : Hs T0 (N :: Ts.set i (tG ((Y.set j y').map f))) H' := by
  refine h.opNew i hi m (fun a ha => (hF a ha).imp (fun x => mem_tG.mpr ⟨y, List.mem_of_getElem? hj, x⟩) id) (gset_P (h.get i hi) hj m hF hp hf) (gset_ft hj hf) hn (fun a ha => ⟨(hnf a ha).1, fun q => ?_⟩)
  obtain ⟨z, hz, hz2⟩ := mem_tG.mp q
  rcases List.mem_or_eq_of_mem_set hz with q | q
  · have g : Hs [] (Y.map f) H := h.get i hi
    obtain ⟨k, hk⟩ := List.getElem?_of_mem q
    exact (f z).live (g.get k (map_at hk)) hz2 (hnf a ha).1
  · rw [q] at hz2
    exact (hnf a ha).2 hz2
theorem Hs.gadd (h : Hs T0 (f z :: tG (Y.map f) :: Ts) H) : Hs T0 (tG ((Y ++ [z]).map f) :: Ts) H := by
  have h1 := h.swap.ungroup
  rw [show Y.map f ++ f z :: Ts = (Y ++ [z]).map f ++ Ts by simp] at h1
  exact h1.group
theorem Hs.gnil (h : Hs T0 Ts H) : Hs T0 (tG (([] : List α).map f) :: Ts) H := Hs.group (Ts := []) h
end
theorem map_set_same {α β : Type} {f : α → β} {Y : List α} {w : Nat} {x x' : α} (h : Y[w]? = some x) (e : f x' = f x) : (Y.set w x').map f = Y.map f := by
  rw [List.map_set, e]
  apply List.ext_getElem?
  intro i
  rw [List.getElem?_set]
  by_cases z : w = i
  · subst z
    rw [if_pos rfl, List.getElem?_map, h, List.length_map, if_pos (List.getElem?_eq_some_iff.mp h).1]
    rfl
  · rw [if_neg z]
theorem const_by {v : V} {i : Nat} {u : TS} {D : Ends} {σ : L2.St} {H : Hp} (h : u D (σ.set i (some v)) H) : tSeq (tAsg (tC v) (gName i)) u D σ H := h
theorem getElem?_ex {α : Type} {l : List α} {i : Nat} (h : i < l.length) : ∃ x, l[i]? = some x := ⟨_, List.getElem?_eq_getElem h⟩
end WB
namespace WB
open PySem PySem.Spec PyProof.Rows L2
/-! ### tuples of ints, ordered -/
def tupD (t : List Int) : PyData := .tuple (t.map PyData.int)
/-- the first difference decides -/
def lexB : List Int → List Int → Bool
  | [], [] => false
  | [], _ :: _ => true
  | _ :: _, [] => false
  | x :: xs, y :: ys => if x = y then lexB xs ys else decide (x < y)
theorem lexB_eq : ∀ xs ys : List Int, PySem.W.listLt xs ys = lexB xs ys
  | [], [] => rfl
  | [], _ :: _ => rfl
  | _ :: _, [] => rfl
  | x :: xs, y :: ys => by
    unfold PySem.W.listLt lexB
    rw [lexB_eq xs ys]
    rfl
theorem dataLt_tup (s t : List Int) : PySem.W.dataLt (tupD s) (tupD t) = lexB s t := by
  have h := PySem.W.DatumOrd.lt_eq (α := PySem.W.Tup Int) ⟨s⟩ ⟨t⟩
  rw [← lexB_eq]
  exact h
def minT (x : List Int) (r : List (List Int)) : List Int := r.foldl (fun a y => if lexB y a = true then y else a) x
theorem minD_tup : ∀ (r : List (List Int)) (x : List Int), PySem.W.minD (tupD x) (r.map tupD) = tupD (minT x r)
  | [], x => rfl
  | y :: r, x => by
    show (r.map tupD).foldl _ (if PySem.W.dataLt (tupD y) (tupD x) = true then tupD y else tupD x) = tupD (r.foldl _ (if lexB y x = true then y else x))
    rw [dataLt_tup]
    cases lexB y x with
    | true => exact minD_tup r y
    | false => exact minD_tup r x
theorem alike_tup (s t : List Int) : PySem.W.alike (tupD s) (tupD t) = true := PySem.W.DatumOrd.alike (α := PySem.W.Tup Int) ⟨s⟩ ⟨t⟩
theorem depth_tups : ∀ ts : List (List Int), PyData.depthAll (ts.map tupD) ≤ 1
  | [] => Nat.zero_le _
  | t :: ts => by
    show max (PyData.depthAll (t.map PyData.int) + 1) (PyData.depthAll (ts.map tupD)) ≤ 1
    rw [depth_ints]
    exact Nat.max_le.mpr ⟨Nat.le_refl _, depth_tups ts⟩
section
variable {K : PySem.W.Frag}
theorem dpa_at {H : Hp} : ∀ {xs : List V} {ds : List PyData} {i : Nat} {x : V}, DpAll K H xs ds → xs[i]? = some x → ∃ d, ds[i]? = some d ∧ Dp K H x d
  | _, _, _, _, .nil, e => by simp at e
  | _, _, 0, _, .cons h _, e => by simp at e; subst e; exact ⟨_, rfl, h⟩
  | _, _, i + 1, x, .cons _ t, e => by
    obtain ⟨d, h1, h2⟩ := dpa_at (i := i) (x := x) t (by simpa using e)
    exact ⟨d, by simpa using h1, h2⟩
theorem dpa_int_inv {H : Hp} : ∀ {t : List Int} {xs : List V}, DpAll K H xs (t.map PyData.int) → xs = t.map V.int
  | [], _, .nil => rfl
  | _ :: _, _, .cons h r => by
    cases h
    rw [dpa_int_inv r]
    rfl
theorem dp_tup_inv {H : Hp} {v : V} {t : List Int} (h : Dp K H v (tupD t)) : ∃ p, v = .ref p ∧ SqT K H p (t.map V.int) := by
  cases h with
  | tup hs ha => exact ⟨_, rfl, by rw [← dpa_int_inv ha]; exact hs⟩
theorem dp_tup {H : Hp} {p : Addr} {t : List Int} (h : SqT K H p (t.map V.int)) : Dp K H (.ref p) (tupD t) := .tup h (dpa_ints t)
end
theorem tupD_inj {s t : List Int} (h : tupD s = tupD t) : s = t := by
  have h1 : s.map PyData.int = t.map PyData.int := PyData.tuple.inj h
  exact List.map_inj_right (fun _ _ e => PyData.int.inj e) |>.mp h1
/-- min of a list of tuples of ints: one of them, whose numbers are the least -/
def rMinT (K : PySem.W.Frag) : List V → Hp → VK → Prop := fun vs H Q => ∃ (a : Addr) (xs : List V) (x : List Int) (r : List (List Int)), vs = [.ref a] ∧ SqL K H a xs ∧ DpAll K H xs ((x :: r).map tupD) ∧ ∀ (i : Nat) (p : Addr), xs[i]? = some (.ref p) → (x :: r)[i]? = some (minT x r) → SqT K H p ((minT x r).map V.int) → Q (.ref p) H
theorem vals_at {xs : List V} {us : List Value} (h : Vals xs us) : ∀ {i : Nat} {u : Value}, us[i]? = some u → ∃ x, xs[i]? = some x ∧ RelV x u := by
  induction h with
  | nil => intro i u e; simp at e
  | cons a r ih =>
    intro i u e
    cases i with
    | zero => simp at e; subst e; exact ⟨_, rfl, a⟩
    | succ i =>
      obtain ⟨x, h1, h2⟩ := ih (i := i) (u := u) (by simpa using e)
      exact ⟨x, by simpa using h1, h2⟩
section
variable {X : Cx}
theorem cr_minT (hu : X.A.units + 64 < cLine) (hc : X.calm = true) : CallR X (.builtin "min") (rMinT X.K) := by
  intro pins s σ H vs us Q I r h
  obtain ⟨a, xs, x, rs, rfl, hs, hd, q⟩ := h
  obtain ⟨its, rv, hl, _⟩ := I.list hs
  rw [Vals.ref1 r]
  obtain ⟨as, hr⟩ := Dp.readsAll I _ _ _ hd rv
  have hdep := depth_tups (x :: rs)
  refine PySem.W.min_list_data (vs := its.toArray) (x := tupD x) (xs := rs.map tupD) (I.ok.hd hc) hl.isList hr ⟨?_, ?_⟩ ?_ fun i v h' tk bs hi hv hk => ?_
  · intro y hy z hz
    obtain ⟨t1, _, rfl⟩ := List.mem_map.mp (show y ∈ (x :: rs).map tupD from hy)
    obtain ⟨t2, _, rfl⟩ := List.mem_map.mp (show z ∈ (x :: rs).map tupD from hz)
    exact alike_tup t1 t2
  · intro y hy
    obtain ⟨t1, _, rfl⟩ := List.mem_map.mp (show y ∈ (x :: rs).map tupD from hy)
    exact fun z => by cases z
  · have e : PyData.depthAll (tupD x :: rs.map tupD) ≤ 1 := hdep
    omega
  · rw [minD_tup] at hv
    obtain ⟨xv, h1, h2⟩ := vals_at rv (i := i) (u := v) (by simpa using hi)
    obtain ⟨d, e1, e2⟩ := dpa_at hd h1
    obtain ⟨cs, hv2⟩ := Dp.reads I d xv v e2 h2
    have e3 := (reads_det (h := s.heap) (h' := h') (fun b o e _ => hk b o e) hv2 hv).1
    rw [← e3] at e1 e2
    obtain ⟨p, rfl, hp⟩ := dp_tup_inv e2
    have e4 : (x :: rs)[i]? = some (minT x rs) := by
      rw [List.getElem?_map] at e1
      cases e5 : (x :: rs)[i]? with
      | none => rw [e5] at e1; cases e1
      | some t =>
        rw [e5] at e1
        rw [tupD_inj (Option.some.inj e1)]
    exact ⟨.ref p, H, I.kept hk, h2, q i p h1 e4 hp⟩
theorem cr_minTK (K : PySem.W.Frag) (h : X.K = K) (hu : X.A.units + 64 < cLine) (hc : X.calm = true) : CallR X (.builtin "min") (rMinT K) := by subst h; exact cr_minT hu hc
end
end WB
namespace WB
open PySem PySem.Spec PyProof.Rows L2
theorem mt_lcountK {X : Cx} (K : PySem.W.Frag) (h : X.K = K) : MtR X "list.count" (rCntI K) := by subst h; exact mt_lcount
theorem eq_t {a b : Int} (e : decide (V.int a = V.int b) = true) : a = b := V.int.inj (of_decide_eq_true e)
theorem eq_f {a b : Int} (e : ¬ decide (V.int a = V.int b) = true) : a ≠ b := fun z => e (decide_eq_true (congrArg V.int z))
theorem ne_t {a b : Int} (e : (!decide (V.int a = V.int b)) = true) : a ≠ b := fun z => by
  rw [decide_eq_true (congrArg V.int z)] at e
  cases e
theorem ne_f {a b : Int} (e : ¬ (!decide (V.int a = V.int b)) = true) : a = b := by
  by_cases z : a = b
  · exact z
  · exact absurd (by rw [decide_eq_false (fun y => z (V.int.inj y))]; rfl) e
end WB
namespace WB
open PySem PySem.Spec PyProof.Rows L2
/-! ### zip of two sequences, each a list (true) or a tuple (false) -/
def SqK (K : PySem.W.Frag) : Bool → Hp → Addr → List V → Prop
  | true, H, a, xs => SqL K H a xs
  | false, H, a, xs => SqT K H a xs
def KIt : Bool → Heap → Addr → Addr → Nat → Prop
  | true, h, it, a, i => h.IsListIter it a i
  | false, h, it, a, i => h.IsTupleIter it a i
def KSeq : Bool → Heap → Addr → Array Value → Prop
  | true, h, a, vs => h.IsList a vs
  | false, h, a, vs => h.IsTuple a vs
def kItO : Bool → Addr → Obj
  | true, a => { cls := .type "list_iterator", data := .fields #[.ref a, .int 0 0] }
  | false, a => { cls := .type "tuple_iterator", data := .fields #[.ref a, .int 0 0] }
theorem draws_k {P : Program} {w : World} {A : Around} (k : Bool) (hh : A.handled = none) (it l : Addr) (hne : l ≠ it) (vs : Array Value) :
    Draws P w A it [it, l] vs.size (fun i v => vs[i]? = some v) (fun i h => KIt k h it l i ∧ KSeq k h l vs) := by
  cases k with
  | true => exact Draws.list hh it l hne vs
  | false => exact Draws.tuple hh it l hne vs
theorem begins_k (k : Bool) (l : Addr) (vs : Array Value) : Begins (.ref l) (kItO k l) (fun h => KSeq k h l vs) := by
  cases k with
  | true => exact begins_list l vs
  | false => exact begins_tuple l vs
theorem kit_at {k : Bool} {h h' : Heap} {it a : Addr} {i : Nat} (x : KIt k h it a i) (e : ∀ o, h.get? it = some o → h'.get? it = some o) : KIt k h' it a i := by
  cases k with
  | true => exact Heap.IsListIter.at x e
  | false => exact Heap.IsTupleIter.at x e
theorem kit_obj {k : Bool} {h : Heap} {it a : Addr} {i : Nat} (x : KIt k h it a i) : ∃ o, h.get? it = some o ∧ ∀ v, o.data ≠ .cell v := by
  cases k with
  | true =>
    obtain ⟨o, e, _, d⟩ := x
    exact ⟨o, e, fun v q => by rw [d] at q; cases q⟩
  | false =>
    obtain ⟨o, e, _, d⟩ := x
    exact ⟨o, e, fun v q => by rw [d] at q; cases q⟩
theorem kit_new {k : Bool} {h : Heap} {it a : Addr} (e : h.get? it = some (kItO k a)) : KIt k h it a 0 := by
  cases k with
  | true => exact ⟨_, e, rfl, rfl⟩
  | false => exact ⟨_, e, rfl, rfl⟩
section
variable {X : Cx} {pins : List (Addr × Obj)} {σ : L2.St} {H : Hp} {s : Shared} {k : Bool} {a : Addr} {xs ys : List V}
theorem SqK.read (I : Inv X pins σ H s) (h : SqK X.K k H a xs) : ∃ its : List Value, Vals xs its ∧ KSeq k s.heap a its.toArray ∧ a < s.heap.objs.size := by
  cases k with
  | true =>
    obtain ⟨its, r, p, _⟩ := I.list h
    exact ⟨its, r, p.isList, p.lt⟩
  | false =>
    obtain ⟨its, r, p, _⟩ := I.tuple h
    obtain ⟨o, e, _⟩ := id p
    exact ⟨its, r, p, Heap.lt_size e⟩
theorem SqK.inj (I : Inv X pins σ H s) (h : SqK X.K k H a xs) (h' : SqK X.K k H a ys) : xs = ys := by
  cases k with
  | true => exact I.list_inj h h'
  | false => exact I.tuple_inj h h'
end
theorem SqK.same {K : PySem.W.Frag} {k : Bool} {H H' : Hp} {a : Addr} {xs : List V} (e : Same H H') (h : SqK K k H a xs) : SqK K k H' a xs := by
  cases k with
  | true => exact e.seq h
  | false => exact same_t e h
def Itz2 (K : PySem.W.Frag) (k1 k2 : Bool) (a b : Addr) : It where
  go i H := ∃ (xs ys : List V) (x y : V), SqK K k1 H a xs ∧ SqK K k2 H b ys ∧ xs[i]? = some x ∧ ys[i]? = some y
  yld i H v H' := ∃ (T : Addr) (x y : V), v = .ref T ∧ H T = none ∧ H' = upd H T (.tup [x, y]) ∧ (∀ l, SqK K k1 H a l → l[i]? = some x) ∧ ∀ l, SqK K k2 H b l → l[i]? = some y
  stop i H := ∃ (xs ys : List V), SqK K k1 H a xs ∧ SqK K k2 H b ys ∧ i ≤ xs.length ∧ i ≤ ys.length ∧ (i = xs.length ∨ i = ys.length)
theorem of5 {c z TI TO i1 i2 : Addr} (h : c ∈ [z, TI, TO, i1, i2]) : c = z ∨ c = TI ∨ c = TO ∨ c = i1 ∨ c = i2 := by simpa using h
theorem turn_z2 {P : Program} {w : World} {K : PySem.W.Frag} {elts : List Expr} {kk : Nat} {tpos : Pos} {k1 k2 : Bool} {a b z TI TO i1 i2 : Addr} (S : ZipSep2 z TI TO i1 i2 [i1, a] [i2, b]) (n1 : a ≠ i1) (n2 : b ≠ i2) :
    Turn P w K (.Tuple elts kk tpos) (Itz2 K k1 k2 a b) [z, TI, TO, i1, i2] z (fun i h => IsZip h z TI TO .none ∧ IsTupOf2 h TI (.ref i1) (.ref i2) ∧ (∃ x y, IsTupOf2 h TO x y) ∧ KIt k1 h i1 a i ∧ KIt k2 h i2 b i) where
  mem := .head _
  obj := by
    rintro i h ⟨hz, hI, ⟨x, y, hO⟩, h1, h2⟩ c hc
    rcases of5 hc with rfl | rfl | rfl | rfl | rfl
    · exact ⟨_, hz, fun v q => nomatch q⟩
    · exact ⟨_, hI, fun v q => nomatch q⟩
    · exact ⟨_, hO, fun v q => nomatch q⟩
    · exact kit_obj h1
    · exact kit_obj h2
  keep := by
    rintro i h h' ⟨hz, hI, ⟨x, y, hO⟩, h1, h2⟩ kp
    exact ⟨kp z (by simp) _ hz, kp TI (by simp) _ hI, ⟨x, y, kp TO (by simp) _ hO⟩, kit_at h1 (fun o => kp i1 (by simp) o), kit_at h2 (fun o => kp i2 (by simp) o)⟩
  item := by
    intro X hP hw hK hc i pins s σ H E I hf st hg
    subst hP hw hK
    obtain ⟨hz, hI, ⟨x0, y0, hO⟩, h1, h2⟩ := st
    obtain ⟨xs, ys, x, y, qx, qy, ex, ey⟩ := hg
    obtain ⟨us, ru, pu, _⟩ := qx.read I
    obtain ⟨vs, rv, pv, _⟩ := qy.read I
    obtain ⟨u, hu, rxu⟩ := ru.get ex
    obtain ⟨v, hv, ryv⟩ := rv.get ey
    have lz : z < s.heap.objs.size := Heap.lt_size hz
    have hh : X.A.in1.handled = none := I.ok.hd hc
    refine wpAny_pyNext_zipD2_item S (draws_k k1 hh i1 a n1 us.toArray) (draws_k k2 hh i2 b n2 vs.toArray) hz hI hO ⟨h1, pu⟩ ⟨h2, pv⟩ (by simpa using (List.getElem?_eq_some_iff.mp hu).1) (by simpa using (List.getElem?_eq_some_iff.mp hv).1) fun u' v' h' tk hu' hv' z' O' t1 t2 hT hsz keep => ?_
    obtain rfl : u = u' := by
      have : us[i]? = some u' := by simpa using hu'
      rw [hu] at this
      exact Option.some.inj this
    obtain rfl : v = v' := by
      have : vs[i]? = some v' := by simpa using hv'
      rw [hv] at this
      exact Option.some.inj this
    refine ⟨_, rfl, wpAny_letOwnedTupleGo_zip (s := { s with heap := h', toks := tk }) z' fun h'' z'' sb => ?_⟩
    have hT2 : h''.get? s.heap.objs.size = some { cls := .type "tuple", data := .seq #[u, v] } := (sb.2 _ (Nat.ne_of_gt lz)).trans hT
    have J : Inv X pins σ (upd H s.heap.objs.size (.tup [x, y])) { s with heap := h'', toks := tk } :=
      I.turnedNew (ch := [z, TI, TO, i1, i2]) (fun c o nc q => by
        have m : ∀ d, d ∈ [z, TI, TO, i1, i2] → c ≠ d := fun d hd e => nc (e ▸ hd)
        rw [sb.2 c (m z (by simp))]
        exact keep c o (m z (by simp)) (m TO (by simp)) (m i1 (by simp)) (m i2 (by simp)) q) hf (Nat.le_refl _) ⟨by show 2 ≤ sizeLine; decide, [u, v], .cons rxu (.cons ryv .nil), _, hT2, rfl, _, rfl⟩
    refine ⟨.ref s.heap.objs.size, _, J, rfl, ⟨_, x, y, rfl, I.hok.fresh (Nat.le_refl _), rfl, fun l hl => by rw [hl.inj I qx]; exact ex, fun l hl => by rw [hl.inj I qy]; exact ey⟩, ⟨z'', ?_, ⟨u, v, ?_⟩, ?_, ?_⟩, fun c hcm => ?_⟩
    · exact (sb.2 _ S.TIz).trans (keep _ _ S.TIz S.TITO S.TIi1 S.TIi2 hI)
    · exact (sb.2 _ S.TOz).trans O'
    · exact kit_at t1.1 (fun o q => (sb.2 _ S.zi1.symm).trans q)
    · exact kit_at t2.1 (fun o q => (sb.2 _ S.zi2.symm).trans q)
    · have lt : c < s.heap.objs.size := by
        rcases of5 hcm with rfl | rfl | rfl | rfl | rfl
        · exact lz
        · exact Heap.lt_size hI
        · exact Heap.lt_size hO
        · obtain ⟨o, e, _⟩ := kit_obj h1
          exact Heap.lt_size e
        · obtain ⟨o, e, _⟩ := kit_obj h2
          exact Heap.lt_size e
      rw [upd_ne (Nat.ne_of_lt lt)]
      exact (hf c hcm).1
  done := by
    intro X hP hw hK hc i pins s σ H E I hf st hg
    subst hP hw hK
    obtain ⟨hz, hI, ⟨x0, y0, hO⟩, h1, h2⟩ := st
    obtain ⟨xs, ys, qx, qy, l1, l2, he⟩ := hg
    obtain ⟨us, ru, pu, _⟩ := qx.read I
    obtain ⟨vs, rv, pv, _⟩ := qy.read I
    have e1 := ru.length
    have e2 := rv.length
    have hh : X.A.in1.handled = none := I.ok.hd hc
    refine wpAny_pyNext_zipD2_end S (draws_k k1 hh i1 a n1 us.toArray) (draws_k k2 hh i2 b n2 vs.toArray) hz hI hO ⟨h1, pu⟩ ⟨h2, pv⟩ (by simp; omega) (by simp; omega) (by simp; omega) fun h' tk keep => ⟨rfl, ?_⟩
    exact I.turnedL (ch := [z, TI, TO, i1, i2]) (fun c o nc q => by
      have m : ∀ d, d ∈ [z, TI, TO, i1, i2] → c ≠ d := fun d hd e => nc (e ▸ hd)
      exact keep c o (m z (by simp)) (m TO (by simp)) (m i1 (by simp)) (m i2 (by simp)) q) hf
  self := fun A i s Q E st h => wpAny_pyIter_zip st.1 h
def iZip2 (K : PySem.W.Frag) (ta : TA) : TI := fun σ H R => ta σ H fun vs H1 => ∃ (a b : Addr) (k1 k2 : Bool) (xs ys : List V), vs = [.ref a, .ref b] ∧ SqK K k1 H1 a xs ∧ SqK K k2 H1 b ys ∧ R (Itz2 K k1 k2 a b) H1
theorem pi_zip2 {X : Cx} (K : PySem.W.Frag) (hKK : X.K = K) {e e2 : Expr} {ta : TA} {p pos tpos : Pos} {elts : List Expr} {kk : Nat} (hg : Gl X "zip") (hm : X.mg "zip" = none) (ha : PA X [e, e2] ta)
    (hs : starEach [e, e2] X.env = (false, eval e X.env) :: starEach [e2] X.env := by rfl) (hpl : (backTo pos (starEach [e2] X.env)).any (·.1) = false := by rfl) :
    PI X (.Tuple elts kk tpos) (.Call (.Name "zip" p) [e, e2] [] pos) (iZip2 K ta) := by
  subst hKK
  refine ⟨fun pins s σ H R I h => ?_⟩
  refine Call_ (ld_blt I hg hm PyProof.Rows.boot_zip (PyProof.Rows.callWith_type1 (thn (ha.run pos pins s σ H _ I h) fun us s1 y => ?_) hs hpl))
  obtain ⟨vs, H1, I1, r1, a, b, k1, k2, xs, ys, rfl, qx, qy, q⟩ := y
  cases r1 with
  | cons r rr =>
    cases rr with
    | cons r' rr =>
      cases rr
      cases r
      cases r'
      obtain ⟨us, ru, pu, la⟩ := qx.read I1
      obtain ⟨ws, rw_, pw, lb⟩ := qy.read I1
      refine zip_begins2 (begins_k k1 a us.toArray) (begins_k k2 b ws.toArray) pu pw fun h' hz hI hO g1 g2 hsz keep => wpAny_pyIter_zip hz ?_
      refine ⟨s1.heap.objs.size + 4, [s1.heap.objs.size + 4, s1.heap.objs.size + 2, s1.heap.objs.size + 3, s1.heap.objs.size, s1.heap.objs.size + 1], _, _, H1, rfl, I1.kept (t' := s1.toks) keep, turn_z2 (zip_sep2 (N := s1.heap.objs.size) (fp1 := [a]) (fp2 := [b]) (fun c hc => by rw [List.mem_singleton.mp hc]; exact la) (fun c hc => by rw [List.mem_singleton.mp hc]; exact lb)) (Nat.ne_of_lt la) (Nat.ne_of_lt (Nat.lt_succ_of_lt lb)), ⟨hz, hI, ⟨_, _, hO⟩, kit_new g1, kit_new g2⟩, fun c hc => ?_, q⟩
      have le : s1.heap.objs.size ≤ c := by
        rcases of5 hc with z | z | z | z | z
        · rw [z]; exact Nat.le_add_right _ _
        · rw [z]; exact Nat.le_add_right _ _
        · rw [z]; exact Nat.le_add_right _ _
        · rw [z]; exact Nat.le_refl _
        · rw [z]; exact Nat.le_add_right _ _
      exact I1.fpOk le (I1.hok.fresh le)
theorem walk_z2 {K : PySem.W.Frag} {k1 k2 : Bool} {a b : Addr} {xs ys : List V} {n : Nat} (hn : n = min xs.length ys.length) : Walk (Itz2 K k1 k2 a b) n (fun H => SqK K k1 H a xs ∧ SqK K k2 H b ys) (YPair (fun i => xs[i]?) (fun i => ys[i]?)) := by
  subst hn
  refine ⟨fun i _ hi q => ?_, fun _ q => ⟨xs, ys, q.1, q.2, by omega, by omega, by omega⟩, fun i H v H' _ q y => ?_⟩
  · obtain ⟨x, hx⟩ := getElem?_ex (show i < xs.length by omega)
    obtain ⟨y, hy⟩ := getElem?_ex (show i < ys.length by omega)
    exact ⟨xs, ys, x, y, q.1, q.2, hx, hy⟩
  · obtain ⟨T, x, z, h1, h2, h3, h4, h5⟩ := y
    exact ⟨T, x, z, h1, h2, h3, h4 xs q.1, h5 ys q.2⟩
/-! ### tuples that are cut, whole or in part -/
theorem sl_tupAK {X : Cx} (K : PySem.W.Frag) (h : X.K = K) : SlR X (rSlA K) := by subst h; exact sl_tupA
end WB
namespace WB
open PySem PySem.Spec PyProof.Rows L2
/-! ### things that stand apart, and tuples that are known (they may be shared: nothing changes them) -/
def noT : HO → Prop
  | .tup _ => False
  | .frz _ _ => False
  | _ => True
class NT (T : Th) : Prop where
  nt : ∀ H, T.P H → ∀ a ∈ T.ft, ∀ o, H a = some o → noT o
def TF (K : PySem.W.Frag) (L : List (Addr × List V)) (H : Hp) : Prop := ∀ p ∈ L, SqT K H p.1 p.2
section
variable {K : PySem.W.Frag} {L : List (Addr × List V)} {H H' : Hp} {F : List Addr} {a : Addr} {xs : List V}
theorem sqT_keep (kp : ∀ o, H a = some o → ¬ noT o → H' a = some o) (h : SqT K H a xs) : SqT K H' a xs := by
  rcases h with (h | ⟨o, h⟩) | h
  · exact .inl (.inl (kp _ h (fun z => z)))
  · exact .inl (.inr ⟨o, kp _ h (fun z => z)⟩)
  · exact .inr h
theorem sqT_mvf (m : MvF F H H') (hF : ∀ a ∈ F, ∀ o, H a = some o → noT o) (h : SqT K H a xs) : SqT K H' a xs := sqT_keep (fun o e n => m.kp a o (fun z => n (hF a z o e)) e) h
theorem TF.mvf (m : MvF F H H') (hF : ∀ a ∈ F, ∀ o, H a = some o → noT o) (t : TF K L H) : TF K L H' := fun p hp => sqT_mvf m hF (t p hp)
theorem TF.same (s : Same H H') (t : TF K L H) : TF K L H' := fun p hp => same_t s (t p hp)
end
instance (b : Addr × Addr) : NT (tB b) := ⟨fun H h a ha o e => by
  obtain ⟨ns, i, r, x, c, h1, h2, _⟩ := h
  rcases List.mem_cons.mp ha with rfl | ha
  · rw [h1] at e
    cases e
    trivial
  · rw [List.mem_singleton.mp ha, h2] at e
    cases e
    trivial⟩
instance (a : Addr) (xs : List V) : NT (tO a (.lst xs)) := ⟨fun H h b hb o e => by
  rw [in1 hb, h.1] at e
  cases e
  trivial⟩
instance {α : Type} (Y : List α) (f : α → Th) [i : ∀ y, NT (f y)] : NT (tG (Y.map f)) := ⟨fun H h a ha o e => by
  obtain ⟨y, hy, ha⟩ := mem_tG.mp ha
  obtain ⟨j, hj⟩ := List.getElem?_of_mem hy
  have g : Hs [] (Y.map f) H := h
  exact (i y).nt H (g.get j (map_at hj)) a ha o e⟩
structure Hw (K : PySem.W.Frag) (L : List (Addr × List V)) (T0 : List (Addr × Str)) (Ts : List Th) (H : Hp) : Prop where
  hs : Hs T0 Ts H
  tf : TF K L H
section
variable {K : PySem.W.Frag} {L L' : List (Addr × List V)} {T0 : List (Addr × Str)} {Ts : List Th} {T T' N : Th} {H H' : Hp} {a p : Addr} {xs : List V} {b : Addr × Addr} {o o' : HO}
theorem Hw.of (h : Hs T0 Ts H) : Hw K [] T0 Ts H := ⟨h, fun p hp => absurd hp List.not_mem_nil⟩
theorem Hw.get (h : Hw K L T0 Ts H) (i : Nat) (hi : Ts[i]? = some T) : T.P H := h.hs.get i hi
theorem Hw.at (h : Hw K L T0 Ts H) (i : Nat) (hi : Ts[i]? = some (tO p o)) : H p = some o := h.hs.at i hi
theorem Hw.tup (h : Hw K L T0 Ts H) (i : Nat) (hi : L[i]? = some (a, xs)) : SqT K H a xs := h.tf _ (List.mem_of_getElem? hi)
theorem Hw.same (h : Hw K L T0 Ts H) (s : Same H H') : Hw K L T0 Ts H' := ⟨h.hs.same s, h.tf.same s⟩
theorem Hw.know (h : Hw K L T0 Ts H) (t : SqT K H a xs) : Hw K ((a, xs) :: L) T0 Ts H := ⟨h.hs, fun p hp => (List.mem_cons.mp hp).elim (fun z => by rw [z]; exact t) (h.tf p)⟩
theorem Hw.selT (h : Hw K L T0 Ts H) (hs : ∀ q ∈ L', q ∈ L) : Hw K L' T0 Ts H := ⟨h.hs, fun p hp => h.tf p (hs p hp)⟩
theorem Hw.sel (h : Hw K L T0 Ts H) (is : List Nat) (hn : is.Nodup) : Hw K L T0 (pickTs Ts is) H := ⟨h.hs.sel is hn, h.tf⟩
theorem Hw.bag (h : Hw K L T0 (tB b :: Ts) H) : Bag b H := h.hs.bag
theorem Hw.noF [NT T] {F : List Addr} (h : Hw K L T0 Ts H) (i : Nat) (hi : Ts[i]? = some T) (hF : ∀ a ∈ F, a ∈ T.ft ∨ H a = none) : ∀ a ∈ F, ∀ o, H a = some o → noT o := fun a ha o e => by
  rcases hF a ha with z | z
  · exact NT.nt H (h.hs.get i hi) a z o e
  · rw [z] at e
    cases e
theorem Hw.op [NT T] {F : List Addr} (h : Hw K L T0 Ts H) (i : Nat) (hi : Ts[i]? = some T) (m : MvF F H H') (hF : ∀ a ∈ F, a ∈ T.ft ∨ H a = none) (hp : T'.P H') (hf : ∀ a ∈ T'.ft, a ∈ T.ft ∨ H a = none) : Hw K L T0 (Ts.set i T') H' :=
  ⟨h.hs.op i hi m hF hp hf, h.tf.mvf m (h.noF i hi hF)⟩
theorem Hw.opNew [NT T] {F : List Addr} (h : Hw K L T0 Ts H) (i : Nat) (hi : Ts[i]? = some T) (m : MvF F H H') (hF : ∀ a ∈ F, a ∈ T.ft ∨ H a = none) (hp : T'.P H') (hf : ∀ a ∈ T'.ft, a ∈ T.ft ∨ H a = none) (hn : N.P H') (hnf : ∀ a ∈ N.ft, H a = none ∧ a ∉ T'.ft) : Hw K L T0 (N :: Ts.set i T') H' :=
  ⟨h.hs.opNew i hi m hF hp hf hn hnf, h.tf.mvf m (h.noF i hi hF)⟩
theorem Hw.mv (h : Hw K L T0 (tB b :: Ts) H) (m : Mv b.1 H H') (g : Bag b H') : Hw K L T0 (tB b :: Ts) H' :=
  h.op (T := tB b) (T' := tB b) 0 rfl (mvf_bag m g) (fun a ha => .inl ha) g (fun a ha => .inl ha)
theorem Hw.newM (h : Hw K L T0 (tB b :: Ts) H) (m : Mv b.1 H H') (g : Bag b H') (n : H p = none) (e : H' p = some o) (pl : plain o := by exact trivial) : Hw K L T0 (tB b :: tO p o :: Ts) H' :=
  ⟨h.hs.newM m g n e pl, h.tf.mvf (mvf_bag m g) (h.noF (T := tB b) 0 rfl (fun a ha => .inl ha))⟩
theorem Hw.newH (h : Hw K L T0 Ts H) (s : Same H H') (n : H p = none) (e : H' p = some o) (pl : plain o := by exact trivial) : Hw K L T0 (tO p o :: Ts) H' := ⟨h.hs.newH s n e pl, h.tf.same s⟩
theorem Hw.newHU (h : Hw K L T0 Ts H) (n : H p = none) (pl : plain o := by exact trivial) : Hw K L T0 (tO p o :: Ts) (upd H p o) := ⟨h.hs.newHU n pl, h.tf.same (same_upd n)⟩
theorem Hw.newU (h : Hw K L T0 (tB b :: Ts) H) (n : H p = none) (pl : plain o := by exact trivial) : Hw K L T0 (tB b :: tO p o :: Ts) (upd H p o) := ⟨h.hs.newU n pl, h.tf.same (same_upd n)⟩
theorem Hw.new (h : Hw K L T0 Ts H) (s : Same H H') (hp : T.P H') (hf : ∀ a ∈ T.ft, H a = none) : Hw K L T0 (T :: Ts) H' := ⟨h.hs.new s hp hf, h.tf.same s⟩
/-- a new tuple, known from now on -/
theorem Hw.newT (h : Hw K L T0 Ts H) (n : H p = none) : Hw K ((p, xs) :: L) T0 Ts (upd H p (.tup xs)) := (h.same (same_upd n)).know (SqT.of upd_same)
theorem Hw.put (h : Hw K L T0 Ts H) (i : Nat) {xs ys : List V} (hi : Ts[i]? = some (tL p xs)) : Hw K L T0 (Ts.set i (tL p ys)) (upd H p (.lst ys)) :=
  h.op (T := tL p xs) (T' := tL p ys) i hi (F := [p]) ((MvF.refl [p] H).upd (.head _)) (fun a ha => .inl ha) ⟨upd_same, trivial⟩ (fun a ha => .inl ha)
theorem Hw.merge {A B C : Th} (h : Hw K L T0 (A :: B :: Ts) H) (hp : C.P H) (hf : ∀ a ∈ C.ft, a ∈ A.ft ∨ a ∈ B.ft) : Hw K L T0 (C :: Ts) H := ⟨h.hs.merge hp hf, h.tf⟩
end
section
variable {α : Type} {K : PySem.W.Frag} {L : List (Addr × List V)} {T0 : List (Addr × Str)} {Ts : List Th} {Y : List α} {f : α → Th} {i j : Nat} {y y' z : α} {H H' : Hp} {N : Th}
theorem Hw.gget (h : Hw K L T0 Ts H) (i : Nat) (hi : Ts[i]? = some (tG (Y.map f))) (hj : Y[j]? = some y) : (f y).P H := h.hs.gget i hi hj
theorem Hw.gset [∀ y, NT (f y)] {F : List Addr} (h : Hw K L T0 Ts H) (i : Nat) (hi : Ts[i]? = some (tG (Y.map f))) (hj : Y[j]? = some y) (m : MvF F H H') (hF : ∀ a ∈ F, a ∈ (f y).ft ∨ H a = none) (hp : (f y').P H') (hf : ∀ a ∈ (f y').ft, a ∈ (f y).ft ∨ H a = none) : Hw K L T0 (Ts.set i (tG ((Y.set j y').map f))) H' :=
  ⟨h.hs.gset i hi hj m hF hp hf, h.tf.mvf m (h.noF (T := tG (Y.map f)) i hi (fun a ha => (hF a ha).imp (fun x => mem_tG.mpr ⟨y, List.mem_of_getElem? hj, x⟩) id))⟩
theorem Hw.gsetN [∀ y, NT (f y)] {F : List Addr} (h : Hw K L T0 Ts H) (i : Nat) (hi : Ts[i]? = some (tG (Y.map f))) (hj : Y[j]? = some y) (m : MvF F H H') (hF : ∀ a ∈ F, a ∈ (f y).ft ∨ H a = none) (hp : (f y').P H') (hf : ∀ a ∈ (f y').ft, a ∈ (f y).ft ∨ H a = none) (hn : N.P H') (hnf : ∀ a ∈ N.ft, H a = none ∧ a ∉ (f y').ft) : Hw K L T0 (N :: Ts.set i (tG ((Y.set j y').map f))) H' :=
  ⟨h.hs.gsetN i hi hj m hF hp hf hn hnf, h.tf.mvf m (h.noF (T := tG (Y.map f)) i hi (fun a ha => (hF a ha).imp (fun x => mem_tG.mpr ⟨y, List.mem_of_getElem? hj, x⟩) id))⟩
theorem Hw.gadd (h : Hw K L T0 (f z :: tG (Y.map f) :: Ts) H) : Hw K L T0 (tG ((Y ++ [z]).map f) :: Ts) H := ⟨h.hs.gadd, h.tf⟩
theorem Hw.gnil (h : Hw K L T0 Ts H) : Hw K L T0 (tG (([] : List α).map f) :: Ts) H := ⟨h.hs.gnil, h.tf⟩
end
theorem sqT_updI {K : PySem.W.Frag} {H : Hp} {r C dx t : Addr} {fs : List (Str × V)} {o : HO} {xs : List V} (e : H r = some (.ins C dx fs)) (h : SqT K H t xs) : SqT K (upd H r o) t xs := sqT_keep (fun u eu n => by
  rw [upd_ne (fun z => ?_)]
  · exact eu
  · rw [z, e] at eu
    cases eu
    exact n trivial) h
theorem sqK_updI {K : PySem.W.Frag} {H : Hp} {r C dx t : Addr} {fs : List (Str × V)} {o : HO} {k : Bool} {xs : List V} (e : H r = some (.ins C dx fs)) (h : SqK K k H t xs) : SqK K k (upd H r o) t xs := by
  cases k with
  | false => exact sqT_updI e h
  | true =>
    refine lk_l (lk_mv (b := r) (Mv.refl r H).upd ?_) h
    intro u eu
    rw [e] at eu
    cases eu
    rintro (⟨_, z⟩ | ⟨_, z⟩ | ⟨_, _, z⟩) <;> cases z
theorem ix_by {K : PySem.W.Frag} {k : Bool} {H : Hp} {a : Addr} {xs : List V} {i : Int} {v : V} {Q : VK} (h : SqK K k H a xs) (e : atI xs i = some v) (q : Q v H) : rIx K (.ref a) (.int i) H Q := by
  cases k with
  | true => exact .inl ⟨a, _, _, _, rfl, rfl, h, e, q⟩
  | false => exact .inr (.inl ⟨a, _, _, _, rfl, rfl, h, e, q⟩)
theorem SqK.or {K : PySem.W.Frag} {k : Bool} {H : Hp} {a : Addr} {xs : List V} (h : SqK K k H a xs) : SqL K H a xs ∨ SqT K H a xs := by
  cases k with
  | true => exact .inl h
  | false => exact .inr h
theorem made_none {H : Hp} {x dx l : Addr} {o o' : HO} (h : upd (upd H dx o') x o l = none) : H l = none := by
  by_cases z : l = x
  · rw [z, upd_same] at h
    cases h
  by_cases y : l = dx
  · rw [upd_ne z, y, upd_same] at h
    cases h
  rw [upd_ne z, upd_ne y] at h
  exact h
theorem made_same {H H2 : Hp} {x dx : Addr} {o o' : HO} (nx : H x = none) (ndx : H dx = none) (m : MvF [x] (upd (upd H dx o') x o) H2) : Same H H2 := fun a u e => by
  refine m.kp a u (fun z => ne_of_none e nx (in1 z)) ?_
  rw [upd_ne (ne_of_none e nx), upd_ne (ne_of_none e ndx)]
  exact e
/-! ### makers with arguments by place -/
def CalNX (P : Program) (w : World) (K : PySem.W.Frag) (mg : Str → Option Value) (base : Heap) (k : Nat) (nm : Str) (C : Addr) (ps : List Str) (sp : Sp) : Prop :=
  ∃ (f : Addr) (fd : FuncData), Mk K C f ∧ FnOk P w K mg base (L2.CX P w) k f fd ps sp ∧ mg nm = some (.ref C) ∧ Binds K fd ps []
theorem CalNX.mono {P : Program} {w : World} {K : PySem.W.Frag} {mg : Str → Option Value} {base : Heap} {j k : Nat} {nm : Str} {C : Addr} {ps : List Str} {sp : Sp} (c : CalNX P w K mg base j nm C ps sp) (h : j ≤ k) : CalNX P w K mg base k nm C ps sp := by
  obtain ⟨f, fd, a, b, d, e⟩ := c
  exact ⟨f, fd, a, b.mono h, d, e⟩
section
variable {X : Cx} {k : Nat} {C : Addr} {ps : List Str} {sp : Sp} {E : XK} {nm : Str} {p pos : Pos} {e : Expr} {es : List Expr} {t : TA}
theorem pe_makeX (c : CalNX X.prog X.w X.K X.mg X.base k nm C ps sp) (hr : Room (k + 1) X.A) (hx : Passes (L2.CX X.prog X.w) X E) (hg : Gl X nm) (ha : PA X (e :: es) t) (hdb : (nm == ("__debug__" : Str)) = false := by decide)
    (he : starEach (e :: es) X.env = (false, eval e X.env) :: starEach es X.env := by rfl) (hpl : (backTo pos (starEach es X.env)).any (·.1) = false := by rfl) : PE X (.Call (.Name nm p) (e :: es) [] pos) (tMake C sp [] E t) := by
  obtain ⟨f, fd, a, b, d, q⟩ := c
  exact pe_make a b hr hg d q .nil hx ha hdb he hpl
theorem pe_makeXF (c : CalNX X.prog X.w X.K X.mg X.base k nm C ps sp) (hr : Room (k + 1) X.A) (hg : Gl X nm) (ha : PA X (e :: es) t) (hdb : (nm == ("__debug__" : Str)) = false := by decide)
    (he : starEach (e :: es) X.env = (false, eval e X.env) :: starEach es X.env := by rfl) (hpl : (backTo pos (starEach es X.env)).any (·.1) = false := by rfl) : PE X (.Call (.Name nm p) (e :: es) [] pos) (tMake C sp [] E0 t) := pe_makeX c hr passL hg ha hdb he hpl
end
section
variable {X : Cx} (K : PySem.W.Frag)
def rSlAny (K : PySem.W.Frag) : V → Option Int → Option Int → Hp → VK → Prop := fun x lo hi H Q => rSlL K x lo hi H Q ∨ rSlA K x lo hi H Q
theorem sl_anyK (h : X.K = K) : SlR X (rSlAny K) := by
  subst h
  intro pins s σ H x v vl vu lo hi sl Q I rx hs pl pu h
  rcases h with h | h
  · exact sl_list pins s σ H x v vl vu lo hi sl Q I rx hs pl pu h
  · exact sl_tupA pins s σ H x v vl vu lo hi sl Q I rx hs pl pu h
end
end WB
namespace WB
open PySem PySem.Spec PyProof.Rows L2
/-! ### methods with keyword-only parameters: n by place behind the thing itself, keywords ks -/
def tMethN (C : Addr) (m : Str) (n j : Nat) (sp : Sp) (gV : List V → List V → List V) (E : XK) (ta : TE) (t tk : TA) : TE := fun σ H Q => ta σ H fun x H1 => ∃ (a dx : Addr) (fs : List (Str × V)), x = .ref a ∧ H1 a = some (.ins C dx fs) ∧ fs.lookup m = none ∧
  t σ H1 fun vs H2 => tk σ H2 fun zs H3 => vs.length = n ∧ zs.length = j ∧ sp (gV (.ref a :: vs) zs) H3 Q E
def CalMW (P : Program) (w : World) (K : PySem.W.Frag) (mg : Str → Option Value) (base : Heap) (k : Nat) (C : Addr) (m : Str) (ps : List Str) (n : Nat) (ks : List Str) (gV : List V → List V → List V) (sp : Sp) : Prop :=
  ∃ (f : Addr) (fd : FuncData) (g : List Value → List Value → List Value), Cls K C ∧ Meth K C m f ∧ FnOk P w K mg base (L2.CX P w) k f fd ps sp ∧ KBn K fd ps (n + 1) ks g gV
theorem CalMW.mono {P : Program} {w : World} {K : PySem.W.Frag} {mg : Str → Option Value} {base : Heap} {j k n : Nat} {C : Addr} {m : Str} {ps ks : List Str} {gV : List V → List V → List V} {sp : Sp} (c : CalMW P w K mg base j C m ps n ks gV sp) (h : j ≤ k) : CalMW P w K mg base k C m ps n ks gV sp := by
  obtain ⟨f, fd, g, a, b, d, e⟩ := c
  exact ⟨f, fd, g, a, b, d.mono h, e⟩
/-- the keyword-only ones left out -/
def CalMD (P : Program) (w : World) (K : PySem.W.Frag) (mg : Str → Option Value) (base : Heap) (k : Nat) (C : Addr) (m : Str) (ps : List Str) (dvs : List V) (sp : Sp) : Prop :=
  ∃ (f : Addr) (fd : FuncData) (ds : List Value), Cls K C ∧ Meth K C m f ∧ FnOk P w K mg base (L2.CX P w) k f fd ps sp ∧ Binds K fd ps ds ∧ Vals dvs ds
theorem CalMD.mono {P : Program} {w : World} {K : PySem.W.Frag} {mg : Str → Option Value} {base : Heap} {j k : Nat} {C : Addr} {m : Str} {ps : List Str} {dvs : List V} {sp : Sp} (c : CalMD P w K mg base j C m ps dvs sp) (h : j ≤ k) : CalMD P w K mg base k C m ps dvs sp := by
  obtain ⟨f, fd, g, a, b, d, e⟩ := c
  exact ⟨f, fd, g, a, b, d.mono h, e⟩
section
variable {X : Cx} {k n : Nat} {C : Addr} {m : Str} {ps ks : List Str} {sp : Sp} {E : XK} {pos apos : Pos} {e o : Expr} {es : List Expr} {kws : List Keyword} {ta : TE} {t tk : TA} {gV : List V → List V → List V} {dvs : List V} {pl : Sem Bool}
theorem pe_methW (ho : PE X o ta) (c : CalMW X.prog X.w X.K X.mg X.base k C m ps n ks gV sp) (hr : Room k X.A) (hx : Passes (L2.CX X.prog X.w) X E) (ha : PA X (e :: es) t) (hkw : PK X kws tk)
    (hall : (backToKw pos (keywordEach kws X.env)).all (·.1.isSome) = true := by rfl) (hks : (backToKw pos (keywordEach kws X.env)).filterMap (·.1) = ks := by rfl) (he : starEach (e :: es) X.env = (false, eval e X.env) :: starEach es X.env := by rfl)
    (hpl : ((backTo pos (starEach (e :: es) X.env)).any (·.1) || (backToKw pos (keywordEach kws X.env)).any (·.1.isNone)) = false := by rfl)
    (ht : eval (.Call (.Attribute o m apos) (e :: es) kws pos) X.env = (do
      let ov ← eval o X.env
      standAt apos.atName
      let (f, first) ← holding [ov] (getMethod ov m pl)
      callWith pos f first (backTo pos (starEach (e :: es) X.env)) (backToKw pos (keywordEach kws X.env))) := by rfl) :
    PE X (.Call (.Attribute o m apos) (e :: es) kws pos) (tMethN C m n ks.length sp gV E ta t tk) := by
  obtain ⟨f, fd, g, hc, hm, F, hb⟩ := c
  refine ⟨fun pins s σ H Q I h => ?_⟩
  refine PySem.W.methodCall_KW (pl := pl) (thn (ho.run pins s σ H _ I h) fun u s1 y => ?_) ht
  obtain ⟨x, H1, I1, rx, a, dx, fs, rfl, ea, l, q⟩ := y
  obtain rfl : u = Value.ref a := rx
  refine getmeth_ok I1 ea hc hm l ?_
  refine PySem.W.callWith_KW (first := [.ref a]) (h₀ := X.base) I.ok.mod.kin hm.kp hall (thn (ha.run pos pins s1 σ H1 _ I1 q) fun us s2 y => ?_) hpl he
  obtain ⟨vs, H2, I2, r, q2⟩ := y
  refine thn (hkw.run pos pins s2 σ H2 _ I2 q2) fun ws s3 y => ?_
  obtain ⟨zs, H3, I3, rz, l1, l2, q3⟩ := y
  refine ⟨I3.kIn, ?_⟩
  rw [hks]
  exact run_fnN (us := .ref a :: us) (vs := .ref a :: vs) F hr hb hx I3 (.cons rfl r) rz (congrArg (· + 1) l1) l2 q3
theorem pe_methWF (ho : PE X o ta) (c : CalMW X.prog X.w X.K X.mg X.base k C m ps n ks gV sp) (hr : Room k X.A) (ha : PA X (e :: es) t) (hkw : PK X kws tk)
    (hall : (backToKw pos (keywordEach kws X.env)).all (·.1.isSome) = true := by rfl) (hks : (backToKw pos (keywordEach kws X.env)).filterMap (·.1) = ks := by rfl) (he : starEach (e :: es) X.env = (false, eval e X.env) :: starEach es X.env := by rfl)
    (hpl : ((backTo pos (starEach (e :: es) X.env)).any (·.1) || (backToKw pos (keywordEach kws X.env)).any (·.1.isNone)) = false := by rfl)
    (ht : eval (.Call (.Attribute o m apos) (e :: es) kws pos) X.env = (do
      let ov ← eval o X.env
      standAt apos.atName
      let (f, first) ← holding [ov] (getMethod ov m pl)
      callWith pos f first (backTo pos (starEach (e :: es) X.env)) (backToKw pos (keywordEach kws X.env))) := by rfl) :
    PE X (.Call (.Attribute o m apos) (e :: es) kws pos) (tMethN C m n ks.length sp gV E0 ta t tk) := pe_methW ho c hr passL ha hkw hall hks he hpl ht
theorem pe_methD (ho : PE X o ta) (c : CalMD X.prog X.w X.K X.mg X.base k C m ps dvs sp) (hr : Room k X.A) (hx : Passes (L2.CX X.prog X.w) X E) (ha : PA X (e :: es) t) (hs : starEach (e :: es) X.env = (false, eval e X.env) :: starEach es X.env := by rfl) (hpl : (backTo pos (starEach es X.env)).any (·.1) = false := by rfl)
    (hc : eval (.Call (.Attribute o m apos) (e :: es) [] pos) X.env = (do
      let ov ← eval o X.env
      standAt apos.atName
      let (f, first) ← holding [ov] (getMethod ov m pl)
      callWith pos f first (backTo pos (starEach (e :: es) X.env)) (backToKw pos (keywordEach [] X.env))) := by rfl) : PE X (.Call (.Attribute o m apos) (e :: es) [] pos) (tMeth C m sp dvs E ta t) := by
  obtain ⟨f, fd, ds, a, b, d, g, v⟩ := c
  exact pe_meth ho a b d hr g v hx ha hs hpl hc
theorem pe_methDF (ho : PE X o ta) (c : CalMD X.prog X.w X.K X.mg X.base k C m ps dvs sp) (hr : Room k X.A) (ha : PA X (e :: es) t) (hs : starEach (e :: es) X.env = (false, eval e X.env) :: starEach es X.env := by rfl) (hpl : (backTo pos (starEach es X.env)).any (·.1) = false := by rfl)
    (hc : eval (.Call (.Attribute o m apos) (e :: es) [] pos) X.env = (do
      let ov ← eval o X.env
      standAt apos.atName
      let (f, first) ← holding [ov] (getMethod ov m pl)
      callWith pos f first (backTo pos (starEach (e :: es) X.env)) (backToKw pos (keywordEach [] X.env))) := by rfl) : PE X (.Call (.Attribute o m apos) (e :: es) [] pos) (tMeth C m sp dvs E0 ta t) := pe_methD ho c hr passL ha hs hpl hc
end
theorem pi_revAK {X : Cx} (K : PySem.W.Frag) (hKK : X.K = K) {tg e : Expr} {te : TE} {p pos : Pos} (hg : Gl X "reversed") (hm : X.mg "reversed" = none) (he : PE X e te) (hs : starEach [e] X.env = (false, eval e X.env) :: starEach [] X.env := by rfl) : PI X tg (.Call (.Name "reversed" p) [e] [] pos) (RT.iRevA K te) := by
  subst hKK
  exact RT.pi_revA hg hm he hs
theorem walk_revT {K : PySem.W.Frag} {a : Addr} {xs : List V} : Walk (RT.ItvT K a xs.length) xs.length (fun H => SqT K H a xs) (fun i H x H' => H' = H ∧ xs[xs.length - 1 - i]? = some x) := by
  refine ⟨fun i H hi q => ⟨hi, xs, ?_⟩, fun _ _ => Nat.le_refl _, fun i H x H' _ q y => ⟨y.1, y.2 xs q⟩⟩
  obtain ⟨x, hx⟩ := getElem?_ex (show xs.length - 1 - i < xs.length by omega)
  exact ⟨x, q, hx⟩
/-! ### how keywords are bound: ks as written, ms those that lack (their defaults), pm puts both in the parameters' order -/
section
variable {K : PySem.W.Frag} {x qual : Str} {params : Arguments} {body : List Stmt} {scope : Scope} {kws : List (Str × V)} {f : Addr} {fd : FuncData} {ps : List Str}
/-- the i-th of both rows, one behind the other -/
def pickL {α : Type} (l : List α) : List Nat → List α
  | [] => []
  | i :: r => match l[i]? with
    | some x => x :: pickL l r
    | none => pickL l r
theorem vals_pick {vs : List V} {us : List Value} (h : Vals vs us) : ∀ is : List Nat, Vals (pickL vs is) (pickL us is)
  | [] => .nil
  | i :: r => by
    unfold pickL
    cases e : us[i]? with
    | none =>
      have e2 : vs[i]? = none := by
        rw [List.getElem?_eq_none_iff] at e ⊢
        have := h.length
        omega
      rw [e2]
      exact vals_pick h r
    | some u =>
      obtain ⟨y, hy, ry⟩ := vals_at h e
      rw [hy]
      exact .cons ry (vals_pick h r)
theorem kbn_pick (F : FunD K x qual params body scope [] kws f fd) (n : Nat) (ks : List Str) (ms : List (Str × V)) (is : List Nat) (hk : kws ≠ []) (hms : ∀ q ∈ ms, q ∈ kws)
    (h : ∀ (D : Addr) (doc pm : Value) (an : Option Addr) (cdv ct : Value) (us mv ws : List Value), us.length = n → mv.length = ms.length → ws.length = ks.length →
      KwChain D ((ms.map (·.1)).zip mv) (bindArgs (PySem.W.fnOf x qual params body scope .none (.ref D) doc pm an cdv ct) ⟨us, ks.zip ws⟩) (ps.zip (us ++ pickL (ws ++ mv) is))) :
    ∃ g, KBn K fd ps n ks g (fun vs zs => vs ++ pickL (zs ++ ms.map (·.2)) is) := by
  obtain ⟨mv, hb⟩ := F.kbinds0 (ps := ps) n ks ms (fun {α} us mv ws => us ++ pickL (ws ++ mv) is) hk hms (fun r1 r2 r3 => r1.append (vals_pick (r3.append r2) is)) h
  exact ⟨_, hb⟩
end
end WB
namespace WB
open PySem PySem.Spec PyProof.Rows L2
def topS (i : Nat) : Stmt := PySem.Challenge.pw_warbleline_k35_papers_of_rates.main.body.getD i (.Pass ⟨0, 0, 0, 0⟩)
abbrev s_LineError : Stmt := topS 1
abbrev s_BadBit : Stmt := topS 2
abbrev s_BadCount : Stmt := topS 3
abbrev s_BadRate : Stmt := topS 4
abbrev s_NoRate : Stmt := topS 5
abbrev s_Missing : Stmt := topS 6
abbrev s_check_rate : Stmt := topS 11
abbrev s_folded : Stmt := topS 12
abbrev s_apart : Stmt := topS 13
abbrev s_points_at : Stmt := topS 14
abbrev s_step : Stmt := topS 15
abbrev s_point : Stmt := topS 16
abbrev s_check_bits : Stmt := topS 19
abbrev s_bits_number : Stmt := topS 20
abbrev s_moved : Stmt := topS 23
abbrev s_class_of : Stmt := topS 24
abbrev s_coded : Stmt := topS 25
abbrev s_nearest : Stmt := topS 26
abbrev s_least_distance : Stmt := topS 27
abbrev s_paper : Stmt := topS 32
abbrev s__law_bag : Stmt := topS 34
abbrev s__law_pick : Stmt := topS 35
abbrev s__law_of : Stmt := topS 36
abbrev s__law_same : Stmt := topS 37
abbrev s__law_tried : Stmt := topS 38
abbrev s__law_step : Stmt := topS 39
abbrev s__law_root : Stmt := topS 40
abbrev s__law_paper : Stmt := topS 41
abbrev s__law_no_rate : Stmt := topS 42
abbrev s_law : Stmt := topS 43
section
variable {P : Program} {w : World} {K : PySem.W.Frag} {mg : Str → Option Value} {base : Heap}
abbrev i_LineError : Stmt := inClass s_LineError 0
theorem sc_i_LineError : FnScope ["self", "word", "text"] ["self", "word", "text"] (defScope i_LineError) := ⟨rfl, rfl, rfl, by decide +kernel, rfl, by decide +kernel, by decide +kernel⟩
theorem ok_i_LineError {f : Addr} {fd : FuncData} {k : Nat} {dvs : List V} (F : FunD K "__init__" "LineError.__init__" (defArgs i_LineError) (defBody i_LineError) (defScope i_LineError) dvs [] f fd) (n_ValueError : mg "ValueError" = none) (vV : PySem.W.findCls K (.type "ValueError") (.type "type") "__init__" = some (.val (.builtin "ValueError.__init__"))) :
    FnOk P w K mg base CX0 (k + 1) f fd ["self", "word", "text"] (spLE K) := by
  have sc := sc_i_LineError
  refine F.ok sc (fun vs H Q E h => ?_) (fun cdv A outer s H vs Q E hr h => ?_)
  · obtain ⟨a, C, w, t, rfl, _⟩ := h
    rfl
  · obtain ⟨a, C, w, t, rfl, hC, hw, ha, q⟩ := h
    refine ⟨_, PSs.nox (pss_cons (ps_expr (pe_veinit (by rfl) n_ValueError vV (pa_cons (pv 0) (pa_cons (pv 2) pa_nil)))) (pss_one (ps_ost (pv 0) (pv 1)))), ?_⟩
    refine ⟨_, rfl, _, rfl, a, C, [t], rfl, by show 1 ≤ 1000; decide, hC, ha, ?_⟩
    exact ⟨_, rfl, _, rfl, a, C, rfl, hC, hw, .inl ⟨ha, fun d nd da => q d nd da⟩⟩
abbrev i_BadBit : Stmt := inClass s_BadBit 0
theorem sc_i_BadBit : FnScope ["self", "at"] ["self", "at"] (defScope i_BadBit) := ⟨rfl, rfl, rfl, by decide +kernel, rfl, by decide +kernel, by decide +kernel⟩
theorem ok_i_BadBit {f fL C CL : Addr} {fd fdL : FuncData} {k : Nat} (F : Fun K "__init__" "BadBit.__init__" i_BadBit f fd) (TL : ClsFn K mg "LineError" "__init__" CL fL) (FL : FnOk P w K mg base CX0 k fL fdL ["self", "word", "text"] (spLE K)) (bL : Binds K fdL ["self", "word", "text"] [])
    (hC : OexC K C) (hw : PySem.W.findIn K (.ref C) "word" = some none) (hf : PySem.W.findIn K (.ref C) "at" = some none) : FnOk P w K mg base CX0 (k + 1) f fd ["self", "at"] (spIni K C "BadBit" "at") := by
  have sc := sc_i_BadBit
  refine F.ok sc (fun vs H Q E h => ?_) (fun cdv A outer s H vs Q E hr h => ?_)
  · obtain ⟨a, i, rfl, _⟩ := h
    rfl
  · obtain ⟨a, i, rfl, hi, ha, q⟩ := h
    refine ⟨_, (pss_cons (ps_expr (pe_clsfn TL FL hr bL pass0 (by rfl) (pa_cons (pv 0) (pa_cons pe_str (pa_cons (pe_joined (.cons pe_str (.cons (pe_fmt (pv 1)) .nil))) pa_nil))))) (pss_one (ps_ost (pv 0) (pv 1)))), ?_⟩
    refine ⟨_, rfl, _, rfl, (by decide +kernel), _, rfl, .inr ⟨i, rfl, by omega, _, rfl, txt_fits (by decide +kernel) hi, ?_⟩⟩
    refine ⟨a, C, _, _, rfl, hC, hw, ha, fun d nd da => ?_⟩
    refine ⟨_, rfl, _, rfl, a, C, rfl, hC, hf, .inr ⟨d, _, upd_same, ?_, by show 1 ≤ 900; decide, q d nd da⟩⟩
    rw [upd_ne da, upd_same]
abbrev i_BadCount : Stmt := inClass s_BadCount 0
theorem sc_i_BadCount : FnScope ["self"] ["self"] (defScope i_BadCount) := ⟨rfl, rfl, rfl, by decide +kernel, rfl, by decide +kernel, by decide +kernel⟩
theorem ok_i_BadCount {f fL C CL : Addr} {fd fdL : FuncData} {k : Nat} (F : Fun K "__init__" "BadCount.__init__" i_BadCount f fd) (TL : ClsFn K mg "LineError" "__init__" CL fL) (FL : FnOk P w K mg base CX0 k fL fdL ["self", "word", "text"] (spLE K)) (bL : Binds K fdL ["self", "word", "text"] [])
    (hC : OexC K C) (hw : PySem.W.findIn K (.ref C) "word" = some none) : FnOk P w K mg base CX0 (k + 1) f fd ["self"] (spIni0 K C "BadCount") := by
  have sc := sc_i_BadCount
  refine F.ok sc (fun vs H Q E h => ?_) (fun cdv A outer s H vs Q E hr h => ?_)
  · obtain ⟨a, rfl, _⟩ := h
    rfl
  · obtain ⟨a, rfl, ha, q⟩ := h
    refine ⟨_, (pss_one (ps_expr (pe_clsfn TL FL hr bL pass0 (by rfl) (pa_cons (pv 0) (pa_cons pe_str (pa_cons pe_str pa_nil)))))), ?_⟩
    exact ⟨_, rfl, a, C, _, _, rfl, hC, hw, ha, fun d nd da => q d nd da⟩
abbrev i_BadRate : Stmt := inClass s_BadRate 0
theorem sc_i_BadRate : FnScope ["self"] ["self"] (defScope i_BadRate) := ⟨rfl, rfl, rfl, by decide +kernel, rfl, by decide +kernel, by decide +kernel⟩
theorem ok_i_BadRate {f fL C CL : Addr} {fd fdL : FuncData} {k : Nat} (F : Fun K "__init__" "BadRate.__init__" i_BadRate f fd) (TL : ClsFn K mg "LineError" "__init__" CL fL) (FL : FnOk P w K mg base CX0 k fL fdL ["self", "word", "text"] (spLE K)) (bL : Binds K fdL ["self", "word", "text"] [])
    (hC : OexC K C) (hw : PySem.W.findIn K (.ref C) "word" = some none) : FnOk P w K mg base CX0 (k + 1) f fd ["self"] (spIni0 K C "BadRate") := by
  have sc := sc_i_BadRate
  refine F.ok sc (fun vs H Q E h => ?_) (fun cdv A outer s H vs Q E hr h => ?_)
  · obtain ⟨a, rfl, _⟩ := h
    rfl
  · obtain ⟨a, rfl, ha, q⟩ := h
    refine ⟨_, (pss_one (ps_expr (pe_clsfn TL FL hr bL pass0 (by rfl) (pa_cons (pv 0) (pa_cons pe_str (pa_cons pe_str pa_nil)))))), ?_⟩
    exact ⟨_, rfl, a, C, _, _, rfl, hC, hw, ha, fun d nd da => q d nd da⟩
abbrev i_NoRate : Stmt := inClass s_NoRate 0
theorem sc_i_NoRate : FnScope ["self", "loud"] ["self", "loud"] (defScope i_NoRate) := ⟨rfl, rfl, rfl, by decide +kernel, rfl, by decide +kernel, by decide +kernel⟩
theorem ok_i_NoRate {f fL C CL : Addr} {fd fdL : FuncData} {k : Nat} (F : Fun K "__init__" "NoRate.__init__" i_NoRate f fd) (TL : ClsFn K mg "LineError" "__init__" CL fL) (FL : FnOk P w K mg base CX0 k fL fdL ["self", "word", "text"] (spLE K)) (bL : Binds K fdL ["self", "word", "text"] [])
    (hC : OexC K C) (hw : PySem.W.findIn K (.ref C) "word" = some none) (hf : PySem.W.findIn K (.ref C) "loud" = some none) : FnOk P w K mg base CX0 (k + 1) f fd ["self", "loud"] (spIni K C "NoRate" "loud") := by
  have sc := sc_i_NoRate
  refine F.ok sc (fun vs H Q E h => ?_) (fun cdv A outer s H vs Q E hr h => ?_)
  · obtain ⟨a, i, rfl, _⟩ := h
    rfl
  · obtain ⟨a, i, rfl, hi, ha, q⟩ := h
    refine ⟨_, (pss_cons (ps_expr (pe_clsfn TL FL hr bL pass0 (by rfl) (pa_cons (pv 0) (pa_cons pe_str (pa_cons (pe_joined (.cons pe_str (.cons (pe_fmt (pv 1)) .nil))) pa_nil))))) (pss_one (ps_ost (pv 0) (pv 1)))), ?_⟩
    refine ⟨_, rfl, _, rfl, (by decide +kernel), _, rfl, .inr ⟨i, rfl, by omega, _, rfl, txt_fits (by decide +kernel) hi, ?_⟩⟩
    refine ⟨a, C, _, _, rfl, hC, hw, ha, fun d nd da => ?_⟩
    refine ⟨_, rfl, _, rfl, a, C, rfl, hC, hf, .inr ⟨d, _, upd_same, ?_, by show 1 ≤ 900; decide, q d nd da⟩⟩
    rw [upd_ne da, upd_same]
/-! ### numbers in bits -/
def bn (bs : List Int) : Int := bs.foldl (fun n b => 2 * n + b) 0
theorem bn_more {bs : List Int} {i : Nat} {b : Int} (h : bs[i]? = some b) : bn (bs.take (i + 1)) = 2 * bn (bs.take i) + b := by
  unfold bn
  rw [take_more h, List.foldl_append]
  rfl
theorem bn_acc (n : Nat) : ∀ (i : Nat) (c : Int), (wr i (n : Int)).foldl (fun n b => 2 * n + b) c = c * 2 ^ i + ((n % 2 ^ i : Nat) : Int)
  | 0, c => by
    show c = c * 1 + ((n % 1 : Nat) : Int)
    rw [Nat.mod_one]
    omega
  | i + 1, c => by
    show (wr i (n : Int)).foldl _ (2 * c + ((n : Int) / 2 ^ i) % 2) = _
    rw [bn_acc n i]
    have e : ((n : Int) / 2 ^ i) % 2 = ((n / 2 ^ i % 2 : Nat) : Int) := by
      rw [Int.natCast_emod, Int.natCast_ediv, Int.natCast_pow]
      rfl
    rw [e, Nat.mod_pow_succ, Int.natCast_add, Int.natCast_mul, Int.natCast_pow, Int.pow_succ, Int.add_mul]
    have e2 : (2 * c) * 2 ^ i = c * (2 ^ i * 2) := by
      rw [Int.mul_comm 2 c, Int.mul_assoc, Int.mul_comm 2 (2 ^ i)]
    rw [e2]
    have e3 : ((n / 2 ^ i % 2 : Nat) : Int) * 2 ^ i = (2 : Int) ^ i * ((n / 2 ^ i % 2 : Nat) : Int) := Int.mul_comm _ _
    show _ + ((n / 2 ^ i % 2 : Nat) : Int) * 2 ^ i + ((n % 2 ^ i : Nat) : Int) = _ + (((n % 2 ^ i : Nat) : Int) + (2 : Int) ^ i * ((n / 2 ^ i % 2 : Nat) : Int))
    rw [e3]
    omega
theorem bn_wr {n : Int} {i : Nat} (h0 : 0 ≤ n) (h1 : n < 2 ^ i) : bn (wr i n) = n := by
  obtain ⟨m, rfl⟩ : ∃ m : Nat, n = (m : Int) := ⟨n.toNat, by omega⟩
  unfold bn
  rw [bn_acc, Nat.mod_eq_of_lt (by exact_mod_cast h1)]
  omega
theorem pow64 {k : Nat} (h : k ≤ 64) : (1 : Int) ≤ 2 ^ k ∧ (2 : Int) ^ k ≤ 18446744073709551616 := by
  have h1 : (2 : Nat) ^ k ≤ 18446744073709551616 := Nat.le_trans (Nat.pow_le_pow_right (by decide) h) (by decide)
  have h2 : 1 ≤ (2 : Nat) ^ k := Nat.one_le_two_pow
  have e : ((2 ^ k : Nat) : Int) = (2 : Int) ^ k := Int.natCast_pow 2 k
  rw [← e]
  generalize 2 ^ k = x at h1 h2 ⊢
  omega
theorem lt_of_div {n : Int} {k : Nat} (h : n / 2 ^ k = 0) : n < 2 ^ k := by
  have h1 := Int.mul_ediv_add_emod n (2 ^ k)
  rw [h, Int.mul_zero, Int.zero_add] at h1
  have := Int.emod_lt_of_pos n (b := 2 ^ k) (Int.pow_pos (by decide))
  omega
/-! ### the ring -/
def fold (n : Int) : Int := (n + 128) % 256 - 128
def apartI (a b : Int) : Int := if fold (a - b) < 0 then - fold (a - b) else fold (a - b)
def spFolded : Sp := fun vs H Q _ => ∃ (n : Int), vs = [.int n] ∧ Q (.int (fold n)) H
def spApart : Sp := fun vs H Q _ => ∃ (a b : Int), vs = [.int a, .int b] ∧ Q (.int (apartI a b)) H
theorem fold_shift (n k : Int) : fold (n + 256 * k) = fold n := by unfold fold; omega
theorem fold_fold (n : Int) : fold (fold n) = fold n := by unfold fold; omega
theorem apart_comm (a b : Int) : apartI a b = apartI b a := by
  unfold apartI fold
  split <;> split <;> omega
theorem apart_fold (a b : Int) : apartI (fold a) b = apartI a b := by
  have : fold (fold a - b) = fold (a - b) := by unfold fold; omega
  unfold apartI
  rw [this]
theorem apart_law (a b : Int) : (if 256 - (if a - b < 0 then -(a - b) else a - b) % 256 < (if a - b < 0 then -(a - b) else a - b) % 256 then 256 - (if a - b < 0 then -(a - b) else a - b) % 256 else (if a - b < 0 then -(a - b) else a - b) % 256) = apartI a b := by
  unfold apartI fold
  generalize a - b = d
  split <;> split <;> split <;> omega
theorem apart_le (a b : Int) : 0 ≤ apartI a b ∧ apartI a b ≤ 128 := by
  unfold apartI fold
  split <;> omega
/-! ### points -/
def okR (r : Int) : Prop := 1 ≤ r ∧ r ≤ 4
instance decOkR (r : Int) : Decidable (okR r) := inferInstanceAs (Decidable (1 ≤ r ∧ r ≤ 4))
def ptsI (r : Int) : Int := 4 * 2 ^ (r - 1).toNat
def stepI (r : Int) : Int := 256 / ptsI r
def pointI (n r : Int) : Int := stepI r / 2 - 256 / 2 + n * stepI r
theorem okR_cases {r : Int} (h : okR r) : r = 1 ∨ r = 2 ∨ r = 3 ∨ r = 4 := by
  obtain ⟨h1, h2⟩ := h
  omega
theorem pts_step {r : Int} (h : okR r) : (r = 1 ∧ ptsI r = 4 ∧ stepI r = 64) ∨ (r = 2 ∧ ptsI r = 8 ∧ stepI r = 32) ∨ (r = 3 ∧ ptsI r = 16 ∧ stepI r = 16) ∨ (r = 4 ∧ ptsI r = 32 ∧ stepI r = 8) := by
  rcases okR_cases h with rfl | rfl | rfl | rfl
  · exact .inl ⟨rfl, by decide, by decide⟩
  · exact .inr (.inl ⟨rfl, by decide, by decide⟩)
  · exact .inr (.inr (.inl ⟨rfl, by decide, by decide⟩))
  · exact .inr (.inr (.inr ⟨rfl, by decide, by decide⟩))
theorem rate_in (r : Int) : inV (.int r) [.int 1, .int 2, .int 3, .int 4] = decide (okR r) := by
  have h := inV_ints r [1, 2, 3, 4]
  have e : ([1, 2, 3, 4] : List Int).map V.int = [.int 1, .int 2, .int 3, .int 4] := rfl
  rw [e] at h
  rw [h]
  refine decide_eq_decide.mpr ⟨fun hm => ?_, fun hm => ?_⟩
  · simp only [List.mem_cons, List.not_mem_nil, or_false] at hm
    unfold okR
    omega
  · rcases okR_cases hm with rfl | rfl | rfl | rfl <;> simp
/-- a refusal without a value -/
def Ref0 (C : Addr) (nm : Str) (H : Hp) (E : XK) : Prop := ∀ (H' : Hp) (d : Addr), Same H H' → H d = none → H' d = some (.xd [(("word" : Str), .str nm)]) → E (.ref C) (some d) H'
theorem Ref0.same {C : Addr} {nm : Str} {H H1 : Hp} {E : XK} (h : Ref0 C nm H E) (s : Same H H1) : Ref0 C nm H1 E := fun H' d s' n e => h H' d (s.trans s') (s.free n) e
def spCR (cR : Addr) : Sp := fun vs H Q E => ∃ (r : Int), vs = [.int r] ∧ (okR r → Q .non H) ∧ (¬ okR r → Ref0 cR "BadRate" H E)
def spPA (cR : Addr) : Sp := fun vs H Q E => ∃ (r : Int), vs = [.int r] ∧ (okR r → Q (.int (ptsI r)) H) ∧ (¬ okR r → Ref0 cR "BadRate" H E)
def spStep (cR : Addr) : Sp := fun vs H Q E => ∃ (r : Int), vs = [.int r] ∧ (okR r → Q (.int (stepI r)) H) ∧ (¬ okR r → Ref0 cR "BadRate" H E)
def spPoint (cN cR : Addr) : Sp := fun vs H Q E => ∃ (n r : Int), vs = [.int n, .int r] ∧ (okR r → 0 ≤ n → n < ptsI r → Q (.int (pointI n r)) H) ∧ (okR r → (n < 0 ∨ ptsI r ≤ n) → Ref0 cN "BadCount" H E) ∧ (¬ okR r → Ref0 cR "BadRate" H E)
/-! ### the coder: the mathematics -/
def mvS (s f : Int) : Int := 2 * (s % 2) + f
def clS (s f : Int) : Int := 2 * ((s / 2 + f) % 2) + s % 2
def St4 (s : Int) : Prop := 0 ≤ s ∧ s < 4
theorem st4_cases {s : Int} (h : St4 s) : s = 0 ∨ s = 1 ∨ s = 2 ∨ s = 3 := by
  obtain ⟨h1, h2⟩ := h
  omega
theorem cl_xor {s f : Int} (hs : St4 s) (hf : isB f) : Builtin.bitXor s (2 * f) = clS s f := by
  rcases st4_cases hs with rfl | rfl | rfl | rfl <;> rcases hf with rfl | rfl <;> decide
theorem mv_st {s f : Int} (hf : isB f) : St4 (mvS s f) := by
  unfold St4 mvS
  rcases hf with rfl | rfl <;> omega
theorem cl_st (s f : Int) : St4 (clS s f) := by
  unfold St4 clS
  omega
abbrev Bt := Int × Int
def stB (s : Int) (bs : List Bt) : Int := bs.foldl (fun s b => mvS s b.1) s
def codeB : Int → List Bt → List Int
  | _, [] => []
  | s, b :: r => (4 * b.2 + clS s b.1) :: codeB (mvS s b.1) r
theorem codeB_app : ∀ (s : Int) (as bs : List Bt), codeB s (as ++ bs) = codeB s as ++ codeB (stB s as) bs
  | _, [], _ => rfl
  | s, a :: as, bs => congrArg _ (codeB_app (mvS s a.1) as bs)
theorem stB_app (s : Int) (as bs : List Bt) : stB s (as ++ bs) = stB (stB s as) bs := by
  unfold stB
  rw [List.foldl_append]
theorem codeB_len : ∀ (s : Int) (bs : List Bt), (codeB s bs).length = bs.length
  | _, [] => rfl
  | s, b :: r => congrArg (· + 1) (codeB_len (mvS s b.1) r)
theorem codeB_more {s : Int} {bs : List Bt} {i : Nat} {b : Bt} (h : bs[i]? = some b) : codeB s (bs.take (i + 1)) = codeB s (bs.take i) ++ [4 * b.2 + clS (stB s (bs.take i)) b.1] := by
  rw [take_more h, codeB_app]
  rfl
theorem stB_more {s : Int} {bs : List Bt} {i : Nat} {b : Bt} (h : bs[i]? = some b) : stB s (bs.take (i + 1)) = mvS (stB s (bs.take i)) b.1 := by
  rw [take_more h, stB_app]
  rfl
/-- the i-th beat of a row at rate r -/
def bt (r : Nat) (row : List Int) (i : Nat) : Bt := (row.getD (i * r) 0, bn ((row.drop (i * r + 1)).take (r - 1)))
def bts (r N : Nat) (row : List Int) : List Bt := (List.range N).map (bt r row)
def tl2 : List Bt := [(0, 0), (0, 0)]
def rowB (r : Nat) (bs : List Int) : List Bt := bts r (bs.length / r) bs ++ tl2
def codeL (r : Nat) (bs : List Int) : List Int := codeB 0 (rowB r bs)
theorem st_tl2 (s : Int) : stB s tl2 = 0 := by
  show mvS (mvS s 0) 0 = 0
  unfold mvS
  omega
theorem bts_len (r N : Nat) (row : List Int) : (bts r N row).length = N := by
  unfold bts
  rw [List.length_map, List.length_range]
theorem bts_at {r N : Nat} {row : List Int} {i : Nat} (h : i < N) : (bts r N row)[i]? = some (bt r row i) := by
  unfold bts
  rw [List.getElem?_map, List.getElem?_range h]
  rfl
theorem bn_rep0 : ∀ n : Nat, bn (List.replicate n 0) = 0
  | 0 => rfl
  | n + 1 => by
    show (List.replicate n 0).foldl _ (2 * 0 + 0) = 0
    exact bn_rep0 n
theorem idx_le {i r n L : Nat} (h : i < n) (hL : L = r * n) : i * r + r ≤ L := by
  have : (i + 1) * r ≤ n * r := Nat.mul_le_mul_right r h
  rw [Nat.add_mul, Nat.one_mul] at this
  rw [hL, Nat.mul_comm r n]
  exact this
theorem bt_left {r n i : Nat} {bs zs : List Int} (hr : 0 < r) (hl : bs.length = r * n) (hi : i < n) : bt r (bs ++ zs) i = bt r bs i := by
  have h1 := idx_le hi hl
  unfold bt
  rw [List.getD_eq_getElem?_getD, List.getElem?_append_left (by omega), List.getD_eq_getElem?_getD, List.drop_append_of_le_length (by omega), List.take_append_of_le_length (by rw [List.length_drop]; omega)]
theorem bt_zero {r n j : Nat} {bs : List Int} (hl : bs.length = r * n) (m : Nat) : bt r (bs ++ List.replicate m 0) (n + j) = (0, 0) := by
  have e : (n + j) * r = bs.length + j * r := by rw [hl, Nat.add_mul, Nat.mul_comm n r]
  unfold bt
  rw [e, List.getD_eq_getElem?_getD, List.getElem?_append_right (by omega), List.drop_append, List.drop_of_length_le (by omega), List.nil_append, List.drop_replicate, List.take_replicate, bn_rep0]
  congr 1
  rw [Nat.add_sub_cancel_left]
  cases e2 : (List.replicate m (0 : Int))[j * r]? with
  | none => rfl
  | some z => exact List.eq_of_mem_replicate (List.mem_of_getElem? e2)
theorem bts_tail {r n : Nat} {bs : List Int} (hr : 0 < r) (hl : bs.length = r * n) (m : Nat) : bts r (n + 2) (bs ++ List.replicate m 0) = bts r n bs ++ tl2 := by
  unfold bts
  rw [List.range_succ, List.range_succ, List.map_append, List.map_append, List.append_assoc]
  congr 1
  · refine List.map_congr_left fun i hi => ?_
    exact bt_left hr hl (List.mem_range.mp hi)
  · show [bt r _ n] ++ [bt r _ (n + 1)] = tl2
    have h0 := bt_zero (j := 0) hl m
    have h1 := bt_zero (j := 1) hl m
    rw [Nat.add_zero] at h0
    rw [h0, h1]
    rfl
theorem rowB_of {r n : Nat} {bs : List Int} (hr : 0 < r) (hl : bs.length = r * n) : rowB r bs = bts r n bs ++ tl2 := by
  unfold rowB
  rw [hl, Nat.mul_div_cancel_left _ hr]
theorem bt_bit {r : Nat} {bs : List Int} (h : Bits bs) (i : Nat) : isB (bt r bs i).1 := by
  show isB (bs.getD (i * r) 0)
  rw [List.getD_eq_getElem?_getD]
  cases e : bs[i * r]? with
  | none => exact .inl rfl
  | some z => exact h z (List.mem_of_getElem? e)
def BitsB (bs : List Bt) : Prop := ∀ b ∈ bs, isB b.1
theorem bts_bits {r N : Nat} {bs : List Int} (h : Bits bs) : BitsB (bts r N bs) := fun b hb => by
  obtain ⟨i, _, rfl⟩ := List.mem_map.mp hb
  exact bt_bit h i
theorem rowB_bits {r : Nat} {bs : List Int} (h : Bits bs) : BitsB (rowB r bs) := fun b hb => by
  rcases List.mem_append.mp hb with hb | hb
  · exact bts_bits h b hb
  · rcases List.mem_cons.mp hb with rfl | hb
    · exact .inl rfl
    · rw [List.mem_singleton.mp hb]
      exact .inl rfl
theorem stB_st {s : Int} : ∀ {bs : List Bt}, St4 s → BitsB bs → St4 (stB s bs)
  | [], h, _ => h
  | b :: r, h, hb => stB_st (bs := r) (mv_st (hb b (.head _))) (fun x hx => hb x (.tail _ hx))
theorem st4_0 : St4 0 := ⟨by decide, by decide⟩
theorem cut_mid (xs : List V) (i j : Nat) (h : i ≤ j) : cutV xs (some (i : Int)) (some (j : Int)) = (xs.drop i).take (j - i) := by
  unfold cutV
  rw [HT.sIx_nat, HT.sIx_nat]
  by_cases h1 : i ≤ xs.length
  · rw [Nat.min_eq_left h1]
    by_cases h2 : j ≤ xs.length
    · rw [Nat.min_eq_left h2]
    · rw [Nat.min_eq_right (by omega), List.take_of_length_le (by rw [List.length_drop]; exact Nat.le_refl _), List.take_of_length_le (by rw [List.length_drop]; omega)]
  · rw [Nat.min_eq_right (show xs.length ≤ i by omega), Nat.min_eq_right (show xs.length ≤ j by omega), List.drop_of_length_le (Nat.le_refl _), List.drop_of_length_le (show xs.length ≤ i by omega), List.take_nil, List.take_nil]
theorem fits {i : Int} (h0 : 0 ≤ i) (h1 : i ≤ 20000) : Builtin.Range.rangeFitsLong i = true := by
  unfold Builtin.Range.rangeFitsLong
  rw [Bool.and_eq_true]
  exact ⟨decide_eq_true (by omega), decide_eq_true (by omega)⟩
theorem small_c {l c : Int} (hs : Builtin.Range.rangeSize 0 l c = (if 0 < l then (l - 0 - 1) / c + 1 else 0)) (h0 : 0 ≤ l) (h1 : l ≤ 10000) (c0 : 0 < c) (c1 : c ≤ 100) : Builtin.Range.small 0 l c = true := by
  have b0 : 0 ≤ Builtin.Range.rangeSize 0 l c ∧ Builtin.Range.rangeSize 0 l c ≤ 10001 := by
    rw [hs]
    split
    · have h2 : 0 ≤ (l - 0 - 1) / c := Int.ediv_nonneg (by omega) (by omega)
      have h3 : (l - 0 - 1) / c ≤ l - 0 - 1 := Int.ediv_le_self _ (by omega)
      omega
    · omega
  unfold Builtin.Range.small
  rw [fits (i := 0) (by decide) (by decide), fits h0 (by omega), fits (i := c) (by omega) (by omega), fits b0.1 (by omega), if_pos c0, fits (i := l + (c - 1)) (by omega) (by omega), Bool.or_true]
  rfl
theorem rgc_pos {r : Int} {n : Nat} (ok : okR r) (hn : (n : Int) * r ≤ 10000) : RgC 0 ((n : Int) * r) r n := by
  obtain ⟨r1, r4⟩ := id ok
  have hs : Builtin.Range.rangeSize 0 ((n : Int) * r) r = (if 0 < (n : Int) * r then ((n : Int) * r - 0 - 1) / r + 1 else 0) := by
    rcases okR_cases ok with rfl | rfl | rfl | rfl <;> rfl
  refine ⟨by omega, by omega, small_c hs (Int.mul_nonneg (by omega) (by omega)) hn (by omega) (by omega), ?_⟩
  rw [hs]
  rcases okR_cases ok with rfl | rfl | rfl | rfl <;> split <;> omega
/-! ### tuples and beats in the heap -/
def TupsAt (H : Hp) : List Addr → List (List Int) → Prop
  | [], [] => True
  | p :: ps, t :: ts => H p = some (.tup (t.map V.int)) ∧ TupsAt H ps ts
  | _, _ => False
theorem TupsAt.loc {H H' : Hp} (k : ∀ a xs, H a = some (.tup xs) → H' a = some (.tup xs)) : ∀ {ps : List Addr} {ts : List (List Int)}, TupsAt H ps ts → TupsAt H' ps ts
  | [], [], _ => trivial
  | p :: ps, t :: ts, h => ⟨k p _ h.1, TupsAt.loc k h.2⟩
theorem TupsAt.dp {H : Hp} : ∀ {ps : List Addr} {ts : List (List Int)}, TupsAt H ps ts → DpAll K H (ps.map V.ref) (ts.map tupD)
  | [], [], _ => .nil
  | p :: ps, t :: ts, h => .cons (dp_tup (SqT.of h.1)) (TupsAt.dp h.2)
theorem TupsAt.len {H : Hp} : ∀ {ps : List Addr} {ts : List (List Int)}, TupsAt H ps ts → ps.length = ts.length
  | [], [], _ => rfl
  | p :: ps, t :: ts, h => congrArg (· + 1) (TupsAt.len h.2)
theorem TupsAt.snoc {H : Hp} {p : Addr} {t : List Int} (e : H p = some (.tup (t.map V.int))) : ∀ {ps : List Addr} {ts : List (List Int)}, TupsAt H ps ts → TupsAt H (ps ++ [p]) (ts ++ [t])
  | [], [], _ => ⟨e, trivial⟩
  | q :: ps, s :: ts, h => ⟨h.1, TupsAt.snoc e h.2⟩
theorem TupsAt.at {H : Hp} : ∀ {ps : List Addr} {ts : List (List Int)} {i : Nat} {t : List Int}, TupsAt H ps ts → ts[i]? = some t → ∃ p, ps[i]? = some p ∧ H p = some (.tup (t.map V.int))
  | [], [], _, _, _, e => by simp at e
  | q :: ps, s :: ts, 0, t, h, e => by cases e; exact ⟨q, rfl, h.1⟩
  | q :: ps, s :: ts, i + 1, t, h, e => TupsAt.at (i := i) h.2 e
def BeatAt (H : Hp) (q : Addr) (ts : List (List Int)) : Prop := ∃ ps : List Addr, H q = some (.lst (ps.map V.ref)) ∧ TupsAt H ps ts
theorem BeatAt.same {H H' : Hp} {q : Addr} {ts : List (List Int)} (s : Same H H') (h : BeatAt H q ts) : BeatAt H' q ts := by
  obtain ⟨ps, h1, h2⟩ := h
  exact ⟨ps, s _ _ h1, TupsAt.loc (fun a xs e => s a _ e) h2⟩
/-- another list is written -/
theorem BeatAt.mut {H : Hp} {q D : Addr} {ts : List (List Int)} {xs ys : List V} (hD : H D = some (.lst xs)) (n : q ≠ D) (h : BeatAt H q ts) : BeatAt (upd H D (.lst ys)) q ts := by
  obtain ⟨ps, h1, h2⟩ := h
  refine ⟨ps, by rw [upd_ne n]; exact h1, TupsAt.loc (fun a zs e => ?_) h2⟩
  rw [upd_ne (fun z => by rw [z, hD] at e; cases e)]
  exact e
theorem tups_mut {H : Hp} {D : Addr} {ps : List Addr} {ts : List (List Int)} {xs ys : List V} (hD : H D = some (.lst xs)) (h : TupsAt H ps ts) : TupsAt (upd H D (.lst ys)) ps ts := TupsAt.loc (fun a zs e => by
  rw [upd_ne (fun z => by rw [z, hD] at e; cases e)]
  exact e) h
def BeatsAt (H : Hp) : List Addr → List (List (List Int)) → Prop
  | [], [] => True
  | q :: qs, b :: bs => BeatAt H q b ∧ BeatsAt H qs bs
  | _, _ => False
theorem BeatsAt.same {H H' : Hp} (s : Same H H') : ∀ {qs : List Addr} {bs : List (List (List Int))}, BeatsAt H qs bs → BeatsAt H' qs bs
  | [], [], _ => trivial
  | q :: qs, b :: bs, h => ⟨h.1.same s, BeatsAt.same s h.2⟩
theorem BeatsAt.mut {H : Hp} {D : Addr} {xs ys : List V} (hD : H D = some (.lst xs)) : ∀ {qs : List Addr} {bs : List (List (List Int))}, D ∉ qs → BeatsAt H qs bs → BeatsAt (upd H D (.lst ys)) qs bs
  | [], [], _, _ => trivial
  | q :: qs, b :: bs, n, h => ⟨h.1.mut hD (fun z => n (z ▸ .head _)), BeatsAt.mut hD (fun z => n (.tail _ z)) h.2⟩
theorem BeatsAt.snoc {H : Hp} {q : Addr} {b : List (List Int)} (e : BeatAt H q b) : ∀ {qs : List Addr} {bs : List (List (List Int))}, BeatsAt H qs bs → BeatsAt H (qs ++ [q]) (bs ++ [b])
  | [], [], _ => ⟨e, trivial⟩
  | _ :: qs, _ :: bs, h => ⟨h.1, BeatsAt.snoc e h.2⟩
theorem BeatsAt.len {H : Hp} : ∀ {qs : List Addr} {bs : List (List (List Int))}, BeatsAt H qs bs → qs.length = bs.length
  | [], [], _ => rfl
  | _ :: qs, _ :: bs, h => congrArg (· + 1) (BeatsAt.len h.2)
theorem BeatsAt.rev {H : Hp} : ∀ {qs : List Addr} {bs : List (List (List Int))}, BeatsAt H qs bs → BeatsAt H qs.reverse bs.reverse
  | [], [], _ => trivial
  | q :: qs, b :: bs, h => by
    rw [List.reverse_cons, List.reverse_cons]
    exact BeatsAt.snoc h.1 (BeatsAt.rev h.2)
theorem BeatsAt.at {H : Hp} : ∀ {qs : List Addr} {bs : List (List (List Int))} {i : Nat} {q : Addr}, BeatsAt H qs bs → qs[i]? = some q → ∃ b, bs[i]? = some b ∧ BeatAt H q b
  | [], [], _, _, _, e => by simp at e
  | _ :: qs, b :: bs, 0, q, h, e => by cases e; exact ⟨b, rfl, h.1⟩
  | _ :: qs, b :: bs, i + 1, q, h, e => BeatsAt.at (i := i) h.2 e
/-! ### the nearest point of a class -/
def ncl (x low r : Int) : List Int :=
  minT [((x - pointI low r) % 256 % (4 * stepI r)) ^ 2, (x - pointI low r) % 256 / (4 * stepI r)] [[(4 * stepI r - (x - pointI low r) % 256 % (4 * stepI r)) ^ 2, ((x - pointI low r) % 256 / (4 * stepI r) + 1) % (256 / (4 * stepI r))]]
def way (x : Int) (cs : List Int) (r s f : Int) : List Int := [(ncl x (clS s f) r).getD 0 0 + cs.getD (mvS s f).toNat 0, f, (ncl x (clS s f) r).getD 1 0]
def bestT (x : Int) (cs : List Int) (r s : Int) : List Int := minT (way x cs r s 0) [way x cs r s 1]
def bestR (x : Int) (cs : List Int) (r : Int) : List (List Int) := (List.range 4).map fun s => bestT x cs r (s : Nat)
def sqA (h n r : Int) : Int := apartI h (pointI n r) ^ 2
def tailC (r : Int) : List Int → List Int
  | [] => [0, 0, 0, 0]
  | h :: hs => (List.range 4).map fun s => sqA h (clS (s : Nat) 0) r + (tailC r hs).getD (mvS (s : Nat) 0).toNat 0
def costsOf (b : List (List Int)) : List Int := b.map fun t => t.getD 0 0
def dpC (r : Int) (tc : List Int) : List Int → List Int
  | [] => tc
  | h :: hs => costsOf (bestR h (dpC r tc hs) r)
def dpB (r : Int) (tc : List Int) : List Int → List (List (List Int))
  | [] => []
  | h :: hs => bestR h (dpC r tc hs) r :: dpB r tc hs
def along (r : Nat) : Int → List (List (List Int)) → List Int
  | _, [] => []
  | s, b :: bs => (b.getD s.toNat []).getD 1 0 :: (wr (r - 1) ((b.getD s.toNat []).getD 2 0) ++ along r (mvS s ((b.getD s.toNat []).getD 1 0)) bs)
def hpRow (r : Nat) (hs : List Int) : List Int := along r 0 (dpB (r : Int) (tailC (r : Int) (hs.drop (hs.length - 2))) (hs.take (hs.length - 2)))
def hpCost (r : Nat) (hs : List Int) : Int := (dpC (r : Int) (tailC (r : Int) (hs.drop (hs.length - 2))) (hs.take (hs.length - 2))).getD 0 0
theorem min2 (x y : List Int) : minT x [y] = x ∨ minT x [y] = y := by
  show (if lexB y x = true then y else x) = x ∨ (if lexB y x = true then y else x) = y
  split
  · exact .inr rfl
  · exact .inl rfl
theorem ncl_two (x low r : Int) : ∃ c m, ncl x low r = [c, m] := by
  unfold ncl
  rcases min2 [((x - pointI low r) % 256 % (4 * stepI r)) ^ 2, (x - pointI low r) % 256 / (4 * stepI r)] [(4 * stepI r - (x - pointI low r) % 256 % (4 * stepI r)) ^ 2, ((x - pointI low r) % 256 / (4 * stepI r) + 1) % (256 / (4 * stepI r))] with h | h
  · exact ⟨_, _, h⟩
  · exact ⟨_, _, h⟩
theorem ncl_m {x low r : Int} (ok : okR r) : 0 ≤ (ncl x low r).getD 1 0 ∧ (ncl x low r).getD 1 0 < 2 ^ (r - 1).toNat := by
  unfold ncl
  rcases min2 [((x - pointI low r) % 256 % (4 * stepI r)) ^ 2, (x - pointI low r) % 256 / (4 * stepI r)] [(4 * stepI r - (x - pointI low r) % 256 % (4 * stepI r)) ^ 2, ((x - pointI low r) % 256 / (4 * stepI r) + 1) % (256 / (4 * stepI r))] with h | h
  · rw [h]
    show 0 ≤ (x - pointI low r) % 256 / (4 * stepI r) ∧ (x - pointI low r) % 256 / (4 * stepI r) < _
    generalize x - pointI low r = y
    rcases pts_step ok with ⟨rfl, _, e⟩ | ⟨rfl, _, e⟩ | ⟨rfl, _, e⟩ | ⟨rfl, _, e⟩ <;> rw [e] <;> simp <;> omega
  · rw [h]
    show 0 ≤ ((x - pointI low r) % 256 / (4 * stepI r) + 1) % (256 / (4 * stepI r)) ∧ ((x - pointI low r) % 256 / (4 * stepI r) + 1) % (256 / (4 * stepI r)) < _
    generalize x - pointI low r = y
    rcases pts_step ok with ⟨rfl, _, e⟩ | ⟨rfl, _, e⟩ | ⟨rfl, _, e⟩ | ⟨rfl, _, e⟩ <;> rw [e] <;> simp <;> omega
theorem best_three (x : Int) (cs : List Int) (r s : Int) : bestT x cs r s = way x cs r s 0 ∨ bestT x cs r s = way x cs r s 1 := min2 _ _
theorem bestR_at {x : Int} {cs : List Int} {r : Int} {s : Nat} (h : s < 4) : (bestR x cs r)[s]? = some (bestT x cs r (s : Nat)) := by
  unfold bestR
  rw [List.getElem?_map, List.getElem?_range h]
  rfl
theorem bestR_len (x : Int) (cs : List Int) (r : Int) : (bestR x cs r).length = 4 := by
  unfold bestR
  rw [List.length_map, List.length_range]
theorem dpC_len (r : Int) (tc : List Int) (h : tc.length = 4) : ∀ hs, (dpC r tc hs).length = 4
  | [] => h
  | x :: hs => by
    show (costsOf _).length = 4
    unfold costsOf
    rw [List.length_map, bestR_len]
theorem tailC_len (r : Int) : ∀ hs, (tailC r hs).length = 4
  | [] => rfl
  | x :: hs => by
    show ((List.range 4).map _).length = 4
    rw [List.length_map, List.length_range]
theorem st4_nat {s : Int} (h : St4 s) : ∃ n : Nat, s = (n : Int) ∧ n < 4 := ⟨s.toNat, by have := h.1; omega, by have := h.2; have := h.1; omega⟩
theorem dpB_len (r : Int) (tc : List Int) : ∀ hs, (dpB r tc hs).length = hs.length
  | [] => rfl
  | h :: hs => congrArg (· + 1) (dpB_len r tc hs)
theorem sc_check_rate : FnScope ["rate"] ["rate"] (defScope s_check_rate) := ⟨rfl, rfl, rfl, by decide +kernel, rfl, by decide +kernel, by decide +kernel⟩
theorem ok_check_rate {f cR a_RATES : Addr} {fd : FuncData} {k : Nat} (F : Fun K "check_rate" "check_rate" s_check_rate f fd) (g_RATES : mg "RATES" = some (.ref a_RATES)) (h_RATES : ∀ H, SqT K H a_RATES [.int 1, .int 2, .int 3, .int 4]) (x_BadRate : XcOk P w K mg base k "BadRate" cR (spIni0 K cR "BadRate")) : FnOk P w K mg base (L2.CX P w) (k + 2) f fd ["rate"] (spCR cR) := by
  have sc := sc_check_rate
  refine F.okX sc (fun vs H Q E h => ?_) (fun cdv A outer s H vs Q E hr h => ?_)
  · obtain ⟨r, rfl, _⟩ := h
    rfl
  · obtain ⟨r, rfl, q, qe⟩ := h
    refine ⟨_, (pss_one (ps_if (pt_cmpR (op_notInK K rfl) (pv 0) (pe_glob (v := .ref a_RATES) (by rfl) g_RATES rfl) (by rfl))
  (pss_one (ps_raise rfl (takes_of rfl rfl rfl rfl) (pmk_c0 x_BadRate hr (by rfl))))
  pss_nil)), ?_⟩
    refine ⟨_, rfl, a_RATES, _, rfl, .inr (h_RATES H), rfl, rfl, _, rfl, ite2 (fun e => ?_) (fun e => ?_)⟩
    · have e : (!inV (.int r) [.int 1, .int 2, .int 3, .int 4]) = true := e
      rw [rate_in] at e
      have nr : ¬ okR r := fun z => by rw [decide_eq_true z] at e; cases e
      exact mk_inner0 (fun H3 d s3 nd ed => qe nr H3 d s3 nd ed)
    · have e : ¬ (!inV (.int r) [.int 1, .int 2, .int 3, .int 4]) = true := e
      rw [rate_in] at e
      exact q (by
        by_cases z : okR r
        · exact z
        · rw [decide_eq_false z] at e
          exact absurd rfl e)
theorem rep1 (d : Int) : ∀ m : Nat, (List.replicate m [V.int d]).flatten = (List.replicate m d).map V.int
  | 0 => rfl
  | m + 1 => by
    rw [List.replicate_succ, List.flatten_cons, rep1 d m, List.replicate_succ]
    rfl
/-- bits to a number and back -/
theorem bn_acc_lt : ∀ (bs : List Int) (c : Int), Bits bs → 0 ≤ c → 0 ≤ bs.foldl (fun n b => 2 * n + b) c ∧ bs.foldl (fun n b => 2 * n + b) c < (c + 1) * 2 ^ bs.length
  | [], c, _, hc => by
    show 0 ≤ c ∧ c < (c + 1) * 1
    omega
  | b :: r, c, h, hc => by
    have hb := (bits_cons h).1
    have ih := bn_acc_lt r (2 * c + b) (bits_cons h).2 (by rcases hb with rfl | rfl <;> omega)
    refine ⟨ih.1, Int.lt_of_lt_of_le ih.2 ?_⟩
    rw [List.length_cons, Int.pow_succ, Int.mul_comm (2 ^ r.length) 2, ← Int.mul_assoc]
    exact Int.mul_le_mul_of_nonneg_right (by rcases hb with rfl | rfl <;> omega) (Int.pow_nonneg (by decide))
theorem bn_lt {bs : List Int} (h : Bits bs) : 0 ≤ bn bs ∧ bn bs < 2 ^ bs.length := by
  have := bn_acc_lt bs 0 h (Int.le_refl _)
  unfold bn
  omega
theorem bn_cons (b : Int) (r : List Int) : ∀ c : Int, r.foldl (fun n b => 2 * n + b) c = c * 2 ^ r.length + bn r := by
  induction r with
  | nil => intro c; show c = c * 1 + 0; omega
  | cons x r ih =>
    intro c
    show r.foldl _ (2 * c + x) = c * 2 ^ (r.length + 1) + r.foldl _ (2 * 0 + x)
    rw [ih, ih (2 * 0 + x), Int.pow_succ, Int.add_mul, Int.add_mul, Int.mul_comm 2 c, Int.mul_assoc, Int.mul_comm 2 (2 ^ r.length)]
    omega
theorem wr_bn : ∀ (bs : List Int), Bits bs → ∀ c : Int, wr bs.length (c * 2 ^ bs.length + bn bs) = bs
  | [], _, _ => rfl
  | b :: r, h, c => by
    have hb := (bits_cons h).1
    have hl := bn_lt (bits_cons h).2
    have e : bn (b :: r) = b * 2 ^ r.length + bn r := by
      show r.foldl _ (2 * 0 + b) = _
      rw [bn_cons b r]
      congr 1
      congr 1
      omega
    have e2 : c * 2 ^ (b :: r).length + bn (b :: r) = (2 * c + b) * 2 ^ r.length + bn r := by
      rw [e, List.length_cons, Int.pow_succ, Int.add_mul, Int.mul_comm 2 c, Int.mul_assoc, Int.mul_comm 2 (2 ^ r.length)]
      omega
    rw [e2]
    show ((2 * c + b) * 2 ^ r.length + bn r) / 2 ^ r.length % 2 :: wr r.length _ = _
    rw [wr_bn r (bits_cons h).2]
    congr 1
    have hp : (0 : Int) < 2 ^ r.length := Int.pow_pos (by decide)
    rw [Int.add_comm, Int.add_mul_ediv_right _ _ (by omega), Int.ediv_eq_zero_of_lt hl.1 hl.2]
    rcases hb with rfl | rfl <;> omega
/-! ### squares -/
theorem sq_nn (a : Int) : 0 ≤ a ^ 2 := by
  rw [Int.pow_succ, Int.pow_succ, Int.pow_zero, Int.one_mul]
  rcases Int.le_total 0 a with h | h
  · exact Int.mul_nonneg h h
  · exact Int.mul_nonneg_of_nonpos_of_nonpos h h
theorem sq_mul (a : Int) : a ^ 2 = a * a := by rw [Int.pow_succ, Int.pow_succ, Int.pow_zero, Int.one_mul]
theorem sq_le {a b : Int} (h0 : 0 ≤ a) (h : a ≤ b) : a ^ 2 ≤ b ^ 2 := by
  rw [sq_mul, sq_mul]
  exact Int.mul_le_mul h h h0 (by omega)
theorem sq_lt {a b : Int} (h0 : 0 ≤ a) (h : a < b) : a ^ 2 < b ^ 2 := by
  rw [sq_mul, sq_mul]
  exact Int.lt_of_le_of_lt (Int.mul_le_mul_of_nonneg_left (by omega) h0) (Int.mul_lt_mul_of_pos_right h (by omega))
theorem sq_inj {a b : Int} (ha : 0 ≤ a) (hb : 0 ≤ b) (h : a ^ 2 = b ^ 2) : a = b := by
  rcases Int.lt_trichotomy a b with z | z | z
  · have := sq_lt ha z
    omega
  · exact z
  · have := sq_lt hb z
    omega
theorem sq_lt_inv {a b : Int} (hb : 0 ≤ b) (h : a ^ 2 < b ^ 2) : a < b := by
  rcases Int.lt_or_le a b with z | z
  · exact z
  · have := sq_le hb z
    omega
/-! ### the nearest point of a class is the nearest one -/
/-- the parts of the beat: how far past the last point of the class -/
theorem ncl_lin {x low r : Int} (ok : okR r) : ∃ (m e : Int), 0 ≤ m ∧ m < 2 ^ (r - 1).toNat ∧ ncl x low r = [e ^ 2, m] ∧ e = apartI x (pointI (4 * m + low) r) ∧
    ∀ m' : Int, 0 ≤ m' → m' < 2 ^ (r - 1).toNat → e < apartI x (pointI (4 * m' + low) r) ∨ (e = apartI x (pointI (4 * m' + low) r) ∧ m ≤ m') := by
  have hp : ∀ m' : Int, apartI x (pointI (4 * m' + low) r) = apartI (x - pointI low r) (4 * stepI r * m') := by
    intro m'
    unfold apartI
    have e : x - pointI (4 * m' + low) r = x - pointI low r - 4 * stepI r * m' := by
      unfold pointI
      rw [Int.add_mul, Int.mul_assoc 4 m' (stepI r), Int.mul_assoc 4 (stepI r) m', Int.mul_comm m' (stepI r)]
      omega
    rw [e]
  have key : ∃ (m e : Int), 0 ≤ m ∧ m < 2 ^ (r - 1).toNat ∧ ncl x low r = [e ^ 2, m] ∧ e = apartI (x - pointI low r) (4 * stepI r * m) ∧
    ∀ m' : Int, 0 ≤ m' → m' < 2 ^ (r - 1).toNat → e < apartI (x - pointI low r) (4 * stepI r * m') ∨ (e = apartI (x - pointI low r) (4 * stepI r * m') ∧ m ≤ m') := by
    unfold ncl
    generalize x - pointI low r = y
    have hmin : ∀ a b p q : Int, 0 ≤ a → 0 ≤ b → minT [a ^ 2, p] [[b ^ 2, q]] = if b < a ∨ (b = a ∧ q < p) then [b ^ 2, q] else [a ^ 2, p] := by
      intro a b p q ha hb
      show (if lexB [b ^ 2, q] [a ^ 2, p] = true then [b ^ 2, q] else [a ^ 2, p]) = _
      have hl : lexB [b ^ 2, q] [a ^ 2, p] = decide (b < a ∨ (b = a ∧ q < p)) := by
        show (if b ^ 2 = a ^ 2 then (if q = p then false else decide (q < p)) else decide (b ^ 2 < a ^ 2)) = _
        by_cases e : b = a
        · subst e
          rw [if_pos rfl]
          by_cases e2 : q = p
          · subst e2
            rw [if_pos rfl]
            exact (decide_eq_false (by omega)).symm
          · rw [if_neg e2]
            exact decide_eq_decide.mpr ⟨fun h => .inr ⟨rfl, h⟩, fun h => by omega⟩
        · rw [if_neg (fun h => e (sq_inj hb ha h))]
          exact decide_eq_decide.mpr ⟨fun h => .inl (sq_lt_inv ha h), fun h => sq_lt hb (by omega)⟩
      rw [hl]
      by_cases h : b < a ∨ (b = a ∧ q < p)
      · rw [if_pos h, if_pos (decide_eq_true h)]
      · rw [if_neg h, if_neg (fun z => h (of_decide_eq_true z))]
    rcases pts_step ok with ⟨rfl, _, e⟩ | ⟨rfl, _, e⟩ | ⟨rfl, _, e⟩ | ⟨rfl, _, e⟩ <;> rw [e] <;> rw [hmin _ _ _ _ (by omega) (by omega)] <;> split
    all_goals first
      | refine ⟨_, _, ?_, ?_, rfl, ?_, fun m' h0 h1 => ?_⟩
    all_goals simp only [apartI, fold] at *
    all_goals simp at *
    all_goals (try split)
    all_goals (try split)
    all_goals omega
  obtain ⟨m, e, h1, h2, h3, h4, h5⟩ := key
  refine ⟨m, e, h1, h2, h3, by rw [hp]; exact h4, fun m' a b => ?_⟩
  rw [hp]
  exact h5 m' a b
/-! ### rows of beats, and the rows of their bits -/
def GoodBs (r : Nat) (bs : List Bt) : Prop := ∀ b ∈ bs, isB b.1 ∧ 0 ≤ b.2 ∧ b.2 < 2 ^ (r - 1)
def flatB (r : Nat) : List Bt → List Int
  | [] => []
  | b :: bs => b.1 :: (wr (r - 1) b.2 ++ flatB r bs)
theorem flatB_len {r : Nat} (hr : 0 < r) : ∀ bs : List Bt, (flatB r bs).length = r * bs.length
  | [] => by rw [List.length_nil, Nat.mul_zero]; rfl
  | b :: bs => by
    show (_ :: (wr (r - 1) _ ++ flatB r bs)).length = _
    rw [List.length_cons, List.length_append, wr_len, flatB_len hr bs, List.length_cons, Nat.mul_add]
    omega
theorem flatB_bits {r : Nat} : ∀ {bs : List Bt}, GoodBs r bs → Bits (flatB r bs)
  | [], _ => fun z h => nomatch h
  | b :: bs, h => fun z hz => by
    rcases List.mem_cons.mp hz with rfl | hz
    · exact (h b (.head _)).1
    rcases List.mem_append.mp hz with hz | hz
    · exact wr_bits _ _ z hz
    · exact flatB_bits (bs := bs) (fun c hc => h c (.tail _ hc)) z hz
theorem bts_succ (r n : Nat) (row : List Int) : bts r (n + 1) row = bt r row 0 :: bts r n (row.drop r) := by
  unfold bts
  rw [List.range_succ_eq_map, List.map_cons, List.map_map]
  congr 1
  refine List.map_congr_left fun i _ => ?_
  show bt r row (i + 1) = bt r (row.drop r) i
  unfold bt
  rw [List.getD_eq_getElem?_getD, List.getD_eq_getElem?_getD, List.getElem?_drop, List.drop_drop, Nat.add_mul, Nat.one_mul, Nat.add_comm (i * r) r]
  congr 4
theorem bts_flat {r : Nat} (hr : 0 < r) : ∀ {bs : List Bt}, GoodBs r bs → bts r bs.length (flatB r bs) = bs
  | [], _ => rfl
  | b :: bs, h => by
    have hd : (flatB r (b :: bs)).drop r = flatB r bs := by
      show (b.1 :: (wr (r - 1) b.2 ++ flatB r bs)).drop r = _
      obtain ⟨k, rfl⟩ : ∃ k, r = k + 1 := ⟨r - 1, by omega⟩
      rw [List.drop_succ_cons]
      show (wr k b.2 ++ _).drop k = _
      rw [List.drop_left' (wr_len k b.2)]
    have hb : bt r (flatB r (b :: bs)) 0 = b := by
      unfold bt
      rw [Nat.zero_mul]
      show (b.1, bn ((wr (r - 1) b.2 ++ flatB r bs).take (r - 1))) = b
      rw [List.take_left' (wr_len _ _), bn_wr (h b (.head _)).2.1 (h b (.head _)).2.2]
    rw [List.length_cons, bts_succ, hd, hb, bts_flat hr (fun c hc => h c (.tail _ hc))]
theorem flat_bts {r : Nat} (hr : 0 < r) : ∀ (n : Nat) {row : List Int}, Bits row → row.length = r * n → flatB r (bts r n row) = row
  | 0, row, _, hl => by
    rw [Nat.mul_zero] at hl
    rw [List.length_eq_zero_iff.mp hl]
    rfl
  | n + 1, row, hB, hl => by
    rw [bts_succ]
    show row.getD (0 * r) 0 :: (wr (r - 1) (bn ((row.drop (0 * r + 1)).take (r - 1))) ++ flatB r (bts r n (row.drop r))) = row
    rw [flat_bts hr n (fun z hz => hB z (List.mem_of_mem_drop hz)) (by rw [List.length_drop, hl, Nat.mul_add]; omega), Nat.zero_mul, Nat.zero_add]
    cases row with
    | nil => rw [Nat.mul_add] at hl; simp at hl; omega
    | cons a rest =>
      obtain ⟨k, rfl⟩ : ∃ k, r = k + 1 := ⟨r - 1, by omega⟩
      show a :: (wr k (bn ((rest.drop 0).take k)) ++ rest.drop k) = _
      rw [List.drop_zero]
      congr 1
      have hk : (rest.take k).length = k := by
        rw [List.length_take]
        have : k + 1 ≤ (a :: rest).length := by rw [hl, Nat.mul_add]; omega
        rw [List.length_cons] at this
        omega
      have := wr_bn (rest.take k) (fun z hz => hB z (.tail _ (List.mem_of_mem_take hz))) 0
      rw [hk, Int.zero_mul, Int.zero_add] at this
      rw [this, List.take_append_drop]
theorem bts_good {r n : Nat} {row : List Int} (hr : 0 < r) (hB : Bits row) : GoodBs r (bts r n row) := fun b hb => by
  obtain ⟨i, _, rfl⟩ := List.mem_map.mp hb
  refine ⟨bt_bit hB i, ?_⟩
  have h := bn_lt (bs := (row.drop (i * r + 1)).take (r - 1)) (fun z hz => hB z (List.mem_of_mem_drop (List.mem_of_mem_take hz)))
  refine ⟨h.1, Int.lt_of_lt_of_le h.2 ?_⟩
  have hl : ((row.drop (i * r + 1)).take (r - 1)).length ≤ r - 1 := by rw [List.length_take]; omega
  have := Nat.pow_le_pow_right (n := 2) (by decide) hl
  have e : ∀ k : Nat, ((2 ^ k : Nat) : Int) = (2 : Int) ^ k := fun k => Int.natCast_pow 2 k
  rw [← e, ← e]
  exact_mod_cast this
/-! ### the order of rows -/
theorem lex_irr : ∀ xs, lexB xs xs = false
  | [] => rfl
  | x :: xs => by
    show (if x = x then lexB xs xs else _) = false
    rw [if_pos rfl]
    exact lex_irr xs
theorem lex_asym : ∀ xs ys, lexB xs ys = true → lexB ys xs = false
  | [], [], _ => rfl
  | [], _ :: _, _ => rfl
  | _ :: _, [], h => nomatch h
  | x :: xs, y :: ys, h => by
    have h : (if x = y then lexB xs ys else decide (x < y)) = true := h
    show (if y = x then lexB ys xs else decide (y < x)) = false
    by_cases e : x = y
    · rw [if_pos e] at h
      rw [if_pos e.symm]
      exact lex_asym xs ys h
    · rw [if_neg e] at h
      have := of_decide_eq_true h
      rw [if_neg (fun z => e z.symm)]
      exact decide_eq_false (by omega)
theorem lex_pre : ∀ (as xs ys : List Int), lexB (as ++ xs) (as ++ ys) = lexB xs ys
  | [], _, _ => rfl
  | a :: as, xs, ys => by
    show (if a = a then lexB (as ++ xs) (as ++ ys) else _) = _
    rw [if_pos rfl]
    exact lex_pre as xs ys
theorem lex_app : ∀ {as bs : List Int} (xs ys : List Int), as.length = bs.length → lexB as bs = true → lexB (as ++ xs) (bs ++ ys) = true
  | [], [], _, _, _, h => nomatch h
  | [], _ :: _, _, _, h, _ => nomatch h
  | _ :: _, [], _, _, h, _ => nomatch h
  | a :: as, b :: bs, xs, ys, hl, h => by
    have h : (if a = b then lexB as bs else decide (a < b)) = true := h
    show (if a = b then lexB (as ++ xs) (bs ++ ys) else decide (a < b)) = true
    by_cases e : a = b
    · rw [if_pos e] at h ⊢
      exact lex_app xs ys (Nat.succ.inj hl) h
    · rw [if_neg e] at h ⊢
      exact h
theorem wr_lex {r : Nat} {a b : Int} (ok : okR (r : Int)) (a0 : 0 ≤ a) (b1 : b < 2 ^ (r - 1)) (h : a < b) : lexB (wr (r - 1) a) (wr (r - 1) b) = true := by
  obtain ⟨r1, r4⟩ := id ok
  have hd : ∀ n : Nat, n < 4 → ∀ x : Nat, x < 8 → ∀ y : Nat, y < 8 → y < 2 ^ n → x < y → lexB (wr n (x : Int)) (wr n (y : Int)) = true := by decide +kernel
  have hy : b.toNat < 2 ^ (r - 1) := by
    have e : ((2 ^ (r - 1) : Nat) : Int) = (2 : Int) ^ (r - 1) := Int.natCast_pow 2 (r - 1)
    rw [← e] at b1
    omega
  have h8 : 2 ^ (r - 1) ≤ 8 := by
    have : r - 1 ≤ 3 := by omega
    exact Nat.pow_le_pow_right (n := 2) (by decide) this
  have := hd (r - 1) (by omega) a.toNat (by omega) b.toNat (by omega) hy (by omega)
  rwa [Int.toNat_of_nonneg a0, Int.toNat_of_nonneg (by omega)] at this
/-! ### the best way is the best one -/
/-- what a row of beats costs, from a state on -/
def costT (r : Int) (tc : List Int) : Int → List Int → List Bt → Int
  | s, h :: hs, b :: bs => sqA h (4 * b.2 + clS s b.1) r + costT r tc (mvS s b.1) hs bs
  | s, _, _ => tc.getD s.toNat 0
def alB : Int → List (List (List Int)) → List Bt
  | _, [] => []
  | s, b :: bs => ((b.getD s.toNat []).getD 1 0, (b.getD s.toNat []).getD 2 0) :: alB (mvS s ((b.getD s.toNat []).getD 1 0)) bs
theorem along_al (r : Nat) : ∀ (bs : List (List (List Int))) (s : Int), along r s bs = flatB r (alB s bs)
  | [], _ => rfl
  | b :: bs, s => by
    show _ :: (wr (r - 1) _ ++ along r _ bs) = _ :: (wr (r - 1) _ ++ flatB r _)
    rw [along_al r bs]
theorem alB_len : ∀ (bs : List (List (List Int))) (s : Int), (alB s bs).length = bs.length
  | [], _ => rfl
  | b :: bs, s => congrArg (· + 1) (alB_len bs _)
theorem best_st {x : Int} {cs : List Int} {r s : Int} (h : St4 s) : (bestR x cs r).getD s.toNat [] = bestT x cs r s := by
  obtain ⟨n, rfl, hn⟩ := st4_nat h
  rw [Int.toNat_natCast, List.getD_eq_getElem?_getD, bestR_at hn]
  rfl
theorem dpC_st {r : Int} {tc : List Int} {h : Int} {hs : List Int} {s : Int} (hst : St4 s) : (dpC r tc (h :: hs)).getD s.toNat 0 = (bestT h (dpC r tc hs) r s).getD 0 0 := by
  obtain ⟨n, rfl, hn⟩ := st4_nat hst
  show (costsOf (bestR h (dpC r tc hs) r)).getD _ 0 = _
  unfold costsOf
  rw [Int.toNat_natCast, List.getD_eq_getElem?_getD, List.getElem?_map, bestR_at hn]
  rfl
/-- the better of both first bits: cost, then bit -/
theorem best_of {x : Int} {cs : List Int} {r s : Int} : ∃ f : Int, isB f ∧ bestT x cs r s = way x cs r s f ∧ ∀ g, isB g → (way x cs r s f).getD 0 0 < (way x cs r s g).getD 0 0 ∨ ((way x cs r s f).getD 0 0 = (way x cs r s g).getD 0 0 ∧ f ≤ g) := by
  have hb : bestT x cs r s = if lexB (way x cs r s 1) (way x cs r s 0) = true then way x cs r s 1 else way x cs r s 0 := rfl
  have hl : lexB (way x cs r s 1) (way x cs r s 0) = decide ((way x cs r s 1).getD 0 0 < (way x cs r s 0).getD 0 0) := by
    show (if (way x cs r s 1).getD 0 0 = (way x cs r s 0).getD 0 0 then (if (1 : Int) = 0 then _ else decide ((1 : Int) < 0)) else decide ((way x cs r s 1).getD 0 0 < (way x cs r s 0).getD 0 0)) = _
    split
    · rw [if_neg (by decide)]
      exact (decide_eq_false (by omega)).symm
    · rfl
  rw [hl] at hb
  by_cases h : (way x cs r s 1).getD 0 0 < (way x cs r s 0).getD 0 0
  · rw [if_pos (decide_eq_true h)] at hb
    refine ⟨1, .inr rfl, hb, fun g hg => ?_⟩
    rcases hg with rfl | rfl
    · exact .inl h
    · exact .inr ⟨rfl, Int.le_refl _⟩
  · rw [if_neg (fun z => h (of_decide_eq_true z))] at hb
    refine ⟨0, .inl rfl, hb, fun g hg => ?_⟩
    rcases hg with rfl | rfl
    · exact .inr ⟨rfl, Int.le_refl _⟩
    · omega
theorem dp_opt {r : Nat} (ok : okR (r : Int)) (tc : List Int) : ∀ (hs : List Int) (s : Int), St4 s →
    GoodBs r (alB s (dpB (r : Int) tc hs)) ∧ costT (r : Int) tc s hs (alB s (dpB (r : Int) tc hs)) = (dpC (r : Int) tc hs).getD s.toNat 0 ∧
    ∀ bs, GoodBs r bs → bs.length = hs.length → (dpC (r : Int) tc hs).getD s.toNat 0 < costT (r : Int) tc s hs bs ∨
      ((dpC (r : Int) tc hs).getD s.toNat 0 = costT (r : Int) tc s hs bs ∧ (bs = alB s (dpB (r : Int) tc hs) ∨ lexB (flatB r (alB s (dpB (r : Int) tc hs))) (flatB r bs) = true))
  | [], s, hst => by
    refine ⟨fun b hb => (nomatch hb), rfl, fun bs hg hl => .inr ⟨?_, .inl (List.length_eq_zero_iff.mp hl)⟩⟩
    rw [List.length_eq_zero_iff.mp hl]
    rfl
  | h :: hs, s, hst => by
    have er : ((r : Int) - 1).toNat = r - 1 := by omega
    obtain ⟨f, hf, eb, hbest⟩ := best_of (x := h) (cs := dpC (r : Int) tc hs) (r := (r : Int)) (s := s)
    obtain ⟨m, e, m0, m1, en, ee, _⟩ := ncl_lin (x := h) (low := clS s f) ok
    rw [er] at m1
    have hB : (bestR h (dpC (r : Int) tc hs) (r : Int)).getD s.toNat [] = way h (dpC (r : Int) tc hs) (r : Int) s f := by rw [best_st hst, eb]
    have hw1 : (way h (dpC (r : Int) tc hs) (r : Int) s f).getD 1 0 = f := rfl
    have hw2 : (way h (dpC (r : Int) tc hs) (r : Int) s f).getD 2 0 = m := by show (ncl h (clS s f) (r : Int)).getD 1 0 = m; rw [en]; rfl
    have hw0 : (way h (dpC (r : Int) tc hs) (r : Int) s f).getD 0 0 = e ^ 2 + (dpC (r : Int) tc hs).getD (mvS s f).toNat 0 := by show (ncl h (clS s f) (r : Int)).getD 0 0 + _ = _; rw [en]; rfl
    have hal : alB s (dpB (r : Int) tc (h :: hs)) = (f, m) :: alB (mvS s f) (dpB (r : Int) tc hs) := by
      show ((_ : Int), (_ : Int)) :: alB _ _ = _
      rw [hB, hw1, hw2]
    have hdc : (dpC (r : Int) tc (h :: hs)).getD s.toNat 0 = e ^ 2 + (dpC (r : Int) tc hs).getD (mvS s f).toNat 0 := by rw [dpC_st hst, eb, hw0]
    obtain ⟨g1, g2, g3⟩ := dp_opt ok tc hs (mvS s f) (mv_st hf)
    rw [hal, hdc]
    refine ⟨fun b hb => ?_, ?_, fun bs hg hl => ?_⟩
    · rcases List.mem_cons.mp hb with rfl | hb
      · exact ⟨hf, m0, m1⟩
      · exact g1 b hb
    · show sqA h (4 * m + clS s f) (r : Int) + costT (r : Int) tc (mvS s f) hs _ = _
      rw [g2]
      unfold sqA
      rw [← ee]
    · obtain ⟨b, bs, rfl⟩ : ∃ b t, bs = b :: t := by
        cases bs with
        | nil => cases hl
        | cons b t => exact ⟨b, t, rfl⟩
      have hl : bs.length = hs.length := Nat.succ.inj hl
      have hb := hg b (.head _)
      have hg' : GoodBs r bs := fun c hc => hg c (.tail _ hc)
      show _ < sqA h (4 * b.2 + clS s b.1) (r : Int) + costT (r : Int) tc (mvS s b.1) hs bs ∨ (_ = sqA h (4 * b.2 + clS s b.1) (r : Int) + costT (r : Int) tc (mvS s b.1) hs bs ∧ _)
      obtain ⟨m', e', m0', m1', en', ee', hn'⟩ := ncl_lin (x := h) (low := clS s b.1) ok
      have hw0' : (way h (dpC (r : Int) tc hs) (r : Int) s b.1).getD 0 0 = e' ^ 2 + (dpC (r : Int) tc hs).getD (mvS s b.1).toNat 0 := by show (ncl h (clS s b.1) (r : Int)).getD 0 0 + _ = _; rw [en']; rfl
      have hc := hbest b.1 hb.1
      rw [hw0, hw0'] at hc
      have hn := hn' b.2 hb.2.1 (by rw [er]; exact hb.2.2)
      have he0 : 0 ≤ e' := by rw [ee']; exact (apart_le _ _).1
      have hsq : e' ^ 2 < sqA h (4 * b.2 + clS s b.1) (r : Int) ∨ (e' ^ 2 = sqA h (4 * b.2 + clS s b.1) (r : Int) ∧ m' ≤ b.2) := by
        unfold sqA
        rcases hn with hn | ⟨hn, hm⟩
        · exact .inl (sq_lt he0 hn)
        · exact .inr ⟨by rw [hn], hm⟩
      obtain ⟨k1, k2, k3⟩ := dp_opt ok tc hs (mvS s b.1) (mv_st hb.1)
      have hk := k3 bs hg' hl
      have hkle : (dpC (r : Int) tc hs).getD (mvS s b.1).toNat 0 ≤ costT (r : Int) tc (mvS s b.1) hs bs := by
        rcases hk with hk | ⟨hk, _⟩
        · omega
        · omega
      by_cases hlt : e ^ 2 + (dpC (r : Int) tc hs).getD (mvS s f).toNat 0 < sqA h (4 * b.2 + clS s b.1) (r : Int) + costT (r : Int) tc (mvS s b.1) hs bs
      · exact .inl hlt
      have hc2 : e ^ 2 + (dpC (r : Int) tc hs).getD (mvS s f).toNat 0 = e' ^ 2 + (dpC (r : Int) tc hs).getD (mvS s b.1).toNat 0 ∧ f ≤ b.1 := by
        rcases hc with hc | hc
        · exfalso
          rcases hsq with z | z <;> omega
        · exact hc
      have hs2 : e' ^ 2 = sqA h (4 * b.2 + clS s b.1) (r : Int) ∧ m' ≤ b.2 := by
        rcases hsq with z | z
        · exfalso
          omega
        · exact z
      have hk2 : (dpC (r : Int) tc hs).getD (mvS s b.1).toNat 0 = costT (r : Int) tc (mvS s b.1) hs bs := by omega
      have hk3 : bs = alB (mvS s b.1) (dpB (r : Int) tc hs) ∨ lexB (flatB r (alB (mvS s b.1) (dpB (r : Int) tc hs))) (flatB r bs) = true := by
        rcases hk with hk | hk
        · exfalso
          omega
        · exact hk.2
      refine .inr ⟨by omega, ?_⟩
      show _ ∨ lexB (f :: (wr (r - 1) m ++ flatB r _)) (b.1 :: (wr (r - 1) b.2 ++ flatB r bs)) = true
      rcases Int.lt_or_eq_of_le hc2.2 with hfb | hfb
      · right
        show (if f = b.1 then _ else decide (f < b.1)) = true
        rw [if_neg (by omega)]
        exact decide_eq_true hfb
      · rw [← hfb] at en' hk3
        have hmm : m' = m := by
          rw [en] at en'
          have h1 := congrArg (fun l : List Int => l.getD 1 0) en'
          exact h1.symm
        rw [hmm] at hs2
        have hlx : ∀ xs ys : List Int, lexB (f :: xs) (b.1 :: ys) = lexB xs ys := fun xs ys => by
          show (if f = b.1 then lexB xs ys else _) = _
          rw [if_pos hfb]
        rw [hlx]
        rcases Int.lt_or_eq_of_le hs2.2 with hmb | hmb
        · right
          exact lex_app _ _ (by rw [wr_len, wr_len]) (wr_lex ok m0 hb.2.2 hmb)
        · rw [← hmb, lex_pre]
          rcases hk3 with z | z
          · left
            rw [z, hfb, hmb]
          · right
            exact z
/-! ### what a row costs -/
def costL (r : Nat) (hs row : List Int) : Int := ((hs.zip (codeL r row)).map fun p => sqA p.1 p.2 (r : Int)).sum
def costZ (r : Int) (s : Int) (hs : List Int) (bs : List Bt) : Int := ((hs.zip (codeB s bs)).map fun p => sqA p.1 p.2 r).sum
theorem costZ_cons (r s h : Int) (hs : List Int) (b : Bt) (bs : List Bt) : costZ r s (h :: hs) (b :: bs) = sqA h (4 * b.2 + clS s b.1) r + costZ r (mvS s b.1) hs bs := by
  show ((_ :: _ : List Int)).sum = _
  rw [List.sum_cons]
  rfl
theorem tail_two (r : Int) (x y s : Int) (h : St4 s) : (tailC r [x, y]).getD s.toNat 0 = costZ r s [x, y] tl2 := by
  rw [show tl2 = [((0 : Int), (0 : Int)), (0, 0)] from rfl, costZ_cons, costZ_cons]
  have h2 : mvS s 0 = 0 ∨ mvS s 0 = 2 := by unfold mvS; omega
  obtain ⟨n, rfl, hn⟩ := st4_nat h
  have e1 : (tailC r [x, y]).getD n 0 = sqA x (clS (n : Int) 0) r + (tailC r [y]).getD (mvS (n : Int) 0).toNat 0 := by
    show ((List.range 4).map fun s => sqA x (clS (s : Nat) 0) r + (tailC r [y]).getD (mvS (s : Nat) 0).toNat 0).getD n 0 = _
    rw [List.getD_eq_getElem?_getD, List.getElem?_map, List.getElem?_range hn]
    rfl
  have e2 : ∀ k : Nat, k < 4 → (tailC r [y]).getD k 0 = sqA y (clS (k : Int) 0) r + 0 := fun k hk => by
    show ((List.range 4).map fun s => sqA y (clS (s : Nat) 0) r + ([0, 0, 0, 0] : List Int).getD (mvS (s : Nat) 0).toNat 0).getD k 0 = _
    rw [List.getD_eq_getElem?_getD, List.getElem?_map, List.getElem?_range hk]
    show sqA y (clS (k : Int) 0) r + ([0, 0, 0, 0] : List Int).getD (mvS (k : Int) 0).toNat 0 = _
    have : ([0, 0, 0, 0] : List Int).getD (mvS (k : Int) 0).toNat 0 = 0 := by
      have : mvS (k : Int) 0 = 0 ∨ mvS (k : Int) 0 = 2 := by unfold mvS; omega
      rcases this with e | e <;> rw [e] <;> rfl
    rw [this]
  rw [Int.toNat_natCast, e1]
  have hm := mv_st (s := (n : Int)) (f := 0) (.inl rfl)
  obtain ⟨k, hk, hk4⟩ := st4_nat hm
  rw [hk, Int.toNat_natCast, e2 k hk4]
  show _ = sqA x (4 * 0 + clS (n : Int) 0) r + (sqA y (4 * 0 + clS (k : Int) 0) r + 0)
  rw [Int.mul_zero, Int.zero_add, Int.zero_add]
theorem cost_split (r : Int) (x y : Int) : ∀ (hs : List Int) (bs : List Bt) (s : Int), St4 s → BitsB bs → bs.length = hs.length → costZ r s (hs ++ [x, y]) (bs ++ tl2) = costT r (tailC r [x, y]) s hs bs
  | [], bs, s, h, _, hl => by
    rw [List.length_eq_zero_iff.mp hl]
    exact (tail_two r x y s h).symm
  | h :: hs, [], _, _, _, hl => nomatch hl
  | h :: hs, b :: bs, s, _, hb, hl => by
    rw [List.cons_append, List.cons_append, costZ_cons, cost_split r x y hs bs _ (mv_st (hb b (.head _))) (fun c hc => hb c (.tail _ hc)) (Nat.succ.inj hl)]
    rfl
theorem two_last {hs : List Int} (h : 2 ≤ hs.length) : ∃ x y, hs.drop (hs.length - 2) = [x, y] ∧ hs = hs.take (hs.length - 2) ++ [x, y] := by
  have hl : (hs.drop (hs.length - 2)).length = 2 := by rw [List.length_drop]; omega
  match e : hs.drop (hs.length - 2), hl with
  | [x, y], _ => exact ⟨x, y, rfl, by rw [← e, List.take_append_drop]⟩
/-- a row, what was heard, and what it costs -/
theorem costL_T {r n : Nat} {hs row : List Int} {x y : Int} (ok : okR (r : Int)) (hB : Bits row) (hl : row.length = r * n) (hn : hs.length = n) : costL r (hs ++ [x, y]) row = costT (r : Int) (tailC (r : Int) [x, y]) 0 hs (bts r n row) := by
  obtain ⟨r1, _⟩ := id ok
  rw [← cost_split (r : Int) x y hs (bts r n row) 0 st4_0 (bts_bits hB) (by rw [bts_len, hn])]
  unfold costL codeL costZ
  rw [rowB_of (by omega) hl]
/-- heard_path's row is the least one of the least cost -/
theorem hp_opt {r : Nat} {hs : List Int} (ok : okR (r : Int)) (h2 : 2 ≤ hs.length) : Bits (hpRow r hs) ∧ (hpRow r hs).length = r * (hs.length - 2) ∧ costL r hs (hpRow r hs) = hpCost r hs ∧
    ∀ row, Bits row → row.length = r * (hs.length - 2) → hpCost r hs < costL r hs row ∨ (hpCost r hs = costL r hs row ∧ (row = hpRow r hs ∨ lexB (hpRow r hs) row = true)) := by
  obtain ⟨r1, _⟩ := id ok
  have hr : 0 < r := by omega
  obtain ⟨x, y, e1, e2⟩ := two_last h2
  have hn : (hs.take (hs.length - 2)).length = hs.length - 2 := by rw [List.length_take]; omega
  obtain ⟨g1, g2, g3⟩ := dp_opt ok (tailC (r : Int) [x, y]) (hs.take (hs.length - 2)) 0 st4_0
  have hrow : hpRow r hs = flatB r (alB 0 (dpB (r : Int) (tailC (r : Int) [x, y]) (hs.take (hs.length - 2)))) := by
    unfold hpRow
    rw [e1, along_al]
  have hcost : hpCost r hs = (dpC (r : Int) (tailC (r : Int) [x, y]) (hs.take (hs.length - 2))).getD 0 0 := by
    unfold hpCost
    rw [e1]
  have hal : (alB 0 (dpB (r : Int) (tailC (r : Int) [x, y]) (hs.take (hs.length - 2)))).length = hs.length - 2 := by rw [alB_len, dpB_len, hn]
  have hbits : Bits (hpRow r hs) := by rw [hrow]; exact flatB_bits g1
  have hlen : (hpRow r hs).length = r * (hs.length - 2) := by rw [hrow, flatB_len hr, hal]
  have hcl : ∀ row, Bits row → row.length = r * (hs.length - 2) → costL r hs row = costT (r : Int) (tailC (r : Int) [x, y]) 0 (hs.take (hs.length - 2)) (bts r (hs.length - 2) row) := fun row hB hl => by
    have := costL_T (x := x) (y := y) ok hB hl hn
    rw [← e2] at this
    exact this
  have hbt : bts r (hs.length - 2) (hpRow r hs) = alB 0 (dpB (r : Int) (tailC (r : Int) [x, y]) (hs.take (hs.length - 2))) := by
    have := bts_flat hr g1
    rw [hal] at this
    rw [hrow]
    exact this
  refine ⟨hbits, hlen, ?_, fun row hB hl => ?_⟩
  · rw [hcl _ hbits hlen, hbt, hcost]
    exact g2
  · have h3 := g3 (bts r (hs.length - 2) row) (bts_good hr hB) (by rw [bts_len, hn])
    rw [flat_bts hr _ hB hl, ← hrow, ← hbt] at h3
    rw [hcl _ hB hl, hcost]
    rcases h3 with h3 | ⟨h3, h4⟩
    · exact .inl h3
    · refine .inr ⟨h3, ?_⟩
      rcases h4 with h4 | h4
      · left
        have := congrArg (flatB r) h4
        rwa [flat_bts hr _ hB hl, flat_bts hr _ hbits hlen] at this
      · exact .inr h4
/-! ### how far rows are from one another -/
theorem ap_tri (a b c : Int) : apartI a c ≤ apartI b a + apartI b c := by
  unfold apartI fold
  split <;> split <;> split <;> omega
theorem sq_two (x y : Int) : (x + y) ^ 2 ≤ 2 * x ^ 2 + 2 * y ^ 2 := by
  have h := sq_nn (x - y)
  rw [sq_mul] at h ⊢
  rw [sq_mul, sq_mul]
  rw [Int.sub_mul, Int.mul_sub, Int.mul_sub, Int.mul_comm y x] at h
  rw [Int.add_mul, Int.mul_add, Int.mul_add, Int.mul_comm y x]
  omega
theorem ap_two (a b c : Int) : apartI a c ^ 2 ≤ 2 * apartI b a ^ 2 + 2 * apartI b c ^ 2 :=
  Int.le_trans (sq_le (apart_le _ _).1 (ap_tri a b c)) (sq_two _ _)
def dZ (r : Int) (cs ds : List Int) : Int := ((cs.zip ds).map fun p => sqA (pointI p.1 r) p.2 r).sum
theorem dZ_cons (r c d : Int) (cs ds : List Int) : dZ r (c :: cs) (d :: ds) = sqA (pointI c r) d r + dZ r cs ds := by
  show ((_ :: _ : List Int)).sum = _
  rw [List.sum_cons]
  rfl
def zS (r : Int) (hs cs : List Int) : Int := ((hs.zip cs).map fun p => sqA p.1 p.2 r).sum
theorem zS_cons (r h c : Int) (hs cs : List Int) : zS r (h :: hs) (c :: cs) = sqA h c r + zS r hs cs := by
  show ((_ :: _ : List Int)).sum = _
  rw [List.sum_cons]
  rfl
theorem dZ_le (r : Int) : ∀ (hs cs ds : List Int), cs.length = hs.length → ds.length = hs.length → dZ r cs ds ≤ 2 * zS r hs cs + 2 * zS r hs ds
  | [], cs, ds, h1, h2 => by
    rw [List.length_eq_zero_iff.mp h1, List.length_eq_zero_iff.mp h2]
    show (0 : Int) ≤ 2 * 0 + 2 * 0
    decide
  | h :: hs, c :: cs, d :: ds, h1, h2 => by
    rw [dZ_cons, zS_cons, zS_cons]
    have h3 := dZ_le r hs cs ds (Nat.succ.inj h1) (Nat.succ.inj h2)
    have h4 := ap_two (pointI c r) h (pointI d r)
    unfold sqA
    omega
  | h :: hs, [], _, h1, _ => nomatch h1
  | h :: hs, _ :: _, [], _, h2 => nomatch h2
theorem sq_sc (k s : Int) : (k * s) ^ 2 = k * k * s ^ 2 := by
  rw [sq_mul, sq_mul, Int.mul_assoc k k, Int.mul_assoc k s, Int.mul_left_comm s k s]
theorem ap_cls {r a b : Int} (ok : okR r) (a0 : 0 ≤ a) (a1 : a < ptsI r) (b0 : 0 ≤ b) (b1 : b < ptsI r) :
    ((a - b) % 4 = 2 → 4 * stepI r ^ 2 ≤ sqA (pointI a r) b r) ∧ ((a - b) % 2 = 1 → stepI r ^ 2 ≤ sqA (pointI a r) b r) ∧ (a ≠ b → (a - b) % 4 = 0 → 16 * stepI r ^ 2 ≤ sqA (pointI a r) b r) := by
  have key : ((a - b) % 4 = 2 → 2 * stepI r ≤ apartI (pointI a r) (pointI b r)) ∧ ((a - b) % 2 = 1 → 1 * stepI r ≤ apartI (pointI a r) (pointI b r)) ∧ (a ≠ b → (a - b) % 4 = 0 → 4 * stepI r ≤ apartI (pointI a r) (pointI b r)) := by
    rcases pts_step ok with ⟨rfl, e1, e2⟩ | ⟨rfl, e1, e2⟩ | ⟨rfl, e1, e2⟩ | ⟨rfl, e1, e2⟩ <;> rw [e1] at a1 b1 <;> simp only [pointI, e2, apartI, fold] <;> refine ⟨fun h => ?_, fun h => ?_, fun h h2 => ?_⟩ <;> split <;> omega
  have hs : 0 ≤ stepI r := by rcases pts_step ok with ⟨_, _, e⟩ | ⟨_, _, e⟩ | ⟨_, _, e⟩ | ⟨_, _, e⟩ <;> rw [e] <;> decide
  unfold sqA
  refine ⟨fun h => ?_, fun h => ?_, fun h h2 => ?_⟩
  · have := sq_le (by omega) (key.1 h)
    rw [sq_sc] at this
    omega
  · have := sq_le (by omega) (key.2.1 h)
    rw [sq_sc] at this
    omega
  · have := sq_le (by omega) (key.2.2 h h2)
    rw [sq_sc] at this
    omega
/-- what is still to come, at least, where two ways stand in these states -/
def vS (s t : Int) : Int := if s % 2 = t % 2 then (if s = t then 0 else 4) else 5
theorem beat_num {r : Nat} {s : Int} {b : Bt} (ok : okR (r : Int)) (hb : isB b.1 ∧ 0 ≤ b.2 ∧ b.2 < 2 ^ (r - 1)) : 0 ≤ 4 * b.2 + clS s b.1 ∧ 4 * b.2 + clS s b.1 < ptsI (r : Int) := by
  have h := cl_st s b.1
  obtain ⟨c0, c1⟩ := h
  have er : ((r : Int) - 1).toNat = r - 1 := by omega
  unfold ptsI
  rw [er]
  have := hb.2.2
  generalize (2 : Int) ^ (r - 1) = x at this ⊢
  omega
theorem step_v {r : Nat} {s t : Int} {b c : Bt} (ok : okR (r : Int)) (hs : St4 s) (ht : St4 t) (hb : isB b.1 ∧ 0 ≤ b.2 ∧ b.2 < 2 ^ (r - 1)) (hc : isB c.1 ∧ 0 ≤ c.2 ∧ c.2 < 2 ^ (r - 1)) :
    vS s t * stepI (r : Int) ^ 2 ≤ sqA (pointI (4 * b.2 + clS s b.1) (r : Int)) (4 * c.2 + clS t c.1) (r : Int) + vS (mvS s b.1) (mvS t c.1) * stepI (r : Int) ^ 2 := by
  obtain ⟨b0, b1⟩ := beat_num (s := s) ok hb
  obtain ⟨c0, c1⟩ := beat_num (s := t) ok hc
  obtain ⟨k1, k2, k3⟩ := ap_cls ok b0 b1 c0 c1
  have h0 : 0 ≤ sqA (pointI (4 * b.2 + clS s b.1) (r : Int)) (4 * c.2 + clS t c.1) (r : Int) := sq_nn _
  have hS := sq_nn (stepI (r : Int))
  generalize stepI (r : Int) ^ 2 = S at k1 k2 k3 hS ⊢
  generalize sqA (pointI (4 * b.2 + clS s b.1) (r : Int)) (4 * c.2 + clS t c.1) (r : Int) = Z at k1 k2 k3 h0 ⊢
  clear b0 b1 c0 c1 k3
  have hcase : vS s t = 0 ∨ (vS s t = 4 ∧ ((4 * b.2 + clS s b.1 - (4 * c.2 + clS t c.1)) % 4 = 2 ∨ vS (mvS s b.1) (mvS t c.1) = 5)) ∨ (vS s t = 5 ∧ (4 * b.2 + clS s b.1 - (4 * c.2 + clS t c.1)) % 2 = 1 ∧ 4 ≤ vS (mvS s b.1) (mvS t c.1)) := by
    obtain ⟨fb, _⟩ := hb
    obtain ⟨fc, _⟩ := hc
    unfold vS clS mvS
    rcases fb with e | e <;> rcases fc with e' | e' <;> rw [e, e'] <;> rcases st4_cases hs with rfl | rfl | rfl | rfl <;> rcases st4_cases ht with rfl | rfl | rfl | rfl <;> simp <;> omega
  have hv : 0 ≤ vS (mvS s b.1) (mvS t c.1) := by
    unfold vS
    split
    · split <;> decide
    · decide
  generalize vS (mvS s b.1) (mvS t c.1) = v at hcase hv
  have hvS : 0 ≤ v * S := Int.mul_nonneg hv hS
  rcases hcase with e | ⟨e, h | h⟩ | ⟨e, h, h2⟩
  · rw [e, Int.zero_mul]
    omega
  · have := k1 h
    rw [e]
    omega
  · rw [e, h]
    omega
  · have := k2 h
    have h3 : 4 * S ≤ v * S := Int.mul_le_mul_of_nonneg_right h2 hS
    rw [e]
    omega
theorem dist_v {r : Nat} (ok : okR (r : Int)) : ∀ (bs cs : List Bt) (s t : Int), St4 s → St4 t → GoodBs r bs → GoodBs r cs → bs.length = cs.length → vS s t * stepI (r : Int) ^ 2 ≤ dZ (r : Int) (codeB s bs) (codeB t cs) + vS (stB s bs) (stB t cs) * stepI (r : Int) ^ 2
  | [], [], s, t, _, _, _, _, _ => by
    show vS s t * _ ≤ 0 + vS s t * _
    omega
  | [], _ :: _, _, _, _, _, _, _, h => nomatch h
  | _ :: _, [], _, _, _, _, _, _, h => nomatch h
  | b :: bs, c :: cs, s, t, hs, ht, hb, hc, hl => by
    have h1 := step_v ok hs ht (hb b (.head _)) (hc c (.head _))
    have h2 := dist_v ok bs cs (mvS s b.1) (mvS t c.1) (mv_st (hb b (.head _)).1) (mv_st (hc c (.head _)).1) (fun x hx => hb x (.tail _ hx)) (fun x hx => hc x (.tail _ hx)) (Nat.succ.inj hl)
    have e1 : stB s (b :: bs) = stB (mvS s b.1) bs := rfl
    have e2 : stB t (c :: cs) = stB (mvS t c.1) cs := rfl
    rw [e1, e2]
    show _ ≤ dZ (r : Int) (_ :: codeB (mvS s b.1) bs) (_ :: codeB (mvS t c.1) cs) + _
    rw [dZ_cons]
    omega
theorem dZ_nn (r : Int) : ∀ (cs ds : List Int), 0 ≤ dZ r cs ds
  | [], _ => Int.le_refl _
  | _ :: _, [] => Int.le_refl _
  | c :: cs, d :: ds => by
    rw [dZ_cons]
    have := dZ_nn r cs ds
    have : 0 ≤ sqA (pointI c r) d r := sq_nn _
    omega
theorem tl2_good {r : Nat} : GoodBs r tl2 := fun b hb => by
  have : b = (0, 0) := by
    rcases List.mem_cons.mp hb with rfl | hb
    · rfl
    · exact List.mem_singleton.mp hb
  rw [this]
  exact ⟨.inl rfl, Int.le_refl _, Int.pow_pos (by decide)⟩
theorem good_app {r : Nat} {bs cs : List Bt} (h1 : GoodBs r bs) (h2 : GoodBs r cs) : GoodBs r (bs ++ cs) := fun b hb => (List.mem_append.mp hb).elim (h1 b) (h2 b)
theorem dist_b {r : Nat} (ok : okR (r : Int)) : ∀ (bs cs : List Bt) (s : Int), St4 s → GoodBs r bs → GoodBs r cs → bs.length = cs.length → bs ≠ cs → 9 * stepI (r : Int) ^ 2 ≤ dZ (r : Int) (codeB s (bs ++ tl2)) (codeB s (cs ++ tl2))
  | [], [], _, _, _, _, _, hn => absurd rfl hn
  | [], _ :: _, _, _, _, _, h, _ => nomatch h
  | _ :: _, [], _, _, _, _, h, _ => nomatch h
  | b :: bs, c :: cs, s, hs, hb, hc, hl, hn => by
    have hl2 : bs.length = cs.length := Nat.succ.inj hl
    have hb1 := hb b (.head _)
    have hc1 := hc c (.head _)
    have hb' : GoodBs r bs := fun x hx => hb x (.tail _ hx)
    have hc' : GoodBs r cs := fun x hx => hc x (.tail _ hx)
    show _ ≤ dZ (r : Int) ((4 * b.2 + clS s b.1) :: codeB (mvS s b.1) (bs ++ tl2)) ((4 * c.2 + clS s c.1) :: codeB (mvS s c.1) (cs ++ tl2))
    rw [dZ_cons]
    have hS := sq_nn (stepI (r : Int))
    have hn2 := dZ_nn (r : Int) (codeB (mvS s b.1) (bs ++ tl2)) (codeB (mvS s c.1) (cs ++ tl2))
    have hz2 : 0 ≤ sqA (pointI (4 * b.2 + clS s b.1) (r : Int)) (4 * c.2 + clS s c.1) (r : Int) := sq_nn _
    obtain ⟨b0, b1⟩ := beat_num (s := s) ok hb1
    obtain ⟨c0, c1⟩ := beat_num (s := s) ok hc1
    obtain ⟨k1, k2, k3⟩ := ap_cls ok b0 b1 c0 c1
    by_cases e : b.1 = c.1
    · by_cases em : b.2 = c.2
      · have hbc : b = c := Prod.ext e em
        subst hbc
        have := dist_b ok bs cs (mvS s b.1) (mv_st hb1.1) hb' hc' hl2 (fun z => hn (by rw [z]))
        omega
      · have h16 := k3 (by rw [e]; omega) (by rw [e]; omega)
        omega
    · have h4 := k1 (by
        have h5 : (clS s b.1 - clS s c.1) % 4 = 2 := by
          rcases hb1.1 with x | x <;> rcases hc1.1 with y | y <;> rw [x, y] at e ⊢ <;> first | exact absurd rfl e | (rcases st4_cases hs with rfl | rfl | rfl | rfl <;> decide)
        omega)
      have h5 := dist_v ok (bs ++ tl2) (cs ++ tl2) (mvS s b.1) (mvS s c.1) (mv_st hb1.1) (mv_st hc1.1) (good_app hb' tl2_good) (good_app hc' tl2_good) (by rw [List.length_append, List.length_append, hl2])
      rw [stB_app, stB_app, st_tl2, st_tl2] at h5
      have e0 : vS 0 0 = 0 := by decide
      have e5 : vS (mvS s b.1) (mvS s c.1) = 5 := by
        unfold vS
        rw [if_neg]
        unfold mvS
        rcases hb1.1 with x | x <;> rcases hc1.1 with y | y <;> rw [x, y] at e ⊢ <;> first | exact absurd rfl e | omega
      rw [e0, e5] at h5
      omega
theorem dist_rows {r n : Nat} {a b : List Int} (ok : okR (r : Int)) (ha : Bits a) (hb : Bits b) (la : a.length = r * n) (lb : b.length = r * n) (hn : a ≠ b) : 9 * stepI (r : Int) ^ 2 ≤ dZ (r : Int) (codeL r a) (codeL r b) := by
  obtain ⟨r1, _⟩ := id ok
  have hr : 0 < r := by omega
  unfold codeL
  rw [rowB_of hr la, rowB_of hr lb]
  refine dist_b ok _ _ 0 st4_0 (bts_good hr ha) (bts_good hr hb) (by rw [bts_len, bts_len]) (fun z => hn ?_)
  have := congrArg (flatB r) z
  rwa [flat_bts hr n ha la, flat_bts hr n hb lb] at this
theorem codeL_len {r n : Nat} {a : List Int} (hr : 0 < r) (la : a.length = r * n) : (codeL r a).length = n + 2 := by
  unfold codeL
  rw [codeB_len, rowB_of hr la, List.length_append, bts_len]
  rfl
theorem two_rows {r n : Nat} {hs a b : List Int} (ok : okR (r : Int)) (hl : hs.length = n + 2) (ha : Bits a) (hb : Bits b) (la : a.length = r * n) (lb : b.length = r * n) (hn : a ≠ b) : 9 * stepI (r : Int) ^ 2 ≤ 2 * costL r hs a + 2 * costL r hs b := by
  obtain ⟨r1, _⟩ := id ok
  exact Int.le_trans (dist_rows ok ha hb la lb hn) (dZ_le (r : Int) hs _ _ (by rw [codeL_len (by omega) la, hl]) (by rw [codeL_len (by omega) lb, hl]))
/-- small noise turns nothing -/
theorem hp_sent {r n : Nat} {hs a : List Int} (ok : okR (r : Int)) (hl : hs.length = n + 2) (ha : Bits a) (la : a.length = r * n) (h : 4 * costL r hs a < 9 * stepI (r : Int) ^ 2) : hpRow r hs = a ∧ hpCost r hs = costL r hs a := by
  obtain ⟨g1, g2, g3, g4⟩ := hp_opt (hs := hs) ok (by omega)
  have en : hs.length - 2 = n := by omega
  rw [en] at g2 g4
  have h5 := g4 a ha la
  by_cases e : hpRow r hs = a
  · exact ⟨e, by rw [← g3, e]⟩
  · have h6 := two_rows ok hl ha g1 la g2 (fun z => e z.symm)
    rw [g3] at h6
    omega
/-- noise of just a quarter -/
theorem hp_zero {r n : Nat} {hs a : List Int} (ok : okR (r : Int)) (hl : hs.length = n + 2) (ha : Bits a) (la : a.length = r * n) (h : 4 * costL r hs a = 9 * stepI (r : Int) ^ 2) (hz : costL r hs (List.replicate (r * n) 0) = costL r hs a) : hpRow r hs = List.replicate (r * n) 0 ∧ hpCost r hs = costL r hs a := by
  obtain ⟨g1, g2, g3, g4⟩ := hp_opt (hs := hs) ok (by omega)
  have en : hs.length - 2 = n := by omega
  rw [en] at g2 g4
  have hzb : Bits (List.replicate (r * n) 0) := fun z hz => .inl (List.eq_of_mem_replicate hz)
  have h5 := g4 _ hzb List.length_replicate
  rw [hz] at h5
  have hle : costL r hs a ≤ hpCost r hs := by
    by_cases e : hpRow r hs = a
    · rw [← g3, e]
      exact Int.le_refl _
    · have h6 := two_rows ok hl ha g1 la g2 (fun z => e z.symm)
      rw [g3] at h6
      omega
  have hlz : ∀ (k : Nat) (xs : List Int), Bits xs → xs.length = k → lexB xs (List.replicate k 0) = false := by
    intro k
    induction k with
    | zero => intro xs _ hx; rw [List.length_eq_zero_iff.mp hx]; rfl
    | succ k ih =>
      intro xs hB hx
      cases xs with
      | nil => cases hx
      | cons x xs =>
        have hb := bits_cons hB
        show (if x = 0 then lexB xs (List.replicate k 0) else decide (x < 0)) = false
        split
        · exact ih xs hb.2 (Nat.succ.inj hx)
        · rcases hb.1 with z | z <;> rw [z] <;> rfl
  rcases h5 with h5 | ⟨h5, h6⟩
  · omega
  · refine ⟨?_, h5⟩
    rcases h6 with h6 | h6
    · exact h6.symm
    · rw [hlz _ _ g1 g2] at h6
      cases h6
theorem sc_folded : FnScope ["number", "half"] ["number"] (defScope s_folded) := ⟨rfl, rfl, rfl, by decide +kernel, rfl, by decide +kernel, by decide +kernel⟩
theorem ok_folded {f : Addr} {fd : FuncData} {k : Nat} {tR : Tok} (F : Fun K "folded" "folded" s_folded f fd) (g_RING : mg "RING" = some (.int 256 tR)) : FnOk P w K mg base CX0 (k + 1) f fd ["number"] spFolded := by
  have sc := sc_folded
  refine F.ok sc (fun vs H Q E h => ?_) (fun cdv A outer s H vs Q E hr h => ?_)
  · obtain ⟨n, rfl, _⟩ := h
    rfl
  · obtain ⟨n, rfl, q⟩ := h
    refine ⟨_, (pss_cons (ps_set (i := 1) sc.nd rfl (.inl rfl) (pe_op op_fdiv (pe_glob (v := .int 256) (by rfl) g_RING ⟨_, rfl⟩) pe_int))
 (pss_one (ps_ret (pe_op op_sub (pe_op op_mod (pe_op op_add (pv 0) (pv 1)) (pe_glob (v := .int 256) (by rfl) g_RING ⟨_, rfl⟩)) (pv 1))))), ?_⟩
    refine ⟨_, _, rfl, rfl, ⟨by decide, by decide⟩, ?_⟩
    exact ⟨_, rfl, _, rfl, _, _, rfl, rfl, _, _, rfl, rfl, (by show (0 : Int) < 256; decide), _, rfl, _, _, rfl, rfl, q⟩
theorem sc_apart : FnScope ["one", "other"] ["one", "other"] (defScope s_apart) := ⟨rfl, rfl, rfl, by decide +kernel, rfl, by decide +kernel, by decide +kernel⟩
theorem ok_apart {f : Addr} {fd : FuncData} {k : Nat} (F : Fun K "apart" "apart" s_apart f fd) (n_abs : mg "abs" = none) (c_folded : Cal P w K mg base k "folded" ["number"] spFolded) : FnOk P w K mg base CX0 (k + 1) f fd ["one", "other"] spApart := by
  have sc := sc_apart
  refine F.ok sc (fun vs H Q E h => ?_) (fun cdv A outer s H vs Q E hr h => ?_)
  · obtain ⟨a, b, rfl, _⟩ := h
    rfl
  · obtain ⟨a, b, rfl, q⟩ := h
    refine ⟨_, (pss_one (ps_ret (pe_callB call_abs (by rfl) n_abs (by decide +kernel) (pa_cons (pe_callC c_folded hr (by rfl) (pa_cons (pe_op op_sub (pv 0) (pv 1)) pa_nil)) pa_nil)))), ?_⟩
    exact ⟨_, rfl, _, rfl, _, _, rfl, rfl, _, rfl, _, rfl, q⟩
theorem sc_points_at : FnScope ["rate"] ["rate"] (defScope s_points_at) := ⟨rfl, rfl, rfl, by decide +kernel, rfl, by decide +kernel, by decide +kernel⟩
theorem ok_points_at {f cR : Addr} {fd : FuncData} {k : Nat} {tF : Tok} (F : Fun K "points_at" "points_at" s_points_at f fd) (g_FEWEST_POINTS : mg "FEWEST_POINTS" = some (.int 4 tF)) (c_check_rate : CalX P w K mg base k "check_rate" ["rate"] (spCR cR)) : FnOk P w K mg base (L2.CX P w) (k + 1) f fd ["rate"] (spPA cR) := by
  have sc := sc_points_at
  refine F.okX sc (fun vs H Q E h => ?_) (fun cdv A outer s H vs Q E hr h => ?_)
  · obtain ⟨r, rfl, _⟩ := h
    rfl
  · obtain ⟨r, rfl, q, qe⟩ := h
    refine ⟨_, (pss_cons (ps_expr (pe_callP c_check_rate hr (passes_call (takes_of rfl rfl rfl rfl) (fun _ _ _ _ h => h)) (by rfl) (pa_cons (pv 0) pa_nil)))
 (pss_one (ps_ret (pe_op op_shl (pe_glob (v := .int 4) (by rfl) g_FEWEST_POINTS ⟨_, rfl⟩) (pe_op op_sub (pv 0) pe_int))))), ?_⟩
    refine ⟨_, rfl, r, rfl, (fun ok => ?_), qe⟩
    exact ⟨_, rfl, _, _, rfl, rfl, _, _, rfl, rfl, ⟨by have := ok.1; omega, by have := ok.2; omega, by decide⟩, q ok⟩
theorem sc_step : FnScope ["rate"] ["rate"] (defScope s_step) := ⟨rfl, rfl, rfl, by decide +kernel, rfl, by decide +kernel, by decide +kernel⟩
theorem ok_step {f cR : Addr} {fd : FuncData} {k : Nat} {tR : Tok} (F : Fun K "step" "step" s_step f fd) (g_RING : mg "RING" = some (.int 256 tR)) (c_points_at : CalX P w K mg base k "points_at" ["rate"] (spPA cR)) : FnOk P w K mg base (L2.CX P w) (k + 1) f fd ["rate"] (spStep cR) := by
  have sc := sc_step
  refine F.okX sc (fun vs H Q E h => ?_) (fun cdv A outer s H vs Q E hr h => ?_)
  · obtain ⟨r, rfl, _⟩ := h
    rfl
  · obtain ⟨r, rfl, q, qe⟩ := h
    refine ⟨_, (pss_one (ps_ret (pe_op op_fdiv (pe_glob (v := .int 256) (by rfl) g_RING ⟨_, rfl⟩) (pe_callP c_points_at hr (passes_call (takes_of rfl rfl rfl rfl) (fun _ _ _ _ h => h)) (by rfl) (pa_cons (pv 0) pa_nil))))), ?_⟩
    refine ⟨_, rfl, r, rfl, (fun ok => ?_), qe⟩
    refine ⟨_, _, rfl, rfl, ?_, q ok⟩
    rcases pts_step ok with ⟨_, e, _⟩ | ⟨_, e, _⟩ | ⟨_, e, _⟩ | ⟨_, e, _⟩ <;> rw [e] <;> exact ⟨by decide, by decide⟩
theorem sc_point : FnScope ["number", "rate", "many", "wide"] ["number", "rate"] (defScope s_point) := ⟨rfl, rfl, rfl, by decide +kernel, rfl, by decide +kernel, by decide +kernel⟩
theorem ok_point {f cN cR : Addr} {fd : FuncData} {k : Nat} {kws : List (Str × V)} {tR : Tok} (F : FunD K "point" "point" (defArgs s_point) (defBody s_point) (defScope s_point) [] kws f fd) (g_RING : mg "RING" = some (.int 256 tR)) (x_BadCount : XcOk P w K mg base k "BadCount" cN (spIni0 K cN "BadCount")) (c_points_at : CalX P w K mg base (k + 1) "points_at" ["rate"] (spPA cR)) (c_step : CalX P w K mg base (k + 1) "step" ["rate"] (spStep cR)) :
    FnOk P w K mg base (L2.CX P w) (k + 2) f fd ["number", "rate"] (spPoint cN cR) := by
  have sc := sc_point
  refine F.ok sc (fun vs H Q E h => ?_) (fun cdv A outer s H vs Q E hr h => ?_)
  · obtain ⟨n, r, rfl, _⟩ := h
    rfl
  · obtain ⟨n, r, rfl, q, qn, qe⟩ := h
    refine ⟨_, (pss_cons (ps_set (i := 2) sc.nd rfl (.inl rfl) (pe_callP c_points_at hr (passes_call (takes_of rfl rfl rfl rfl) (fun _ _ _ _ h => h)) (by rfl) (pa_cons (pv 1) pa_nil)))
 (pss_cons (ps_if (PW.pt (pw_or (pt_cmpR op_lt (pv 0) pe_int (nomark _)) (pw_or1 (pt_cmpR op_ge (pv 0) (pv 2) (nomark _)))))
  (pss_one (ps_raise rfl (takes_of rfl rfl rfl rfl) (pmk_c0 x_BadCount hr (by rfl))))
  pss_nil)
 (pss_cons (ps_set (i := 3) sc.nd rfl (.inl rfl) (pe_callP c_step hr (passes_call (takes_of rfl rfl rfl rfl) (fun _ _ _ _ h => h)) (by rfl) (pa_cons (pv 1) pa_nil)))
 (pss_one (ps_ret (pe_op op_add (pe_op op_sub (pe_op op_fdiv (pv 3) pe_int) (pe_op op_fdiv (pe_glob (v := .int 256) (by rfl) g_RING ⟨_, rfl⟩) pe_int)) (pe_op op_mul (pv 0) (pv 3)))))))), ?_⟩
    refine ⟨_, rfl, r, rfl, (fun ok => ?_), qe⟩
    refine ⟨_, rfl, _, _, rfl, rfl, _, rfl, ite2 (fun e => ?_) (fun e1 => ?_)⟩
    · have e : n < 0 := of_decide_eq_true e
      exact mk_inner0 (fun H3 d s3 nd ed => qn ok (.inl e) H3 d s3 nd ed)
    have e1 : ¬ n < 0 := fun h => e1 (decide_eq_true h)
    refine ⟨_, rfl, _, rfl, _, _, rfl, rfl, _, rfl, ite2 (fun e => ?_) (fun e2 => ?_)⟩
    · have e : ptsI r ≤ n := of_decide_eq_true e
      exact mk_inner0 (fun H3 d s3 nd ed => qn ok (.inr e) H3 d s3 nd ed)
    have e2 : ¬ ptsI r ≤ n := fun h => e2 (decide_eq_true h)
    refine ⟨_, rfl, r, rfl, (fun _ => ?_), (fun no => absurd ok no)⟩
    have hs : 0 ≤ stepI r ∧ stepI r < 100 := by rcases pts_step ok with ⟨_, _, e⟩ | ⟨_, _, e⟩ | ⟨_, _, e⟩ | ⟨_, _, e⟩ <;> rw [e] <;> decide
    exact ⟨_, rfl, _, _, rfl, rfl, ⟨by decide, by decide⟩, _, _, rfl, rfl, ⟨by decide, by decide⟩, _, _, rfl, rfl, _, rfl, _, rfl, _, _, rfl, rfl, .inr ⟨by omega, by omega⟩, _, _, rfl, rfl, q ok (by omega) (by omega)⟩
theorem sc_check_bits : FnScope ["bits", "at", "bit"] ["bits"] (defScope s_check_bits) := ⟨rfl, rfl, rfl, by decide +kernel, rfl, by decide +kernel, by decide +kernel⟩
/-- all of them are bits, or the first that is none -/
def spCheckX (K : PySem.W.Frag) (C : Addr) : Sp := fun vs H Q E => ∃ (a : Addr) (ns : List Int), vs = [.ref a] ∧ SqL K H a (ns.map V.int) ∧ ns.length ≤ 100000 ∧ (Bits ns → ∀ H', Same H H' → Q .non H') ∧
  (∀ (i : Nat) (z : Int), ns[i]? = some z → ¬ isB z → Bits (ns.take i) → ∀ H' d, Same H H' → H d = none → H' d = some (.xd [(("at" : Str), .int (i : Int)), (("word" : Str), .str "BadBit")]) → E (.ref C) (some d) H')
theorem log_le {n : Nat} (h : n ≤ 100000) : ((n : Int)).natAbs.log2 < 1000 := by
  rw [Int.natAbs_natCast]
  by_cases z : n = 0
  · subst z
    decide
  · exact (Nat.log2_lt z).mpr (Nat.lt_of_le_of_lt h (by decide))
theorem ok_check_bits {f C : Addr} {fd : FuncData} {k : Nat} (F : Fun K "check_bits" "check_bits" s_check_bits f fd) (n_enumerate : mg "enumerate" = none) (x_BadBit : XcOk P w K mg base k "BadBit" C (spIni K C "BadBit" "at")) : FnOk P w K mg base (L2.CX P w) (k + 2) f fd ["bits"] (spCheckX K C) := by
  have sc := sc_check_bits
  refine F.okX sc (fun vs H Q E h => ?_) (fun cdv A outer s H vs Q E hr h => ?_)
  · obtain ⟨a, ns, rfl, _⟩ := h
    rfl
  · obtain ⟨a, ns, rfl, hS, hl, q, qe⟩ := h
    refine ⟨_, (pss_one (ps_for (passes_of rfl) rfl (pi_enum (by rfl) n_enumerate (pa_cons (pv 0) pa_nil)) (pg_tup rfl (pgs_cons (pg_name (i := 1) sc.nd rfl (.inl rfl)) (pgs_cons (pg_name (i := 2) sc.nd rfl (.inl rfl)) pgs_nil)))
  (pss_one (ps_if (pt_cmpR (op_notInK K rfl) (pv 2) (pe_tup (pa_cons pe_int (pa_cons pe_int pa_nil))) (by rfl))
  (pss_one (ps_raise rfl (takes_of rfl rfl rfl rfl) (pmk_c x_BadBit hr (by rfl) (pa_cons (pv 1) pa_nil))))
  pss_nil)))), ?_⟩
    refine ⟨_, rfl, a, _, rfl, hS, for_enumK (xs := ns.map V.int) (fun i σ H' => ∃ y1 y2, σ = [some (.ref a), y1, y2] ∧ Same H H' ∧ Bits (ns.take i)) ⟨none, none, rfl, Same.refl H, bits_nil⟩ (fun i σ H' _ h => ?_) ?_ ?_⟩
    · obtain ⟨y1, y2, _, sm, _⟩ := h
      exact sm.seq hS
    · rintro i x T σ H' hx ⟨y1, y2, rfl, sm, hbi⟩ nT
      obtain ⟨z, hz, rfl⟩ := getI hx
      have s1 := sm.trans (same_upd (o := .tup [.int (i : Nat), .int z]) nT)
      refine ⟨T, _, rfl, SqT.of upd_same, rfl, _, _, rfl, _, _, rfl, rfl, ?_⟩
      refine ⟨_, rfl, (by show 2 ≤ sizeLine; decide), fun p np => ?_⟩
      have s2 := s1.trans (same_upd (o := .tup [.int 0, .int 1]) np)
      refine ⟨p, _, rfl, .inr (SqT.of upd_same), rfl, rfl, _, rfl, ite2 (fun e => ?_) (fun e => ?_)⟩
      · have e : (!inV (.int z) [.int 0, .int 1]) = true := e
        have nb : ¬ isB z := by
          rintro (rfl | rfl)
          · exact absurd e (by decide)
          · exact absurd e (by decide)
        have hil : i < ns.length := (List.getElem?_eq_some_iff.mp hz).1
        refine ⟨_, rfl, mk_inner (log_le (by omega)) (fun H3 d s3 nd ed => qe i z hz nb hbi H3 d (s2.trans s3) (s2.free nd) ed)⟩
      · have e : ¬ (!inV (.int z) [.int 0, .int 1]) = true := e
        have yb : isB z := by
          have hh : inV (.int z) (([0, 1] : List Int).map V.int) = true := by
            cases q : inV (.int z) [.int 0, .int 1] with
            | true => exact q
            | false => rw [q] at e; exact absurd rfl e
          rw [inV_ints] at hh
          have := of_decide_eq_true hh
          simpa [isB] using this
        refine ⟨_, _, rfl, s2, ?_⟩
        rw [take_more hz]
        exact bits_app hbi (bits_one yb)
    · rintro σ H' ⟨y1, y2, rfl, sm, hbi⟩
      rw [List.length_map, List.take_length] at hbi
      exact q hbi H' sm
theorem sc_bits_number : FnScope ["bits", "number", "bit"] ["bits"] (defScope s_bits_number) := ⟨rfl, rfl, rfl, by decide +kernel, rfl, by decide +kernel, by decide +kernel⟩
def spBnX (K : PySem.W.Frag) (cB cN : Addr) : Sp := fun vs H Q E => ∃ (a : Addr) (ns : List Int), vs = [.ref a] ∧ SqL K H a (ns.map V.int) ∧ ns.length ≤ 10000 ∧
  (Bits ns → ns.length ≤ 64 → ∀ H', Same H H' → Q (.int (bn ns)) H') ∧
  (Bits ns → 64 < ns.length → ∀ H' d, Same H H' → H d = none → H' d = some (.xd [(("word" : Str), .str "BadCount")]) → E (.ref cN) (some d) H') ∧
  (∀ (i : Nat) (z : Int), ns[i]? = some z → ¬ isB z → Bits (ns.take i) → ∀ H' d, Same H H' → H d = none → H' d = some (.xd [(("at" : Str), .int (i : Int)), (("word" : Str), .str "BadBit")]) → E (.ref cB) (some d) H')
theorem ok_bits_number {f cB cN : Addr} {fd : FuncData} {k : Nat} {tM : Tok} (F : Fun K "bits_number" "bits_number" s_bits_number f fd) (n_len : mg "len" = none) (g_MOST_BITS : mg "MOST_BITS" = some (.int 64 tM)) (x_BadCount : XcOk P w K mg base k "BadCount" cN (spIni0 K cN "BadCount")) (c_check_bits : CalX P w K mg base (k + 1) "check_bits" ["bits"] (spCheckX K cB)) : FnOk P w K mg base (L2.CX P w) (k + 2) f fd ["bits"] (spBnX K cB cN) := by
  have sc := sc_bits_number
  refine F.okX sc (fun vs H Q E h => ?_) (fun cdv A outer s H vs Q E hr h => ?_)
  · obtain ⟨a, ns, rfl, _⟩ := h
    rfl
  · obtain ⟨a, ns, rfl, hS, hl, q, qn, qb⟩ := h
    refine ⟨_, (pss_cons (ps_expr (pe_callP c_check_bits hr (passes_call (takes_of rfl rfl rfl rfl) (fun _ _ _ _ h => h)) (by rfl) (pa_cons (pv 0) pa_nil)))
 (pss_cons (ps_if (pt_cmpR op_gt (pe_callB (call_lenK K rfl) (by rfl) n_len PySem.boot_len (pa_cons (pv 0) pa_nil)) (pe_glob (v := .int 64) (by rfl) g_MOST_BITS ⟨_, rfl⟩) (nomark _))
  (pss_one (ps_raise rfl (takes_of rfl rfl rfl rfl) (pmk_c0 x_BadCount hr (by rfl))))
  pss_nil)
 (pss_cons (ps_set (i := 1) sc.nd rfl (.inl rfl) pe_int)
 (pss_cons (ps_for (passes_of rfl) rfl (pi_listK K rfl (pv 0)) (pg_name (i := 2) sc.nd rfl (.inl rfl))
  (pss_one (ps_set (i := 1) sc.nd rfl (.inl rfl) (pe_op op_add (pe_op op_mul pe_int (pv 1)) (pv 2)))))
 (pss_one (ps_ret (pv 1))))))), ?_⟩
    refine ⟨_, rfl, a, ns, rfl, hS, by omega, fun hB H1 s1 => ?_, qb⟩
    refine ⟨_, rfl, a, _, rfl, .inl (s1.seq hS), _, _, rfl, rfl, _, rfl, ite2 (fun e => ?_) (fun e => ?_)⟩
    · have e : (64 : Int) < ((ns.map V.int).length : Int) := of_decide_eq_true e
      rw [List.length_map] at e
      exact mk_inner0 (fun H3 d s3 nd ed => qn hB (by omega) H3 d (s1.trans s3) (s1.free nd) ed)
    have e : ¬ (64 : Int) < ((ns.map V.int).length : Int) := fun h => e (decide_eq_true h)
    rw [List.length_map] at e
    refine ⟨_, rfl, a, rfl, ⟨_, s1.seq hS⟩, for_list (K := K) (a := a) (xs := ns.map V.int) (fun i σ H' => ∃ y, σ = [some (.ref a), some (.int (bn (ns.take i))), y] ∧ H' = H1) ⟨none, rfl, rfl⟩ (fun i σ H' _ h => ?_) ?_ ?_⟩
    · obtain ⟨_, _, rfl⟩ := h
      exact s1.seq hS
    · rintro i x σ H' hx ⟨y, rfl, rfl⟩
      obtain ⟨z, hz, rfl⟩ := getI hx
      refine ⟨_, rfl, _, _, rfl, rfl, .inl ⟨by decide, by decide⟩, _, rfl, _, _, rfl, rfl, some (.int z), ?_, rfl⟩
      rw [bn_more hz]
      rfl
    · rintro σ H' ⟨y, rfl, rfl⟩
      rw [List.length_map, List.take_length]
      exact ⟨_, rfl, q hB (by omega) _ s1⟩
theorem sc_moved : FnScope ["state", "first"] ["state", "first"] (defScope s_moved) := ⟨rfl, rfl, rfl, by decide +kernel, rfl, by decide +kernel, by decide +kernel⟩
def spMovedS : Sp := fun vs H Q _ => ∃ (s f : Int), vs = [.int s, .int f] ∧ Q (.int (mvS s f)) H
theorem ok_moved {f : Addr} {fd : FuncData} {k : Nat} (F : Fun K "moved" "moved" s_moved f fd) : FnOk P w K mg base CX0 (k + 1) f fd ["state", "first"] spMovedS := by
  have sc := sc_moved
  refine F.ok sc (fun vs H Q E h => ?_) (fun cdv A outer s H vs Q E hr h => ?_)
  · obtain ⟨s, b, rfl, _⟩ := h
    rfl
  · obtain ⟨s, b, rfl, q⟩ := h
    refine ⟨_, (pss_one (ps_ret (pe_op op_add (pe_op op_mul pe_int (pe_op op_mod (pv 0) pe_int)) (pv 1)))), ?_⟩
    exact ⟨_, rfl, _, _, rfl, rfl, (by show (0 : Int) < 2; decide), _, _, rfl, rfl, .inl ⟨by decide, by decide⟩, _, rfl, _, _, rfl, rfl, q⟩
theorem sc_class_of : FnScope ["state", "first"] ["state", "first"] (defScope s_class_of) := ⟨rfl, rfl, rfl, by decide +kernel, rfl, by decide +kernel, by decide +kernel⟩
def spClass : Sp := fun vs H Q _ => ∃ (s f : Int), vs = [.int s, .int f] ∧ St4 s ∧ isB f ∧ Q (.int (clS s f)) H
theorem ok_class_of {f : Addr} {fd : FuncData} {k : Nat} (F : Fun K "class_of" "class_of" s_class_of f fd) : FnOk P w K mg base CX0 (k + 1) f fd ["state", "first"] spClass := by
  have sc := sc_class_of
  refine F.ok sc (fun vs H Q E h => ?_) (fun cdv A outer s H vs Q E hr h => ?_)
  · obtain ⟨s, b, rfl, _⟩ := h
    rfl
  · obtain ⟨s, b, rfl, hs, hb, q⟩ := h
    refine ⟨_, (pss_one (ps_ret (pe_op op_xor (pv 0) (pe_op op_mul pe_int (pv 1))))), ?_⟩
    refine ⟨_, rfl, _, rfl, _, _, rfl, rfl, .inl ⟨by decide, by decide⟩, _, _, rfl, rfl, ?_⟩
    show Q (.int (Builtin.bitXor s (2 * b))) H
    rw [cl_xor hs hb]
    exact q
theorem sc_coded : FnScope ["bits", "rate", "row", "numbers", "state", "at", "first"] ["bits", "rate"] (defScope s_coded) := ⟨rfl, rfl, rfl, by decide +kernel, rfl, by decide +kernel, by decide +kernel⟩
def RefAt (C : Addr) (nm : Str) (i : Nat) (H : Hp) (E : XK) : Prop := ∀ (H' : Hp) (d : Addr), Same H H' → H d = none → H' d = some (.xd [(("at" : Str), .int (i : Int)), (("word" : Str), .str nm)]) → E (.ref C) (some d) H'
def spCoded (K : PySem.W.Frag) (cB cN cR : Addr) : Sp := fun vs H Q E => ∃ (a : Addr) (ns : List Int) (r : Int), vs = [.ref a, .int r] ∧ SqL K H a (ns.map V.int) ∧ ns.length ≤ 2000 ∧
  (okR r → Bits ns → ns.length % r.toNat = 0 → ∀ (H' : Hp) (p : Addr), Same H H' → H p = none → H' p = some (.lst ((codeL r.toNat ns).map V.int)) → Q (.ref p) H') ∧
  (okR r → Bits ns → ns.length % r.toNat ≠ 0 → Ref0 cN "BadCount" H E) ∧
  (okR r → ∀ (i : Nat) (z : Int), ns[i]? = some z → ¬ isB z → Bits (ns.take i) → RefAt cB "BadBit" i H E) ∧ (¬ okR r → Ref0 cR "BadRate" H E)
theorem ok_coded {f cB cN cR : Addr} {fd : FuncData} {k : Nat} {kws : List (Str × V)} {tT : Tok} (F : FunD K "coded" "coded" (defArgs s_coded) (defBody s_coded) (defScope s_coded) [] kws f fd) (n_len : mg "len" = none) (n_list : mg "list" = none) (n_range : mg "range" = none) (g_TAIL : mg "TAIL" = some (.int 2 tT))
    (x_BadCount : XcOk P w K mg base k "BadCount" cN (spIni0 K cN "BadCount")) (c_check_rate : CalX P w K mg base (k + 1) "check_rate" ["rate"] (spCR cR)) (c_check_bits : CalX P w K mg base (k + 1) "check_bits" ["bits"] (spCheckX K cB)) (c_bits_number : CalX P w K mg base (k + 1) "bits_number" ["bits"] (spBnX K cB cN))
    (c_class_of : Cal P w K mg base (k + 1) "class_of" ["state", "first"] spClass) (c_moved : Cal P w K mg base (k + 1) "moved" ["state", "first"] spMovedS) : FnOk P w K mg base (L2.CX P w) (k + 2) f fd ["bits", "rate"] (spCoded K cB cN cR) := by
  have sc := sc_coded
  refine F.ok sc (fun vs H Q E h => ?_) (fun cdv A outer s H vs Q E hr h => ?_)
  · obtain ⟨a, ns, r, rfl, _⟩ := h
    rfl
  · obtain ⟨a, ns, r, rfl, hS, hl, q, qn, qb, qr⟩ := h
    refine ⟨_, (pss_cons (ps_expr (pe_callP c_check_rate hr (passes_call (takes_of rfl rfl rfl rfl) (fun _ _ _ _ h => h)) (by rfl) (pa_cons (pv 1) pa_nil)))
 (pss_cons (ps_expr (pe_callP c_check_bits hr (passes_call (takes_of rfl rfl rfl rfl) (fun _ _ _ _ h => h)) (by rfl) (pa_cons (pv 0) pa_nil)))
 (pss_cons (ps_if (pt_cmpR op_ne (pe_op op_mod (pe_callB (call_lenK K rfl) (by rfl) n_len PySem.boot_len (pa_cons (pv 0) pa_nil)) (pv 1)) pe_int (nomark _))
  (pss_one (ps_raise rfl (takes_of rfl rfl rfl rfl) (pmk_c0 x_BadCount hr (by rfl))))
  pss_nil)
 (pss_cons (ps_set (i := 2) sc.nd rfl (.inl rfl) (pe_op op_cat (pe_callTy (call_listK K rfl) (by rfl) n_list (by decide +kernel) (pa_cons (pv 0) pa_nil)) (pe_op op_rep (pe_lst (pa_cons pe_int pa_nil)) (pe_op op_mul (pe_glob (v := .int 2) (by rfl) g_TAIL ⟨_, rfl⟩) (pv 1)))))
 (pss_cons (ps_set (i := 3) sc.nd rfl (.inl rfl) (pe_lst pa_nil))
 (pss_cons (ps_set (i := 4) sc.nd rfl (.inl rfl) pe_int)
 (pss_cons (ps_for (passes_of rfl) rfl (pi_range3 (by rfl) n_range (pa_cons pe_int (pa_cons (pe_callB (call_lenK K rfl) (by rfl) n_len PySem.boot_len (pa_cons (pv 2) pa_nil)) (pa_cons (pv 1) pa_nil)))) (pg_name (i := 5) sc.nd rfl (.inl rfl))
  (pss_cons (ps_set (i := 6) sc.nd rfl (.inl rfl) (pe_ix (ix_listK K rfl) (pv 2) (pv 5) (fun _ _ => rfl)))
 (pss_cons (ps_expr (pe_bmK K rfl PySem.F.plainAttrs_list PySem.F.slot_list_append PySem.F.type_list_append mt_append (pv 3) (pa_cons (pe_op op_add (pe_op op_mul pe_int (pe_callP c_bits_number hr (passes_call (takes_of rfl rfl rfl rfl) (fun _ _ _ _ h => h)) (by rfl) (pa_cons (pe_slice (sl_listK K rfl) (pv 2) (po_some (pe_op op_add (pv 5) pe_int)) (po_some (pe_op op_add (pv 5) (pv 1)))) pa_nil))) (pe_callC c_class_of hr (by rfl) (pa_cons (pv 4) (pa_cons (pv 6) pa_nil)))) pa_nil)))
 (pss_one (ps_set (i := 4) sc.nd rfl (.inl rfl) (pe_callC c_moved hr (by rfl) (pa_cons (pv 4) (pa_cons (pv 6) pa_nil))))))))
 (pss_one (ps_ret (pv 3)))))))))), ?_⟩
    refine ⟨_, rfl, r, rfl, (fun ok => ?_), qr⟩
    obtain ⟨r1, r4⟩ := id ok
    obtain ⟨rn, rfl⟩ : ∃ rn : Nat, r = (rn : Int) := ⟨r.toNat, by omega⟩
    rw [Int.toNat_natCast] at q qn
    refine ⟨_, rfl, a, ns, rfl, hS, by omega, fun hB H1 s1 => ?_, fun i z hz nb hbi => qb ok i z hz nb hbi⟩
    have em : ((ns.map V.int).length : Int) % (rn : Int) = ((ns.length % rn : Nat) : Int) := by rw [List.length_map, Int.natCast_emod]
    refine ⟨_, rfl, a, _, rfl, .inl (s1.seq hS), _, rfl, _, _, rfl, rfl, (by show (0 : Int) < (rn : Int); omega), rfl, _, rfl, ite2 (fun e => ?_) (fun e => ?_)⟩
    · have ne : ns.length % rn ≠ 0 := fun z => by
        have e : (!decide (V.int (((ns.map V.int).length : Int) % (rn : Int)) = V.int 0)) = true := e
        rw [em, z] at e
        exact absurd e (by decide)
      exact mk_inner0 (fun H3 d s3 nd ed => qn ok hB ne H3 d (s1.trans s3) (s1.free nd) ed)
    have z0 : ns.length % rn = 0 := by
      have e : ¬ (!decide (V.int (((ns.map V.int).length : Int) % (rn : Int)) = V.int 0)) = true := e
      rw [em] at e
      by_cases z : ns.length % rn = 0
      · exact z
      · exfalso
        refine e ?_
        rw [decide_eq_false (fun y => z (by have := V.int.inj y; omega))]
        rfl
    have hlen : ns.length = rn * (ns.length / rn) := by
      have := Nat.div_add_mod ns.length rn
      omega
    generalize hN : ns.length / rn = N at hlen
    -- row
    refine ⟨_, rfl, a, _, rfl, .inl (s1.seq hS), fun p2 n2 => ?_⟩
    have s2 := s1.trans (same_upd (o := .lst (ns.map V.int)) n2)
    refine ⟨(by show 1 ≤ sizeLine; decide), fun p3 n3 => ?_⟩
    have s3 := s2.trans (same_upd (o := .lst [.int 0]) n3)
    refine ⟨_, rfl, _, _, rfl, rfl, .inl ⟨by decide, by decide⟩, ?_⟩
    refine ⟨p3, _, _, rfl, rfl, upd_same, by omega, by omega, (sz4 (by show 1 * (2 * (rn : Int)).toNat ≤ 100000; omega)), fun p4 n4 => ?_⟩
    have er : (2 * (rn : Int)).toNat = 2 * rn := by omega
    rw [er, show (List.replicate (2 * rn) [V.int 0]).flatten = (List.replicate (2 * rn) (0 : Int)).map V.int from rep1 0 _]
    have s4 := s3.trans (same_upd (o := .lst ((List.replicate (2 * rn) (0 : Int)).map V.int)) n4)
    have e2 : upd (upd (upd H1 p2 (.lst (ns.map V.int))) p3 (.lst [.int 0])) p4 (.lst ((List.replicate (2 * rn) (0 : Int)).map V.int)) p2 = some (.lst (ns.map V.int)) := same_upd n4 _ _ (same_upd n3 _ _ upd_same)
    have e4 : upd (upd (upd H1 p2 (.lst (ns.map V.int))) p3 (.lst [.int 0])) p4 (.lst ((List.replicate (2 * rn) (0 : Int)).map V.int)) p4 = some (.lst ((List.replicate (2 * rn) (0 : Int)).map V.int)) := upd_same
    generalize upd (upd (upd H1 p2 (.lst (ns.map V.int))) p3 (.lst [.int 0])) p4 (.lst ((List.replicate (2 * rn) (0 : Int)).map V.int)) = H4 at s4 e2 e4 ⊢
    refine ⟨p2, p4, _, _, rfl, rfl, e2, e4, (by rw [List.length_map, List.length_map, List.length_replicate]; exact sz4 (by omega)), fun pr n5 => ?_⟩
    rw [← List.map_append]
    have s5 := s4.trans (same_upd (o := .lst ((ns ++ List.replicate (2 * rn) 0).map V.int)) n5)
    have npr : H pr = none := s4.free n5
    have hrb : Bits (ns ++ List.replicate (2 * rn) 0) := bits_app hB (fun z hz => .inl (List.eq_of_mem_replicate hz))
    have hrl : (ns ++ List.replicate (2 * rn) 0).length = rn * (N + 2) := by rw [List.length_append, List.length_replicate, hlen, Nat.mul_add]; omega
    have hbt := bts_tail (r := rn) (by omega) hlen (2 * rn)
    generalize ns ++ List.replicate (2 * rn) 0 = row at *
    have er5 : upd H4 pr (.lst (row.map V.int)) pr = some (.lst (row.map V.int)) := upd_same
    generalize upd H4 pr (.lst (row.map V.int)) = H5 at s5 er5 ⊢
    refine name_by ?_
    dsimp only
    refine ⟨Nat.zero_le _, fun po no => ?_⟩
    have no0 : H po = none := s5.free no
    have s6 := s5.trans (same_upd (o := .lst []) no)
    have nrl : rn * (N + 2) ≤ 2100 := by rw [Nat.mul_add, ← hlen]; omega
    refine ⟨_, rfl, pr, _, rfl, .inl (SqL.of (same_upd no _ _ er5)), _, rfl, 0, _, (rn : Int), N + 2, rfl, ?_, ?_⟩
    · have hm : ((row.map V.int).length : Int) = ((N + 2 : Nat) : Int) * (rn : Int) := by rw [List.length_map, hrl, Int.natCast_mul, Int.mul_comm]
      rw [hm]
      exact rgc_pos ok (by rw [← Int.natCast_mul, Nat.mul_comm]; omega)
    refine for_rangeC (lo := 0) (c := (rn : Int)) (n := N + 2) (fun i σ H' => ∃ (y5 y6 : Option V), σ = [some (.ref a), some (.int (rn : Int)), some (.ref pr), some (.ref po), some (.int (stB 0 ((bts rn (N + 2) row).take i))), y5, y6] ∧ Same H H' ∧ H' pr = some (.lst (row.map V.int)) ∧ H' po = some (.lst ((codeB 0 ((bts rn (N + 2) row).take i)).map V.int)))
      ⟨none, none, rfl, s6, same_upd no _ _ er5, upd_same⟩ ?_ ?_
    · rintro i σ H7 hi ⟨y5, y6, rfl, s7, er7, eo7⟩
      have hbi := bts_at (r := rn) (row := row) hi
      have hst : St4 (stB 0 ((bts rn (N + 2) row).take i)) := stB_st st4_0 (fun b hb => bts_bits hrb b (List.mem_of_mem_take hb))
      have hix := idx_le hi hrl
      have hfb := bt_bit (r := rn) hrb i
      have hcl : (codeB 0 ((bts rn (N + 2) row).take i)).length ≤ 3000 := by
        rw [codeB_len, List.length_take, bts_len]
        have : N + 2 ≤ rn * (N + 2) := Nat.le_mul_of_pos_left _ (by omega)
        omega
      rw [stB_more hbi, codeB_more hbi]
      generalize stB 0 ((bts rn (N + 2) row).take i) = st at hst ⊢
      generalize codeB 0 ((bts rn (N + 2) row).take i) = co at eo7 hcl ⊢
      have ei : (0 : Int) + (i : Int) * (rn : Int) = ((i * rn : Nat) : Int) := by rw [Int.zero_add, Int.natCast_mul]
      rw [ei]
      have g0 : (row.map V.int)[i * rn]? = some (.int (bt rn row i).1) := by
        show _ = some (V.int (row.getD (i * rn) 0))
        rw [List.getElem?_map, List.getD_eq_getElem?_getD, List.getElem?_eq_getElem (by omega)]
        rfl
      refine ⟨_, rfl, _, rfl, pr, _, _, _, rfl, rfl, SqL.of er7, atI_nat g0, ?_⟩
      refine ⟨_, rfl, .inl ⟨rfl, _, SqL.of eo7⟩, _, rfl, _, rfl, _, _, rfl, rfl, _, rfl, _, rfl, _, rfl, _, _, rfl, rfl, _, rfl, pr, _, rfl, SqL.of er7, fun p8 n8 => ?_⟩
      have ec : cutV (row.map V.int) (some (((i * rn : Nat) : Int) + 1)) (some (((i * rn : Nat) : Int) + (rn : Int))) = ((row.drop (i * rn + 1)).take (rn - 1)).map V.int := by
        have h1 : ((i * rn : Nat) : Int) + 1 = ((i * rn + 1 : Nat) : Int) := rfl
        have h2 : ((i * rn : Nat) : Int) + (rn : Int) = ((i * rn + rn : Nat) : Int) := rfl
        rw [h1, h2, cut_mid _ _ _ (by omega), show i * rn + rn - (i * rn + 1) = rn - 1 by omega, List.map_take, List.map_drop]
      rw [ec]
      have s8 := same_upd (o := .lst (((row.drop (i * rn + 1)).take (rn - 1)).map V.int)) n8
      have hcb : Bits ((row.drop (i * rn + 1)).take (rn - 1)) := bits_take (bits_drop hrb _) _
      refine ⟨p8, _, rfl, SqL.of upd_same, (by rw [List.length_take]; omega), (fun _ _ H9 s9 => ?_), (fun _ z => absurd z (by rw [List.length_take]; omega)), (fun i' z hz nb => (nb (hcb z (List.mem_of_getElem? hz))).elim)⟩
      have s89 := s8.trans s9
      refine ⟨_, _, rfl, rfl, .inl ⟨by decide, by decide⟩, _, rfl, _, rfl, _, _, rfl, hst, hfb, _, _, rfl, rfl, po, _, _, rfl, rfl, s89 _ _ eo7, ?_, ?_⟩
      · rw [List.length_map]
        exact sz4l (by omega)
      refine ⟨_, rfl, _, rfl, _, _, rfl, ?_⟩
      refine ⟨_, _, rfl, same_mut (s7.trans s89) no0, ?_, ?_⟩
      · rw [upd_ne (fun z => by rw [z, eo7] at er7; exact absurd no0 (by intro _; exact ne_of_none er5 no z))]
        exact s89 _ _ er7
      · rw [upd_same, List.map_append]
        rfl
    · rintro σ H7 ⟨y5, y6, rfl, s7, er7, eo7⟩
      rw [List.take_of_length_le (by rw [bts_len]; exact Nat.le_refl _), hbt, ← rowB_of (by omega) hlen] at eo7
      exact ⟨_, rfl, q ok hB z0 H7 po s7 no0 eo7⟩
/-- a comprehension over zip of two lists of one length -/
theorem lc_zip {a b : Addr} {xs ys : List V} {g : TG} {tt : TT} {te : TE} {vs : List Nat} {σ : L2.St} {H1 : Hp} {D : Addr} {Qd : Hp → Prop} (hl : xs.length = ys.length) (Pv : Nat → Hp → Prop) (h0 : Pv 0 (upd H1 D (.lst []))) (hq : ∀ i H, Pv i H → SqL K H a xs ∧ SqL K H b ys)
    (hs : ∀ (i : Nat) (x y : V) (T : Addr) (H : Hp), xs[i]? = some x → ys[i]? = some y → Pv i H → H T = none → g (.ref T) (wipe σ vs) (upd H T (.tup [x, y])) fun σ2 H2 => wipe σ2 vs = wipe σ vs ∧ tt σ2 H2 fun b H3 =>
      if b = true then te σ2 H3 fun y H4 => ∃ acc, H4 D = some (.lst acc) ∧ acc.length < sizeLine ∧ Pv (i + 1) (upd H4 D (.lst (acc ++ [y]))) else Pv (i + 1) H3) (hd : ∀ H, Pv xs.length H → Qd H) :
    ∃ W : Nat → Nat → Hp → Prop, (∃ m, W 0 m (upd H1 D (.lst []))) ∧ ∀ i m H, W i m H →
      ((Itz K a b).stop i H ∧ Qd H) ∨ ((Itz K a b).go i H ∧ ∃ Nx : Hp → Prop, (∀ H', Nx H' → ∃ m', m' < m ∧ W (i + 1) m' H') ∧ ∀ x H', (Itz K a b).yld i H x H' → g x (wipe σ vs) H' fun σ2 H2 => wipe σ2 vs = wipe σ vs ∧ tt σ2 H2 fun b H3 =>
        if b = true then te σ2 H3 fun y H4 => ∃ acc, H4 D = some (.lst acc) ∧ acc.length < sizeLine ∧ Nx (upd H4 D (.lst (acc ++ [y]))) else Nx H3) := by
  refine ⟨fun i m H => m = xs.length - i ∧ i ≤ xs.length ∧ Pv i H, ⟨xs.length, rfl, Nat.zero_le _, h0⟩, ?_⟩
  rintro i m H ⟨rfl, hi, p⟩
  obtain ⟨qx, qy⟩ := hq i H p
  by_cases hlt : i < xs.length
  · have hx : xs[i]? = some xs[i] := List.getElem?_eq_getElem hlt
    have hlt2 : i < ys.length := by omega
    have hy : ys[i]? = some ys[i] := List.getElem?_eq_getElem hlt2
    refine .inr ⟨⟨xs, ys, _, _, qx, qy, hx, hy⟩, Pv (i + 1), fun H' p' => ⟨xs.length - (i + 1), by omega, rfl, hlt, p'⟩, fun v H' y => ?_⟩
    obtain ⟨T, x', y', rfl, hT, rfl, f1, f2⟩ := y
    exact hs i x' y' T H (f1 xs qx) (f2 ys qy) p hT
  · have e : i = xs.length := by omega
    subst e
    exact .inl ⟨⟨xs, ys, qx, qy, Or.inl (Nat.le_refl _)⟩, hd H p⟩
theorem asgG_by {te : TE} {g : TG} {u : TS} {D : Ends} {σ : L2.St} {H : Hp} (J : V → Hp → Prop) (h2 : ∀ v H1, J v H1 → g v σ H1 (u D)) (h1 : (∀ v H1, J v H1 → g v σ H1 (u D)) → te σ H (fun x H1 => g x σ H1 (u D))) : tSeq (tAsg te g) u D σ H := h1 h2
theorem ixN_nat {i n : Nat} (h : i < n) : ixN n (i : Int) = some i := by
  unfold ixN
  rw [if_pos (by omega), if_pos (by omega)]
  simp
theorem sc_nearest : FnScope ["rate"] ["rate"] (defScope s_nearest) := ⟨rfl, rfl, rfl, by decide +kernel, rfl, by decide +kernel, by decide +kernel⟩
def spNear (cR : Addr) : Sp := fun vs H Q E => ∃ (r : Int), vs = [.int r] ∧
  (okR r → ∀ (H' : Hp) (p p1 p2 : Addr), Same H H' → H p = none → H p1 = none → H p2 = none → p1 ≠ p2 → p ≠ p1 → p ≠ p2 → H' p = some (.tup [.ref p1, .ref p2]) → H' p1 = some (.lst ((List.replicate r.toNat (0 : Int)).map V.int)) → H' p2 = some (.lst (((1 : Int) :: List.replicate (r.toNat - 1) 0).map V.int)) → Q (.ref p) H') ∧ (¬ okR r → Ref0 cR "BadRate" H E)
theorem ok_nearest {f cR : Addr} {fd : FuncData} {k : Nat} {kws : List (Str × V)} (F : FunD K "nearest" "nearest" (defArgs s_nearest) (defBody s_nearest) (defScope s_nearest) [] kws f fd) (c_check_rate : CalX P w K mg base k "check_rate" ["rate"] (spCR cR)) : FnOk P w K mg base (L2.CX P w) (k + 1) f fd ["rate"] (spNear cR) := by
  have sc := sc_nearest
  refine F.ok sc (fun vs H Q E h => ?_) (fun cdv A outer s H vs Q E hr h => ?_)
  · obtain ⟨r, rfl, _⟩ := h
    rfl
  · obtain ⟨r, rfl, q, qr⟩ := h
    refine ⟨_, (pss_cons (ps_expr (pe_callP c_check_rate hr (passes_call (takes_of rfl rfl rfl rfl) (fun _ _ _ _ h => h)) (by rfl) (pa_cons (pv 0) pa_nil)))
 (pss_one (ps_ret (pe_tup (pa_cons (pe_op op_rep (pe_lst (pa_cons pe_int pa_nil)) (pv 0)) (pa_cons (pe_op op_cat (pe_lst (pa_cons pe_int pa_nil)) (pe_op op_rep (pe_lst (pa_cons pe_int pa_nil)) (pe_op op_sub (pv 0) pe_int))) pa_nil)))))), ?_⟩
    refine ⟨_, rfl, r, rfl, (fun ok => ?_), qr⟩
    obtain ⟨r1, r4⟩ := id ok
    obtain ⟨rn, rfl⟩ : ∃ rn : Nat, r = (rn : Int) := ⟨r.toNat, by omega⟩
    rw [Int.toNat_natCast] at q
    refine ⟨(by show 1 ≤ sizeLine; decide), fun p1 n1 => ⟨_, rfl, p1, (rn : Int), _, rfl, rfl, upd_same, by omega, by omega, ?_, fun p2 n2 => ?_⟩⟩
    · show 1 * _ ≤ sizeLine
      rw [Int.toNat_natCast, Nat.one_mul]
      exact sz4 (by omega)
    rw [Int.toNat_natCast, rep1]
    have s1 := same_upd (o := .lst [.int 0]) n1
    have s2 := s1.trans (same_upd (o := .lst ((List.replicate rn (0 : Int)).map V.int)) n2)
    have f2 := s1.free n2
    have e2 : upd (upd H p1 (.lst [.int 0])) p2 (.lst ((List.replicate rn (0 : Int)).map V.int)) p2 = some (.lst ((List.replicate rn (0 : Int)).map V.int)) := upd_same
    generalize upd (upd H p1 (.lst [.int 0])) p2 (.lst ((List.replicate rn (0 : Int)).map V.int)) = H2 at s2 e2 ⊢
    clear n2
    refine ⟨(by show 1 ≤ sizeLine; decide), fun p3 n3 => ⟨(by show 1 ≤ sizeLine; decide), fun p4 n4 => ⟨_, rfl, _, _, rfl, rfl, p4, _, _, rfl, rfl, upd_same, ?_, ?_, ?_, fun p5 n5 => ?_⟩⟩⟩
    · show -2 ^ 63 ≤ (rn : Int) - 1
      omega
    · show (rn : Int) - 1 < _
      omega
    · show 1 * ((rn : Int) - 1).toNat ≤ sizeLine
      rw [Nat.one_mul]
      exact sz4 (by omega)
    have ern : ((rn : Int) - 1).toNat = rn - 1 := by omega
    rw [ern, rep1]
    have s5 : Same H2 (upd (upd (upd H2 p3 (.lst [.int 1])) p4 (.lst [.int 0])) p5 (.lst ((List.replicate (rn - 1) (0 : Int)).map V.int))) := ((same_upd n3).trans (same_upd n4)).trans (same_upd n5)
    have e35 : upd (upd (upd H2 p3 (.lst [.int 1])) p4 (.lst [.int 0])) p5 (.lst ((List.replicate (rn - 1) (0 : Int)).map V.int)) p3 = some (.lst [.int 1]) := same_upd n5 _ _ (same_upd n4 _ _ upd_same)
    have e55 : upd (upd (upd H2 p3 (.lst [.int 1])) p4 (.lst [.int 0])) p5 (.lst ((List.replicate (rn - 1) (0 : Int)).map V.int)) p5 = some (.lst ((List.replicate (rn - 1) (0 : Int)).map V.int)) := upd_same
    generalize upd (upd (upd H2 p3 (.lst [.int 1])) p4 (.lst [.int 0])) p5 (.lst ((List.replicate (rn - 1) (0 : Int)).map V.int)) = H5 at s5 e35 e55 ⊢
    refine ⟨p3, p5, _, _, rfl, rfl, e35, e55, (by rw [List.length_map, List.length_replicate]; exact sz4 (by show 1 + (rn - 1) ≤ 100000; omega)), fun p6 n6 => ?_⟩
    have s6 := s5.trans (same_upd (o := .lst ([V.int 1] ++ (List.replicate (rn - 1) (0 : Int)).map V.int)) n6)
    have e6 : upd H5 p6 (.lst ([V.int 1] ++ (List.replicate (rn - 1) (0 : Int)).map V.int)) p6 = some (.lst (((1 : Int) :: List.replicate (rn - 1) 0).map V.int)) := upd_same
    have f6 := s5.free n6
    have g6 := s2.free f6
    have n26 : p2 ≠ p6 := ne_of_none (s5 _ _ e2) n6
    generalize upd H5 p6 (.lst ([V.int 1] ++ (List.replicate (rn - 1) (0 : Int)).map V.int)) = H6 at s6 e6 ⊢
    refine ⟨(by show 2 ≤ sizeLine; decide), fun p7 n7 => ?_⟩
    have s7 := same_upd (o := .tup [.ref p2, .ref p6]) n7
    exact q ok _ p7 p2 p6 (s2.trans (s6.trans s7)) (s2.free (s6.free n7)) f2 g6 n26 (ne_of_none (s6 _ _ e2) n7).symm (ne_of_none e6 n7).symm upd_same (s7 _ _ (s6 _ _ e2)) (s7 _ _ e6)
theorem sc_least_distance : FnScope ["rate", "one", "other", "here", "there", "number", "place", "opposite"] ["rate"] (defScope s_least_distance) := ⟨rfl, rfl, rfl, by decide +kernel, rfl, by decide +kernel, by decide +kernel⟩
theorem codeB_pts {r : Nat} (ok : okR (r : Int)) : ∀ (bs : List Bt) (s : Int), GoodBs r bs → ∀ c ∈ codeB s bs, 0 ≤ c ∧ c < ptsI (r : Int)
  | [], _, _, c, hc => nomatch hc
  | b :: bs, s, hg, c, hc => by
    rcases List.mem_cons.mp hc with rfl | hc
    · exact beat_num ok (hg b (.head _))
    · exact codeB_pts ok bs _ (fun x hx => hg x (.tail _ hx)) c hc
theorem codeL_pts {r : Nat} {ns : List Int} (ok : okR (r : Int)) (hB : Bits ns) : ∀ c ∈ codeL r ns, 0 ≤ c ∧ c < ptsI (r : Int) := by
  obtain ⟨r1, _⟩ := id ok
  refine codeB_pts ok _ 0 ?_
  unfold rowB
  exact good_app (bts_good (by omega) hB) tl2_good
def spLD (cR : Addr) : Sp := fun vs H Q E => ∃ (r : Int), vs = [.int r] ∧ (okR r → ∀ H', Same H H' → Q (.int (9 * stepI r ^ 2)) H') ∧ (¬ okR r → Ref0 cR "BadRate" H E)
theorem near_dist {r : Nat} (ok : okR (r : Int)) : dZ (r : Int) (codeL r (List.replicate r 0)) (codeL r ((1 : Int) :: List.replicate (r - 1) 0)) = 9 * stepI (r : Int) ^ 2 ∧ (codeL r (List.replicate r 0)).length = 3 ∧ (codeL r ((1 : Int) :: List.replicate (r - 1) 0)).length = 3 := by
  have : r = 1 ∨ r = 2 ∨ r = 3 ∨ r = 4 := by obtain ⟨a, b⟩ := ok; omega
  rcases this with rfl | rfl | rfl | rfl <;> decide +kernel
theorem ok_least_distance {f cB cN cR : Addr} {fd : FuncData} {k : Nat} {kws : List (Str × V)} (F : FunD K "least_distance" "least_distance" (defArgs s_least_distance) (defBody s_least_distance) (defScope s_least_distance) [] kws f fd) (n_sum : mg "sum" = none) (n_zip : mg "zip" = none) (c_apart : Cal P w K mg base k "apart" ["one", "other"] spApart)
    (cw_point_1_rate : CalW P w K mg base k "point" ["number", "rate"] 1 ["rate"] (fun vs zs => vs ++ zs) (spPoint cN cR)) (cw_coded_1_rate : CalW P w K mg base k "coded" ["bits", "rate"] 1 ["rate"] (fun vs zs => vs ++ zs) (spCoded K cB cN cR)) (cw_nearest_0_rate : CalW P w K mg base k "nearest" ["rate"] 0 ["rate"] (fun vs zs => vs ++ zs) (spNear cR)) : FnOk P w K mg base (L2.CX P w) (k + 1) f fd ["rate"] (spLD cR) := by
  have sc := sc_least_distance
  refine F.ok sc (fun vs H Q E h => ?_) (fun cdv A outer s H vs Q E hr h => ?_)
  · obtain ⟨r, rfl, _⟩ := h
    rfl
  · obtain ⟨r, rfl, q, qr⟩ := h
    refine ⟨_, (pss_cons (ps_asg (pe_callW0 cw_nearest_0_rate hr (passes_call (takes_of rfl rfl rfl rfl) (fun _ _ _ _ h => h)) (by rfl) (pk_cons (pv 0) pk_nil)) (pg_tup rfl (pgs_cons (pg_name (i := 1) sc.nd rfl (.inl rfl)) (pgs_cons (pg_name (i := 2) sc.nd rfl (.inl rfl)) pgs_nil))))
 (pss_cons (ps_setLc (i := 3) (own := [("number", 5)]) (g := gName 5) (by rfl) sc.nd rfl rfl (sw_true rfl rfl rfl (by decide +kernel)) (pi_listK K rfl (pe_callWF cw_coded_1_rate hr (by rfl) (pa_cons (pv 1) pa_nil) (pk_cons (pv 0) pk_nil))) (blkOk_by (own := [("number", 5)]) (N := ["rate", "one", "other", "here", "there", "number", "place", "opposite"]) (sc := defScope s_least_distance) (by decide +kernel)) (fun _ _ _ _ _ => (pg_name (i := 5) sc.nd rfl (Or.inl rfl))) (fun _ _ _ _ _ => pts_nil) (fun _ _ _ _ _ => (pe_callWF cw_point_1_rate hr (by rfl) (pa_cons (pv 5) pa_nil) (pk_cons (pv 0) pk_nil))))
 (pss_cons (ps_setLc (i := 4) (own := [("number", 5)]) (g := gName 5) (by rfl) sc.nd rfl rfl (sw_true rfl rfl rfl (by decide +kernel)) (pi_listK K rfl (pe_callWF cw_coded_1_rate hr (by rfl) (pa_cons (pv 2) pa_nil) (pk_cons (pv 0) pk_nil))) (blkOk_by (own := [("number", 5)]) (N := ["rate", "one", "other", "here", "there", "number", "place", "opposite"]) (sc := defScope s_least_distance) (by decide +kernel)) (fun _ _ _ _ _ => (pg_name (i := 5) sc.nd rfl (Or.inl rfl))) (fun _ _ _ _ _ => pts_nil) (fun _ _ _ _ _ => (pe_callWF cw_point_1_rate hr (by rfl) (pa_cons (pv 5) pa_nil) (pk_cons (pv 0) pk_nil))))
 (pss_one (ps_ret (pe_callB (cr_sumK K rfl rfl) (by rfl) n_sum (by decide +kernel) (pa_cons (pe_lc (own := [("place", 6), ("opposite", 7)]) (g := gTup K 2 (gCons (gName 6) (gCons (gName 7) gNil))) (by rfl) sc.nd (pi_zip (by rfl) n_zip (pa_cons (pv 3) (pa_cons (pv 4) pa_nil))) (blkOk_by (own := [("place", 6), ("opposite", 7)]) (N := ["rate", "one", "other", "here", "there", "number", "place", "opposite"]) (sc := defScope s_least_distance) (by decide +kernel)) (fun _ _ _ _ _ => (pg_tup rfl (pgs_cons (pg_name (i := 6) sc.nd rfl (Or.inl rfl)) (pgs_cons (pg_name (i := 7) sc.nd rfl (Or.inl rfl)) pgs_nil)))) (fun _ _ _ _ _ => pts_nil) (fun _ _ _ _ _ => (pe_op op_pow (pe_callC c_apart hr (by rfl) (pa_cons (pv 6) (pa_cons (pv 7) pa_nil))) pe_int))) pa_nil))))))), ?_⟩
    refine ⟨_, rfl, rfl, rfl, r, rfl, (fun ok H1 p p1 p2 s1 n1 n2 n3 _ _ _ e1 e2 e3 => ?_), qr⟩
    obtain ⟨r1, r4⟩ := id ok
    obtain ⟨rn, rfl⟩ : ∃ rn : Nat, r = (rn : Int) := ⟨r.toNat, by omega⟩
    rw [Int.toNat_natCast] at e2 e3
    obtain ⟨hd, l1, l2⟩ := near_dist ok
    have hb1 : Bits (List.replicate rn 0) := fun z hz => .inl (List.eq_of_mem_replicate hz)
    have hb2 : Bits ((1 : Int) :: List.replicate (rn - 1) 0) := fun z hz => by
      rcases List.mem_cons.mp hz with rfl | hz
      · exact .inr rfl
      · exact .inl (List.eq_of_mem_replicate hz)
    have hc1 := codeL_pts ok hb1
    have hc2 := codeL_pts ok hb2
    refine ⟨p, _, rfl, SqT.of e1, rfl, _, _, rfl, _, _, rfl, rfl, ?_⟩
    -- here
    refine ⟨_, rfl, _, rfl, rfl, rfl, p1, _, (rn : Int), rfl, SqL.of e2, (by rw [List.length_replicate]; omega), (fun _ _ _ H2 pa s2 na ea => ?_), (fun _ _ z => absurd (by rw [List.length_replicate, Int.toNat_natCast]; exact Nat.mod_self _) z), (fun _ i' z hz nb => (nb (hb1 z (List.mem_of_getElem? hz))).elim), (fun no => absurd ok no)⟩
    rw [Int.toNat_natCast] at ea
    generalize codeL rn (List.replicate rn 0) = cs1 at ea hd l1 hc1
    refine ⟨pa, rfl, ⟨_, SqL.of ea⟩, fun D nD => lc_list (K := K) (a := pa) (xs := cs1.map V.int) (fun i H' => Same H2 H' ∧ H' D = some (.lst (((cs1.take i).map fun c => pointI c (rn : Int)).map V.int))) ⟨same_upd nD, upd_same⟩ (fun i H' _ h => SqL.of (h.1 _ _ ea)) ?_ ?_⟩
    · rintro i x H3 hx ⟨s3, eD⟩
      obtain ⟨z, hz, rfl⟩ := getI hx
      have hi : i < cs1.length := (List.getElem?_eq_some_iff.mp hz).1
      obtain ⟨z0, z1⟩ := hc1 z (List.mem_of_getElem? hz)
      refine ⟨rfl, tYes_by (iteT ?_)⟩
      refine ⟨_, rfl, _, rfl, rfl, rfl, z, (rn : Int), rfl, (fun _ _ _ => ?_), (fun _ bad => by rcases bad with y | y <;> omega), (fun no => absurd ok no)⟩
      refine ⟨_, eD, ?_, same_mut s3 nD, ?_⟩
      · rw [List.length_map, List.length_map, List.length_take]
        exact sz4l (by omega)
      · rw [upd_same, take_more hz, List.map_append, List.map_append]
        rfl
    rintro H3 ⟨s3, eD⟩
    rw [List.length_map, List.take_length] at eD
    have s13 := (s1.trans s2).trans s3
    have e33 := s3 _ _ (s2 _ _ e3)
    refine name_by ?_
    dsimp only
    -- there
    refine ⟨_, rfl, _, rfl, rfl, rfl, p2, _, (rn : Int), rfl, SqL.of e33, (by rw [List.length_cons, List.length_replicate]; omega), (fun _ _ _ H4 pb s4 nb eb => ?_), (fun _ _ z => absurd (by rw [List.length_cons, List.length_replicate, Int.toNat_natCast, Nat.sub_add_cancel (by omega)]; exact Nat.mod_self _) z), (fun _ i' z hz nb => (nb (hb2 z (List.mem_of_getElem? hz))).elim), (fun no => absurd ok no)⟩
    rw [Int.toNat_natCast] at eb
    generalize codeL rn ((1 : Int) :: List.replicate (rn - 1) 0) = cs2 at eb hd l2 hc2
    refine ⟨pb, rfl, ⟨_, SqL.of eb⟩, fun D2 nD2 => lc_list (K := K) (a := pb) (xs := cs2.map V.int) (fun i H' => Same H4 H' ∧ H' D2 = some (.lst (((cs2.take i).map fun c => pointI c (rn : Int)).map V.int))) ⟨same_upd nD2, upd_same⟩ (fun i H' _ h => SqL.of (h.1 _ _ eb)) ?_ ?_⟩
    · rintro i x H5 hx ⟨s5, eD2⟩
      obtain ⟨z, hz, rfl⟩ := getI hx
      have hi : i < cs2.length := (List.getElem?_eq_some_iff.mp hz).1
      obtain ⟨z0, z1⟩ := hc2 z (List.mem_of_getElem? hz)
      refine ⟨rfl, tYes_by (iteT ?_)⟩
      refine ⟨_, rfl, _, rfl, rfl, rfl, z, (rn : Int), rfl, (fun _ _ _ => ?_), (fun _ bad => by rcases bad with y | y <;> omega), (fun no => absurd ok no)⟩
      refine ⟨_, eD2, ?_, same_mut s5 nD2, ?_⟩
      · rw [List.length_map, List.length_map, List.length_take]
        exact sz4l (by omega)
      · rw [upd_same, take_more hz, List.map_append, List.map_append]
        rfl
    rintro H5 ⟨s5, eD2⟩
    rw [List.length_map, List.take_length] at eD2
    have s15 := (s13.trans s4).trans s5
    have eD5 := s5 _ _ (s4 _ _ eD)
    refine name_by ?_
    dsimp only
    -- sum
    refine ⟨_, rfl, _, rfl, D, D2, _, _, rfl, SqL.of eD5, SqL.of eD2, fun D3 nD3 => lc_zip (K := K) (xs := (cs1.map fun c => pointI c (rn : Int)).map V.int) (ys := (cs2.map fun c => pointI c (rn : Int)).map V.int) (by rw [List.length_map, List.length_map, List.length_map, List.length_map, l1, l2]) (fun i H' => Same H5 H' ∧ H' D3 = some (.lst ((((cs1.take i).zip (cs2.take i)).map fun p => sqA (pointI p.1 (rn : Int)) p.2 (rn : Int)).map V.int))) ⟨same_upd nD3, upd_same⟩ (fun i H' h => ⟨SqL.of (h.1 _ _ eD5), SqL.of (h.1 _ _ eD2)⟩) ?_ ?_⟩
    · rintro i x y T H6 hx hy ⟨s6, eD3⟩ nT
      obtain ⟨t1, ht1, rfl⟩ := getI hx
      obtain ⟨t2, ht2, rfl⟩ := getI hy
      obtain ⟨c1, hc1', rfl⟩ : ∃ c, cs1[i]? = some c ∧ t1 = pointI c (rn : Int) := by
        rw [List.getElem?_map] at ht1
        cases ec : cs1[i]? with
        | none => rw [ec] at ht1; cases ht1
        | some c => rw [ec] at ht1; exact ⟨c, rfl, (Option.some.inj ht1).symm⟩
      obtain ⟨c2, hc2', rfl⟩ : ∃ c, cs2[i]? = some c ∧ t2 = pointI c (rn : Int) := by
        rw [List.getElem?_map] at ht2
        cases ec : cs2[i]? with
        | none => rw [ec] at ht2; cases ht2
        | some c => rw [ec] at ht2; exact ⟨c, rfl, (Option.some.inj ht2).symm⟩
      have hi1 := (List.getElem?_eq_some_iff.mp hc1').1
      have hi2 := (List.getElem?_eq_some_iff.mp hc2').1
      have s7 := s6.trans (same_upd (o := .tup [.int (pointI c1 (rn : Int)), .int (pointI c2 (rn : Int))]) nT)
      have eD7 := same_upd (o := .tup [.int (pointI c1 (rn : Int)), .int (pointI c2 (rn : Int))]) nT _ _ eD3
      have hap := apart_le (pointI c1 (rn : Int)) (pointI c2 (rn : Int))
      refine ⟨T, _, rfl, SqT.of upd_same, rfl, _, _, rfl, _, _, rfl, rfl, ?_⟩
      refine ⟨rfl, tYes_by (iteT ?_)⟩
      refine ⟨_, rfl, _, rfl, _, _, rfl, _, _, rfl, rfl, ⟨by decide, by decide, by omega⟩, _, eD7, ?_, same_mut s7 nD3, ?_⟩
      · rw [List.length_map, List.length_map, List.length_zip, List.length_take, List.length_take]
        exact sz4l (by omega)
      · rw [upd_same, take_more hc1', take_more hc2', List.zip_append (by rw [List.length_take, List.length_take]; omega), List.map_append, List.map_append]
        rfl
    · rintro H6 ⟨s6, eD3⟩
      rw [List.length_map, List.length_map, List.take_length, l1, ← l2, List.take_length] at eD3
      refine ⟨D3, _, rfl, SqL.of eD3, ?_⟩
      have : ((cs1.zip cs2).map fun p => sqA (pointI p.1 (rn : Int)) p.2 (rn : Int)).sum = 9 * stepI (rn : Int) ^ 2 := hd
      rw [this]
      exact q ok H6 (s15.trans s6)
theorem sc__law_tried : FnScope ["_law_act", "e"] ["_law_act"] (defScope s__law_tried) := ⟨rfl, rfl, rfl, by decide +kernel, rfl, by decide +kernel, by decide +kernel⟩
/-- what the law's tried makes of a lambda: told, or refused by one of two classes, whose word it tells -/
def TTried2 (C1 : Addr) (nm1 : Str) (C2 : Addr) (nm2 : Str) : (XK → Hp → VK → Prop) → Hp → VK → Prop := fun tl H Q =>
  tl (fun cls d H' => ∃ (dd : Addr) (fs : List (Str × V)), d = some dd ∧ H' dd = some (.xd fs) ∧ ((cls = .ref C1 ∧ fs.lookup ("word" : Str) = some (.str nm1) ∧ ∀ p, H' p = none → Q (.ref p) (upd H' p (.tup [.str "refused", .str nm1]))) ∨ (cls = .ref C2 ∧ fs.lookup ("word" : Str) = some (.str nm2) ∧ ∀ p, H' p = none → Q (.ref p) (upd H' p (.tup [.str "refused", .str nm2]))))) H
    (fun v H1 => ([V.str "told", v] : List V).length ≤ sizeLine ∧ ∀ p, H1 p = none → Q (.ref p) (upd H1 p (.tup [.str "told", v])))
theorem tried2_gives {X : Cx} {g c1 c2 cL cM : Addr} {cdg : Value} {q nm1 nm2 : Str} (x1 : XfC X.K c1) (no1 : PySem.W.findIn X.K (.ref c1) "word" = some none) (x2 : XfC X.K c2) (no2 : PySem.W.findIn X.K (.ref c2) "word" = some none) (gL : X.mg "LineError" = some (.ref cL)) (gM : X.mg "Missing" = some (.ref cM))
    (nl1 : PySem.W.exmOne X.K (.ref c1) (.ref cL) = some true) (nl2 : PySem.W.exmOne X.K (.ref c2) (.ref cL) = some true) :
    LamX.GivesTo X ["_law_act", "e"] "_law_tried" (defScope s__law_tried) g cdg (defBody s__law_tried) "_law_act" q (TTried2 c1 nm1 c2 nm2) := by
  intro f c' s H Q tl act hc h
  have sc := sc__law_tried
  refine ⟨_, pss_one (ps_try_manyA (X := (cxOf C8.CX0 X.prog X.w X.K X.mg X.base ["_law_act", "e"] "_law_tried" (defScope s__law_tried) g cdg X.A X.stack s H C8.E0).nox) (n := "e") (i := 1)
      (tb := fun W D σ H => ∃ Ech : XK, (∀ cls d σ' H', Ech cls d H' → σ'.length = 2 → W cls d σ' H') ∧ σ[0]? = some (some (.ref f)) ∧ H c' = some (LamX.CodeO c' q) ∧ tl Ech H (fun v H1 => ([V.str "told", v] : List V).length ≤ sizeLine ∧ ∀ p, H1 p = none → D.rt (.ref p) (upd H1 p (.tup [.str "told", v]))))
      rfl rfl sc.nd rfl rfl LamX.takes0 (fun W pn xe tk _ => ?_)
      (.cons (c := .ref cL) ⟨by rfl, by decide, .inl gL⟩ (fun a oe cls d pn hz hf => pss_one (ps_ret (pe_tup (pa_cons pe_str (pa_cons (pe_or2 (pe_xf x1 no1 hz hf (pv 1)) (pe_xf x2 no2 hz hf (pv 1))) pa_nil)))))
      (.cons (c := .ref cM) ⟨by rfl, by decide, .inl gM⟩ (fun a oe cls d pn hz hf => pss_one ps_never) .nil))), ?_⟩
  · refine ⟨fun pins s' σ H' D I h' => ?_⟩
    obtain ⟨Ech, hW, h1, h2, h3⟩ := h'
    exact PSs.run (pss_one (ps_ret (pe_tup (pa_cons pe_str (pa_cons (act _ pn xe Ech _ _ (takes_len tk) (fun cls d σ' H' e hl => hW cls d σ' H' e hl)) pa_nil))))) pins s' σ H' D I ⟨h1, h2, h3⟩
  · refine ⟨_, fun cls d σ' H' e hl => ?_, rfl, hc, h⟩
    have g1 : ∀ a : Addr, (σ'.set 1 (some (V.ref a)))[1]? = some (some (V.ref a)) := fun a => set_get (by omega)
    obtain ⟨dd, fs, rfl, hd, ⟨rfl, hw, q'⟩ | ⟨rfl, hw, q'⟩⟩ := e
    · exact ⟨true, nl1, fun _ a _ => .inl ⟨_, g1 a, rfl, rfl, dd, _, _, rfl, hd, hw, (by show 2 ≤ sizeLine; decide), q'⟩, fun z => by cases z⟩
    · exact ⟨true, nl2, fun _ a _ => .inr ⟨_, g1 a, rfl, rfl, dd, _, _, rfl, hd, hw, (by show 2 ≤ sizeLine; decide), q'⟩, fun z => by cases z⟩
theorem sc__law_bag : FnScope ["_law_script"] ["_law_script"] (defScope s__law_bag) := ⟨rfl, rfl, rfl, by decide +kernel, rfl, by decide +kernel, by decide +kernel⟩
theorem ok__law_bag {f : Addr} {fd : FuncData} {k : Nat} (F : Fun K "_law_bag" "_law_bag" s__law_bag f fd) (n_len : mg "len" = none) (n_list : mg "list" = none) : FnOk P w K mg base CX0 (k + 1) f fd ["_law_script"] (spBag K) := by
  have sc := sc__law_bag
  refine F.ok sc (fun vs H Q E h => ?_) (fun cdv A outer s H vs Q E hr h => ?_)
  · obtain ⟨a, ns, rfl, _⟩ := h
    rfl
  · obtain ⟨a, ns, rfl, hS, q⟩ := h
    refine ⟨_, (pss_one (ps_ret (pe_lst (pa_cons (pe_callTy (call_listK K rfl) (by rfl) n_list (by decide +kernel) (pa_cons (pe_slice (sl_listK K rfl) (pv 0) po_none (po_some pe_int)) pa_nil)) (pa_cons pe_int (pa_cons pe_int (pa_cons (pe_op op_add pe_int (pe_callB (call_lenK K rfl) (by rfl) n_len PySem.boot_len (pa_cons (pe_slice (sl_listK K rfl) (pv 0) po_none (po_some pe_int)) pa_nil))) (pa_cons pe_int pa_nil)))))))), ?_⟩
    refine ⟨_, rfl, 63, rfl, a, _, rfl, hS, fun p1 n1 => ?_⟩
    refine ⟨p1, _, rfl, .inl (SqL.of upd_same), fun p2 n2 => ?_⟩
    have s1 : Same H (upd H p1 (.lst (cutV (ns.map V.int) none (some 63)))) := same_upd n1
    have s2 := s1.trans (same_upd (o := .lst (cutV (ns.map V.int) none (some 63))) n2)
    refine ⟨_, rfl, 63, rfl, a, _, rfl, s2.seq hS, fun p3 n3 => ?_⟩
    have s3 := s2.trans (same_upd (o := .lst (cutV (ns.map V.int) none (some 63))) n3)
    refine ⟨p3, _, rfl, .inl (SqL.of upd_same), _, _, rfl, rfl, (by show 5 ≤ sizeLine; decide), fun p4 n4 => ?_⟩
    have s4 := s3.trans (same_upd (o := .lst (bagL p2 0 0 (977 + ((cutV (ns.map V.int) none (some 63)).length : Int)) 0)) n4)
    have e0 : cutV (ns.map V.int) none (some 63) = (ns.take 63).map V.int := by
      unfold cutV
      rw [HT.sIx_none, show HT.sIx (ns.map V.int).length (ns.map V.int).length (some 63) = min 63 (ns.map V.int).length from HT.sIx_nat _ _ 63]
      simp only [List.drop_zero, Nat.sub_zero, List.length_map, List.map_take]
      by_cases h : ns.length ≤ 63
      · rw [Nat.min_eq_right h, List.take_of_length_le (by simp), List.take_of_length_le (by simpa using h)]
      · rw [Nat.min_eq_left (by omega)]
    have n42 : p4 ≠ p2 := fun z => by
      rw [z, upd_ne (ne_of_none upd_same n3), upd_same] at n4
      cases n4
    refine q _ (p4, p2) s4 (s3.free n4) ⟨ns.take 63, 0, 0, _, 0, upd_same, ?_, n42.symm, by omega, ?_, ?_⟩
    · rw [upd_ne n42.symm, upd_ne (ne_of_none upd_same n3), upd_same, e0]
    · omega
    · rw [e0, List.length_map, List.length_take]
      omega
theorem sc__law_pick : FnScope ["_law_bag_here", "_law_top", "_law_cell", "_law_digit"] ["_law_bag_here", "_law_top"] (defScope s__law_pick) := ⟨rfl, rfl, rfl, by decide +kernel, rfl, by decide +kernel, by decide +kernel⟩
theorem ok__law_pick {f : Addr} {fd : FuncData} {k : Nat} (F : Fun K "_law_pick" "_law_pick" s__law_pick f fd) (n_len : mg "len" = none) : FnOk P w K mg base CX0 (k + 1) f fd ["_law_bag_here", "_law_top"] spPick := by
  have sc := sc__law_pick
  refine F.ok sc (fun vs H Q E h => ?_) (fun cdv A outer s H vs Q E hr h => ?_)
  · obtain ⟨b, top, rfl, _⟩ := h
    rfl
  · obtain ⟨⟨b, sa⟩, top, rfl, ⟨ns, i, r, x, c, hb, hs, hne, hi, hx0, hx1⟩, ht0, ht1, q⟩ := h
    refine ⟨_, (pss_cons (ps_if (PW.pt (pw_and (pt_cmpR op_lt (pe_ix (ix_listK K rfl) (pv 0) pe_int (fun _ _ => rfl)) (pv 1) (nomark _)) (pw_and1 (pt_cmpR op_lt (pe_ix (ix_listK K rfl) (pv 0) pe_int (fun _ _ => rfl)) (pe_callB (call_lenK K rfl) (by rfl) n_len PySem.boot_len (pa_cons (pe_ix (ix_listK K rfl) (pv 0) pe_int (fun _ _ => rfl)) pa_nil)) (nomark _)))))
  (pss_cons (ps_set (i := 2) sc.nd rfl (.inl rfl) (pe_ix (ix_listK K rfl) (pe_ix (ix_listK K rfl) (pv 0) pe_int (fun _ _ => rfl)) (pe_ix (ix_listK K rfl) (pv 0) pe_int (fun _ _ => rfl)) (fun _ _ => rfl)))
 (pss_cons (ps_asg (pe_op op_add (pe_ix (ix_listK K rfl) (pv 0) pe_int (fun _ _ => rfl)) pe_int) (pg_sub (pv 0) pe_int set_list))
 (pss_cons (ps_asg (pe_op op_mod (pe_op op_add (pe_op op_add (pe_op op_mul (pe_ix (ix_listK K rfl) (pv 0) pe_int (fun _ _ => rfl)) pe_int) (pv 2)) (pe_ix (ix_listK K rfl) (pv 0) pe_int (fun _ _ => rfl))) pe_int) (pg_sub (pv 0) pe_int set_list))
 (pss_one (ps_asg (pe_ifExp (pt_cmpR op_ge (pv 2) (pe_op op_pow pe_int pe_int) (nomark _)) (pv 2) pe_int) (pg_sub (pv 0) pe_int set_list))))))
  pss_nil)
 (pss_cons (ps_if (pt_cmpR op_ge (pe_ix (ix_listK K rfl) (pv 0) pe_int (fun _ _ => rfl)) (pv 1) (nomark _))
  (pss_cons (ps_set (i := 3) sc.nd rfl (.inl rfl) (pe_op op_mod (pe_ix (ix_listK K rfl) (pv 0) pe_int (fun _ _ => rfl)) (pv 1)))
 (pss_cons (ps_asg (pe_op op_fdiv (pe_ix (ix_listK K rfl) (pv 0) pe_int (fun _ _ => rfl)) (pv 1)) (pg_sub (pv 0) pe_int set_list))
 (pss_one (ps_ret (pv 3)))))
  pss_nil)
 (pss_cons (ps_asg (pe_op op_add (pe_ix (ix_listK K rfl) (pv 0) pe_int (fun _ _ => rfl)) pe_int) (pg_sub (pv 0) pe_int set_list))
 (pss_cons (ps_asg (pe_op op_mod (pe_op op_add (pe_op op_add (pe_op op_add (pe_op op_pow (pe_ix (ix_listK K rfl) (pv 0) pe_int (fun _ _ => rfl)) pe_int) (pe_op op_mul pe_int (pe_ix (ix_listK K rfl) (pv 0) pe_int (fun _ _ => rfl)))) (pe_op op_fdiv (pe_ix (ix_listK K rfl) (pv 0) pe_int (fun _ _ => rfl)) pe_int)) pe_int) pe_int) (pg_sub (pv 0) pe_int set_list))
 (pss_one (ps_ret (pe_op op_mod (pe_op op_fdiv (pe_ix (ix_listK K rfl) (pv 0) pe_int (fun _ _ => rfl)) pe_int) (pv 1)))))))), ?_⟩
    refine seq_by (J := fun σ1 H1 => ∃ (y2 : Option V) (i r x c : Int), σ1 = [some (.ref b), some (.int top), y2, none] ∧ H1 b = some (.lst (bagL sa i r x c)) ∧ H1 sa = some (.lst (ns.map V.int)) ∧ Mv b H H1 ∧ 0 ≤ i ∧ 0 ≤ x ∧ x < 2147483648) ?_ (fun rest => ?_)
    · rintro σ1 H1 ⟨y2, i, r, x, c, rfl, hb, hs, mv, hi, hx0, hx1⟩
      refine ⟨_, rfl, b, _, 2, .int r, rfl, rfl, SqL.of hb, rfl, _, rfl, r, top, rfl, rfl, _, rfl, ite2 (fun e => ?_) (fun e => ?_)⟩
      · refine ⟨_, rfl, b, _, 2, .int r, rfl, rfl, SqL.of hb, rfl, _, rfl, r, top, rfl, rfl, ht0, ?_⟩
        refine ⟨_, rfl, b, _, 2, .int r, rfl, rfl, SqL.of hb, rfl, _, rfl, r, top, rfl, rfl, ⟨ht0, ht1⟩, ?_⟩
        refine ⟨_, rfl, b, _, 2, 2, rfl, rfl, hb, rfl, ?_⟩
        refine ⟨_, rfl, ?_⟩
        refine q _ _ mv.upd ⟨ns, i, _, x, c, upd_same, ?_, hne, hi, hx0, hx1⟩ (Int.emod_nonneg _ (by omega)) (Int.emod_lt_of_pos _ ht0)
        rw [upd_ne hne]
        exact hs
      · refine ⟨_, rfl, b, _, 4, .int c, rfl, rfl, SqL.of hb, rfl, c, 1, rfl, rfl, _, rfl, b, _, 4, 4, rfl, rfl, hb, rfl, ?_⟩
        have hb2 : upd H1 b (.lst (bagL sa i r x (c + 1))) b = some (.lst (bagL sa i r x (c + 1))) := upd_same
        refine ⟨_, rfl, b, _, 3, .int x, rfl, rfl, SqL.of hb2, rfl, x, 3, rfl, rfl, ⟨by decide, by decide, by omega⟩, ?_⟩
        refine ⟨_, rfl, b, _, 4, .int (c + 1), rfl, rfl, SqL.of hb2, rfl, 40503, c + 1, rfl, rfl, .inl ⟨by decide, by decide⟩, _, _, rfl, rfl, ?_⟩
        refine ⟨_, rfl, b, _, 3, .int x, rfl, rfl, SqL.of hb2, rfl, x, 65537, rfl, rfl, ⟨by decide, by decide⟩, _, _, rfl, rfl, _, _, rfl, rfl, _, _, rfl, rfl, (by show (0 : Int) < 2147483629; decide), ?_⟩
        refine ⟨_, rfl, b, _, 3, 3, rfl, rfl, hb2, rfl, ?_⟩
        rw [upd_upd]
        obtain ⟨z, hz⟩ : ∃ z, (x ^ Int.toNat 3 + 40503 * (c + 1) + x / 65537 + 11) % 2147483629 = z := ⟨_, rfl⟩
        have ez : (bagL sa i r x (c + 1)).set 3 ((fun i j => V.int (i % j)) (x ^ Int.toNat 3 + 40503 * (c + 1) + x / 65537 + 11) 2147483629) = bagL sa i r z (c + 1) := by rw [← hz]; rfl
        rw [ez]
        have z0 : 0 ≤ z := by rw [← hz]; exact Int.emod_nonneg _ (by decide)
        have z1 : z < 2147483648 := by
          have : z < 2147483629 := by rw [← hz]; exact Int.emod_lt_of_pos _ (by decide)
          omega
        have hb3 : upd H1 b (.lst (bagL sa i r z (c + 1))) b = some (.lst (bagL sa i r z (c + 1))) := upd_same
        refine ⟨_, rfl, b, _, 3, .int z, rfl, rfl, SqL.of hb3, rfl, z, 16, rfl, rfl, ⟨by decide, by decide⟩, _, rfl, _, top, rfl, rfl, ht0, ?_⟩
        refine q _ _ mv.upd ⟨ns, i, r, z, c + 1, upd_same, ?_, hne, hi, z0, z1⟩ (Int.emod_nonneg _ (by omega)) (Int.emod_lt_of_pos _ ht0)
        rw [upd_ne hne]
        exact hs
    · refine ⟨_, rfl, b, _, 2, .int r, rfl, rfl, SqL.of hb, rfl, _, rfl, r, top, rfl, rfl, _, rfl, ite2 (fun e => ?_) (fun e => ?_)⟩
      · refine ⟨_, rfl, b, _, 1, .int i, rfl, rfl, SqL.of hb, rfl, _, rfl, b, _, 0, .ref sa, rfl, rfl, SqL.of hb, rfl, sa, _, rfl, .inl (SqL.of hs), i, _, rfl, rfl, _, rfl, ite2 (fun e2 => ?_) (fun e2 => ?_)⟩
        · have hlt : i < (ns.length : Int) := by
            have := of_decide_eq_true e2
            rw [List.length_map] at this
            exact this
          obtain ⟨z, hz⟩ : ∃ z, ns[i.toNat]? = some z := ⟨_, List.getElem?_eq_getElem (by omega)⟩
          have hat : atI (ns.map V.int) i = some (.int z) := by
            have := atI_nat (xs := ns.map V.int) (j := i.toNat) (v := .int z) (by rw [List.getElem?_map, hz]; rfl)
            rwa [Int.toNat_of_nonneg hi] at this
          refine ⟨_, rfl, b, _, 0, .ref sa, rfl, rfl, SqL.of hb, rfl, _, rfl, b, _, 1, .int i, rfl, rfl, SqL.of hb, rfl, sa, _, i, _, rfl, rfl, SqL.of hs, hat, ?_⟩
          refine ⟨_, rfl, b, _, 1, .int i, rfl, rfl, SqL.of hb, rfl, i, 1, rfl, rfl, _, rfl, b, _, 1, 1, rfl, rfl, hb, rfl, ?_⟩
          have hb2 : upd H b (.lst (bagL sa (i + 1) r x c)) b = some (.lst (bagL sa (i + 1) r x c)) := upd_same
          refine ⟨_, rfl, b, _, 3, .int x, rfl, rfl, SqL.of hb2, rfl, x, 48271, rfl, rfl, .inr ⟨by decide, by decide⟩, _, rfl, _, z, rfl, rfl, ?_⟩
          refine ⟨_, rfl, b, _, 1, .int (i + 1), rfl, rfl, SqL.of hb2, rfl, _, _, rfl, rfl, _, _, rfl, rfl, (by show (0 : Int) < 2147483629; decide), ?_⟩
          refine ⟨_, rfl, b, _, 3, 3, rfl, rfl, hb2, rfl, ?_⟩
          rw [upd_upd]
          obtain ⟨y, hy⟩ : ∃ y, (x * 48271 + z + (i + 1)) % 2147483629 = y := ⟨_, rfl⟩
          have ey : (bagL sa (i + 1) r x c).set 3 ((fun i j => V.int (i % j)) (x * 48271 + z + (i + 1)) 2147483629) = bagL sa (i + 1) r y c := by rw [← hy]; rfl
          rw [ey]
          have y0 : 0 ≤ y := by rw [← hy]; exact Int.emod_nonneg _ (by decide)
          have y1 : y < 2147483648 := by
            have : y < 2147483629 := by rw [← hy]; exact Int.emod_lt_of_pos _ (by decide)
            omega
          have hb3 : upd H b (.lst (bagL sa (i + 1) r y c)) b = some (.lst (bagL sa (i + 1) r y c)) := upd_same
          have hne2 : ∀ o : HO, upd H b o sa = some (.lst (ns.map V.int)) := fun o => by
            rw [upd_ne hne]
            exact hs
          refine ⟨_, rfl, 10, 18, rfl, rfl, ⟨by decide, by decide, by decide⟩, z, _, rfl, rfl, _, rfl, ite2 (fun e3 => ?_) (fun e3 => ?_)⟩
          · refine ⟨_, rfl, _, rfl, b, _, 2, 2, rfl, rfl, hb3, rfl, ?_⟩
            rw [upd_upd]
            exact rest _ _ ⟨some (.int z), i + 1, z, y, c, rfl, upd_same, hne2 _, (Mv.refl _ _).upd, by omega, y0, y1⟩
          · refine ⟨_, rfl, b, _, 2, 2, rfl, rfl, hb3, rfl, ?_⟩
            rw [upd_upd]
            exact rest _ _ ⟨some (.int z), i + 1, 0, y, c, rfl, upd_same, hne2 _, (Mv.refl _ _).upd, by omega, y0, y1⟩
        · exact rest _ _ ⟨none, i, r, x, c, rfl, hb, hs, Mv.refl _ _, hi, hx0, hx1⟩
      · exact rest _ _ ⟨none, i, r, x, c, rfl, hb, hs, Mv.refl _ _, hi, hx0, hx1⟩
theorem sc__law_of : FnScope ["_law_bag_here", "_law_some"] ["_law_bag_here", "_law_some"] (defScope s__law_of) := ⟨rfl, rfl, rfl, by decide +kernel, rfl, by decide +kernel, by decide +kernel⟩
theorem ok__law_of {f : Addr} {fd : FuncData} {k : Nat} (F : Fun K "_law_of" "_law_of" s__law_of f fd) (n_len : mg "len" = none) (c__law_pick : Cal P w K mg base k "_law_pick" ["_law_bag_here", "_law_top"] spPick) : FnOk P w K mg base CX0 (k + 1) f fd ["_law_bag_here", "_law_some"] (spOf K) := by
  have sc := sc__law_of
  refine F.ok sc (fun vs H Q E h => ?_) (fun cdv A outer s H vs Q E hr h => ?_)
  · obtain ⟨b, l, xs, rfl, _⟩ := h
    rfl
  · obtain ⟨b, l, xs, rfl, hB, hne, hl, h0, h1, q⟩ := h
    refine ⟨_, (pss_one (ps_ret (pe_ix (ix_listK K rfl) (pv 1) (pe_callC c__law_pick hr (by rfl) (pa_cons (pv 0) (pa_cons (pe_callB (call_lenK K rfl) (by rfl) n_len PySem.boot_len (pa_cons (pv 1) pa_nil)) pa_nil))) (fun _ _ => rfl)))), ?_⟩
    refine ⟨_, rfl, _, rfl, _, rfl, l, xs, rfl, .inl (SqL.of hl), b, _, rfl, hB, by omega, by omega, fun H' d mv hB' d0 d1 => ?_⟩
    obtain ⟨v, hv⟩ : ∃ v, xs[d.toNat]? = some v := ⟨_, List.getElem?_eq_getElem (by omega)⟩
    have hat : atI xs d = some v := by
      have := atI_nat (xs := xs) (j := d.toNat) (v := v) hv
      rwa [Int.toNat_of_nonneg d0] at this
    exact ⟨l, xs, d, v, rfl, rfl, SqL.of (mv l _ hne hl), hat, q H' v mv hB' (List.mem_of_getElem? hv)⟩
theorem sc__law_same : FnScope ["_law_found", "_law_due", "_law_spot"] ["_law_found", "_law_due"] (defScope s__law_same) := ⟨rfl, rfl, rfl, by decide +kernel, rfl, by decide +kernel, by decide +kernel⟩
theorem ok__law_same {f : Addr} {fd : FuncData} (F : Fun K "_law_same" "_law_same" s__law_same f fd) (gS : mg "_law_same" = some (.ref f)) (bS : Binds K fd ["_law_found", "_law_due"] []) (n_len : mg "len" = none) (n_all : mg "all" = none) (n_bool : mg "bool" = none) (n_int : mg "int" = none)
    (n_isinstance : mg "isinstance" = none) (n_list : mg "list" = none) (n_range : mg "range" = none) (n_str : mg "str" = none) (n_tuple : mg "tuple" = none) : ∀ n : Nat, FnOk P w K mg base CX0 n f fd ["_law_found", "_law_due"] (spSame K n)
  | 0 => ⟨fun vs H Q E h => by obtain ⟨x, y, d, _, _, _, h, _⟩ := h; exact h.elim, fun A outer s H args us vs Q E hr e0 bt r h => by obtain ⟨x, y, d, _, _, _, h, _⟩ := h; exact h.elim⟩
  | n + 1 => by
    have c__law_same : Cal P w K mg base n "_law_same" ["_law_found", "_law_due"] (spSame K n) := ⟨f, fd, ok__law_same F gS bS n_len n_all n_bool n_int n_isinstance n_list n_range n_str n_tuple n, gS, F.kp, bS⟩
    have sc := sc__law_same
    refine F.ok sc (fun vs H Q E h => ?_) (fun cdv A outer s H vs Q E hr h => ?_)
    · obtain ⟨x, y, d, rfl, _⟩ := h
      rfl
    · obtain ⟨x, y, d, rfl, dx, dy, dn, sd, q⟩ := h
      have tx := ty_dp dx
      have ty := ty_dp dy
      refine ⟨_, (pss_cons (ps_if (pt_cmpR op_isN (pv 1) pe_non (nomark _))
  (pss_one (ps_ret (pe_cmpR op_isN (pv 0) pe_non (nomark _))))
  pss_nil)
 (pss_cons (ps_if (PW.pt (pw_or (pt_val (pe_callB (call_isiK1 K rfl) (by rfl) n_isinstance (by decide +kernel) (pa_cons (pv 1) (pa_cons (pe_bltn (v := .ty "bool") (by rfl) n_bool (by decide +kernel) rfl) pa_nil)))) (pw_or1 (pt_val (pe_callB (call_isiK1 K rfl) (by rfl) n_isinstance (by decide +kernel) (pa_cons (pv 0) (pa_cons (pe_bltn (v := .ty "bool") (by rfl) n_bool (by decide +kernel) rfl) pa_nil)))))))
  (pss_one (ps_ret (pe_and (pe_callB (call_isiK1 K rfl) (by rfl) n_isinstance (by decide +kernel) (pa_cons (pv 1) (pa_cons (pe_bltn (v := .ty "bool") (by rfl) n_bool (by decide +kernel) rfl) pa_nil))) (pe_and (pe_callB (call_isiK1 K rfl) (by rfl) n_isinstance (by decide +kernel) (pa_cons (pv 0) (pa_cons (pe_bltn (v := .ty "bool") (by rfl) n_bool (by decide +kernel) rfl) pa_nil))) (pe_one (pe_cmpR (op_eqDK K rfl hr.units) (pv 0) (pv 1) (nomark _)))))))
  pss_nil)
 (pss_cons (ps_if (pt_val (pe_callB (call_isiTK K rfl) (by rfl) n_isinstance (by decide +kernel) (pa_cons (pv 1) (pa_cons (pe_tup (pa_cons (pe_bltn (v := .ty "int") (by rfl) n_int (by decide +kernel) rfl) (pa_cons (pe_bltn (v := .ty "str") (by rfl) n_str (by decide +kernel) rfl) pa_nil))) pa_nil))))
  (pss_one (ps_ret (pe_and (pe_callB (call_isiTK K rfl) (by rfl) n_isinstance (by decide +kernel) (pa_cons (pv 0) (pa_cons (pe_tup (pa_cons (pe_bltn (v := .ty "int") (by rfl) n_int (by decide +kernel) rfl) (pa_cons (pe_bltn (v := .ty "str") (by rfl) n_str (by decide +kernel) rfl) pa_nil))) pa_nil))) (pe_and (pe_cmpR op_eq (pe_callB (call_isiK1 K rfl) (by rfl) n_isinstance (by decide +kernel) (pa_cons (pv 0) (pa_cons (pe_bltn (v := .ty "int") (by rfl) n_int (by decide +kernel) rfl) pa_nil))) (pe_callB (call_isiK1 K rfl) (by rfl) n_isinstance (by decide +kernel) (pa_cons (pv 1) (pa_cons (pe_bltn (v := .ty "int") (by rfl) n_int (by decide +kernel) rfl) pa_nil))) (nomark _)) (pe_one (pe_cmpR (op_eqDK K rfl hr.units) (pv 0) (pv 1) (nomark _)))))))
  pss_nil)
 (pss_cons (ps_if (PW.pt (pw_or (pt_cmpR op_ne (pe_callB (call_isiK1 K rfl) (by rfl) n_isinstance (by decide +kernel) (pa_cons (pv 1) (pa_cons (pe_bltn (v := .ty "list") (by rfl) n_list (by decide +kernel) rfl) pa_nil))) (pe_callB (call_isiK1 K rfl) (by rfl) n_isinstance (by decide +kernel) (pa_cons (pv 0) (pa_cons (pe_bltn (v := .ty "list") (by rfl) n_list (by decide +kernel) rfl) pa_nil))) (nomark _)) (pw_or1 (pt_cmpR op_ne (pe_callB (call_isiK1 K rfl) (by rfl) n_isinstance (by decide +kernel) (pa_cons (pv 1) (pa_cons (pe_bltn (v := .ty "tuple") (by rfl) n_tuple (by decide +kernel) rfl) pa_nil))) (pe_callB (call_isiK1 K rfl) (by rfl) n_isinstance (by decide +kernel) (pa_cons (pv 0) (pa_cons (pe_bltn (v := .ty "tuple") (by rfl) n_tuple (by decide +kernel) rfl) pa_nil))) (nomark _)))))
  (pss_one (ps_ret pe_bl))
  pss_nil)
 (pss_cons (ps_if (PW.pt (pw_or (pt_not (pt_val (pe_callB (call_isiTK K rfl) (by rfl) n_isinstance (by decide +kernel) (pa_cons (pv 0) (pa_cons (pe_tup (pa_cons (pe_bltn (v := .ty "list") (by rfl) n_list (by decide +kernel) rfl) (pa_cons (pe_bltn (v := .ty "tuple") (by rfl) n_tuple (by decide +kernel) rfl) pa_nil))) pa_nil))))) (pw_or1 (pt_cmpR op_ne (pe_callB (call_lenK K rfl) (by rfl) n_len PySem.boot_len (pa_cons (pv 0) pa_nil)) (pe_callB (call_lenK K rfl) (by rfl) n_len PySem.boot_len (pa_cons (pv 1) pa_nil)) (nomark _)))))
  (pss_one (ps_ret pe_bl))
  pss_nil)
 (pss_one (ps_ret (pe_callB (cr_allK K rfl rfl) (by rfl) n_all (by decide +kernel) (pa_cons (pe_lc (own := [("_law_spot", 2)]) (g := gName 2) (by rfl) sc.nd (pi_range1 (by rfl) n_range (pa_cons (pe_callB (call_lenK K rfl) (by rfl) n_len PySem.boot_len (pa_cons (pv 1) pa_nil)) pa_nil)) (blkOk_by (own := [("_law_spot", 2)]) (N := ["_law_found", "_law_due", "_law_spot"]) (sc := defScope s__law_same) (by decide +kernel)) (fun _ _ _ _ _ => (pg_name (i := 2) sc.nd rfl (Or.inl rfl))) (fun _ _ _ _ _ => pts_nil) (fun _ _ _ _ _ => (pe_callC c__law_same hr (by rfl) (pa_cons (pe_ix (ix_seqK K rfl) (pv 0) (pv 2) (fun _ _ => rfl)) (pa_cons (pe_ix (ix_seqK K rfl) (pv 1) (pv 2) (fun _ _ => rfl)) pa_nil))))) pa_nil))))))))), ?_⟩
      have er : PyData.eqv d d = true := SeqAt.eqv_refl d (SeqAt.canLay_of_shaped sd)
      rcases dn with ⟨b, rfl⟩ | ⟨i, rfl⟩ | ⟨z, rfl⟩ | rfl | ⟨ds, hd, hlen, hn⟩
      · have tx : TyX K H x (.type "bool") := tx
        have ty : TyX K H y (.type "bool") := ty
        have kb : PySem.W.kitOne K (.type "bool") (.type "bool") = some true := kit_ty (by decide +kernel)
        have dx' := dx
        have dy' := dy
        cases dx
        cases dy
        refine ⟨_, rfl, rfl, _, rfl, iteF ?_⟩
        refine ⟨_, rfl, _, _, _, _, true, rfl, .ty "bool", ty, kb, _, rfl, iteT ?_⟩
        refine iteT ?_
        refine ⟨_, rfl, _, _, _, _, true, rfl, .ty "bool", ty, kb, true, rfl, iteT ?_⟩
        refine ⟨_, rfl, _, _, _, _, true, rfl, .ty "bool", tx, kb, true, rfl, iteT ?_⟩
        refine ⟨_, rfl, _, rfl, .bool b, .bool b, dx', dy', sd, sd, ?_⟩
        rw [er]
        exact q _ (Same.refl _)
      · have tx : TyX K H x (.type "int") := tx
        have ty : TyX K H y (.type "int") := ty
        have kb : PySem.W.kitOne K (.type "int") (.type "bool") = some false := kit_ty (by decide +kernel)
        have ki : PySem.W.kitOne K (.type "int") (.type "int") = some true := kit_ty (by decide +kernel)
        have dx' := dx
        have dy' := dy
        cases dx
        cases dy
        refine ⟨_, rfl, rfl, _, rfl, iteF ?_⟩
        refine ⟨_, rfl, _, _, _, _, false, rfl, .ty "bool", ty, kb, _, rfl, iteF ?_⟩
        refine ⟨_, rfl, _, _, _, _, false, rfl, .ty "bool", tx, kb, _, rfl, iteF ?_⟩
        refine ⟨_, rfl, (by show 2 ≤ sizeLine; decide), fun p np => ?_⟩
        have s1 : Same H (upd H p (.tup [.ty "int", .ty "str"])) := same_upd np
        refine ⟨_, p, _, _, _, true, rfl, upd_same, .cons (.ty "int") (.cons (.ty "str") .nil), .base (.int i), kitAny_cons ki (fun z => nomatch z) (fun _ => rfl), _, rfl, iteT ?_⟩
        refine ⟨_, rfl, (by show 2 ≤ sizeLine; decide), fun p2 np2 => ?_⟩
        have s2 : Same _ (upd _ p2 (.tup [.ty "int", .ty "str"])) := same_upd np2
        refine ⟨_, p2, _, _, _, true, rfl, upd_same, .cons (.ty "int") (.cons (.ty "str") .nil), .base (.int i), kitAny_cons ki (fun z => nomatch z) (fun _ => rfl), true, rfl, iteT ?_⟩
        refine ⟨_, rfl, _, _, _, _, true, rfl, .ty "int", .base (.int i), ki, ?_⟩
        refine ⟨_, rfl, _, _, _, _, true, rfl, .ty "int", .base (.int i), ki, rfl, true, rfl, iteT ?_⟩
        refine ⟨_, rfl, _, rfl, .int i, .int i, .int i, .int i, sd, sd, ?_⟩
        rw [er]
        exact q _ (s1.trans s2)
      · have tx : TyX K H x (.type "str") := tx
        have ty : TyX K H y (.type "str") := ty
        have kb : PySem.W.kitOne K (.type "str") (.type "bool") = some false := kit_ty (by decide +kernel)
        have ki : PySem.W.kitOne K (.type "str") (.type "int") = some false := kit_ty (by decide +kernel)
        have ks : PySem.W.kitOne K (.type "str") (.type "str") = some true := kit_ty (by decide +kernel)
        have kk : PySem.W.kitAny K (.type "str") [.type "int", .type "str"] = some true := kitAny_cons ki (fun _ => kitAny_cons ks (fun z => nomatch z) (fun _ => rfl)) (fun z => nomatch z)
        cases dx
        cases dy
        refine ⟨_, rfl, rfl, _, rfl, iteF ?_⟩
        refine ⟨_, rfl, _, _, _, _, false, rfl, .ty "bool", ty, kb, _, rfl, iteF ?_⟩
        refine ⟨_, rfl, _, _, _, _, false, rfl, .ty "bool", tx, kb, _, rfl, iteF ?_⟩
        refine ⟨_, rfl, (by show 2 ≤ sizeLine; decide), fun p np => ?_⟩
        have s1 : Same H (upd H p (.tup [.ty "int", .ty "str"])) := same_upd np
        refine ⟨_, p, _, _, _, true, rfl, upd_same, .cons (.ty "int") (.cons (.ty "str") .nil), .base (.str z), kk, _, rfl, iteT ?_⟩
        refine ⟨_, rfl, (by show 2 ≤ sizeLine; decide), fun p2 np2 => ?_⟩
        have s2 : Same _ (upd _ p2 (.tup [.ty "int", .ty "str"])) := same_upd np2
        refine ⟨_, p2, _, _, _, true, rfl, upd_same, .cons (.ty "int") (.cons (.ty "str") .nil), .base (.str z), kk, true, rfl, iteT ?_⟩
        refine ⟨_, rfl, _, _, _, _, false, rfl, .ty "int", .base (.str z), ki, ?_⟩
        refine ⟨_, rfl, _, _, _, _, false, rfl, .ty "int", .base (.str z), ki, rfl, true, rfl, iteT ?_⟩
        refine ⟨_, rfl, _, rfl, .str z, .str z, .str z, .str z, sd, sd, ?_⟩
        rw [er]
        exact q _ (s1.trans s2)
      · cases dx
        cases dy
        refine ⟨_, rfl, rfl, _, rfl, iteT ?_⟩
        exact ⟨_, rfl, rfl, q _ (Same.refl _)⟩
      · -- a list or a tuple
        obtain ⟨ax, ay, xs, ys, nm, rfl, rfl, hsx, hsy, hax, hay, tx, ty, hnm, enm⟩ : ∃ (ax ay : Addr) (xs ys : List V) (nm : String), x = .ref ax ∧ y = .ref ay ∧ (SqL K H ax xs ∨ SqT K H ax xs) ∧ (SqL K H ay ys ∨ SqT K H ay ys) ∧ DpAll K H xs ds ∧ DpAll K H ys ds ∧
            TyX K H x (.type nm) ∧ TyX K H y (.type nm) ∧ (nm = "list" ∨ nm = "tuple") ∧ nm = tyN d := by
          rcases hd with rfl | rfl
          · cases dx with
            | lst h1 h2 =>
              cases dy with
              | lst h3 h4 => exact ⟨_, _, _, _, "list", rfl, rfl, .inl h1, .inl h3, h2, h4, tx, ty, .inl rfl, rfl⟩
          · cases dx with
            | tup h1 h2 =>
              cases dy with
              | tup h3 h4 => exact ⟨_, _, _, _, "tuple", rfl, rfl, .inr h1, .inr h3, h2, h4, tx, ty, .inr rfl, rfl⟩
        have kb : PySem.W.kitOne K (.type nm) (.type "bool") = some false := by rcases hnm with rfl | rfl <;> exact kit_ty (by decide +kernel)
        have ki : PySem.W.kitOne K (.type nm) (.type "int") = some false := by rcases hnm with rfl | rfl <;> exact kit_ty (by decide +kernel)
        have ks : PySem.W.kitOne K (.type nm) (.type "str") = some false := by rcases hnm with rfl | rfl <;> exact kit_ty (by decide +kernel)
        obtain ⟨bl, kl⟩ : ∃ bl, PySem.W.kitOne K (.type nm) (.type "list") = some bl := by
          rcases hnm with rfl | rfl
          · exact ⟨true, kit_ty (by decide +kernel)⟩
          · exact ⟨false, kit_ty (by decide +kernel)⟩
        obtain ⟨bt, kt⟩ : ∃ bt, PySem.W.kitOne K (.type nm) (.type "tuple") = some bt := by
          rcases hnm with rfl | rfl
          · exact ⟨false, kit_ty (by decide +kernel)⟩
          · exact ⟨true, kit_ty (by decide +kernel)⟩
        have kk : PySem.W.kitAny K (.type nm) [.type "int", .type "str"] = some false := kitAny_cons ki (fun _ => kitAny_cons ks (fun _ => rfl) (fun z => nomatch z)) (fun z => nomatch z)
        have kq : PySem.W.kitAny K (.type nm) [.type "list", .type "tuple"] = some true := by
          rcases hnm with rfl | rfl
          · exact kitAny_cons (b := true) (kit_ty (by decide +kernel)) (fun z => nomatch z) (fun _ => rfl)
          · exact kitAny_cons (b := false) (kit_ty (by decide +kernel)) (fun _ => kitAny_cons (b := true) (kit_ty (by decide +kernel)) (fun z => nomatch z) (fun _ => rfl)) (fun z => nomatch z)
        have typ : ∀ {H' : Hp} {v : V}, Same H H' → TyX K H v (.type nm) → (v = .ref ax ∨ v = .ref ay) → TyX K H' v (.type nm) := by
          intro H' v sm h hv
          rw [enm]
          rcases hv with rfl | rfl
          · exact ty_dp (dp_same sm dx)
          · exact ty_dp (dp_same sm dy)
        refine ⟨_, rfl, rfl, _, rfl, iteF ?_⟩
        refine ⟨_, rfl, _, _, _, _, false, rfl, .ty "bool", ty, kb, _, rfl, iteF ?_⟩
        refine ⟨_, rfl, _, _, _, _, false, rfl, .ty "bool", tx, kb, _, rfl, iteF ?_⟩
        refine ⟨_, rfl, (by show 2 ≤ sizeLine; decide), fun p np => ?_⟩
        have s1 : Same H (upd H p (.tup [.ty "int", .ty "str"])) := same_upd np
        refine ⟨_, p, _, _, _, false, rfl, upd_same, .cons (.ty "int") (.cons (.ty "str") .nil), typ s1 ty (.inr rfl), kk, _, rfl, iteF ?_⟩
        refine ⟨_, rfl, _, _, _, _, bl, rfl, .ty "list", typ s1 ty (.inr rfl), kl, ?_⟩
        refine ⟨_, rfl, _, _, _, _, bl, rfl, .ty "list", typ s1 tx (.inl rfl), kl, rfl, _, rfl, ifF (by simp) ?_⟩
        refine ⟨_, rfl, _, _, _, _, bt, rfl, .ty "tuple", typ s1 ty (.inr rfl), kt, ?_⟩
        refine ⟨_, rfl, _, _, _, _, bt, rfl, .ty "tuple", typ s1 tx (.inl rfl), kt, rfl, _, rfl, ifF (by simp) ?_⟩
        refine ⟨_, rfl, (by show 2 ≤ sizeLine; decide), fun p2 np2 => ?_⟩
        have s2 : Same H _ := s1.trans (same_upd (o := .tup [.ty "list", .ty "tuple"]) np2)
        refine ⟨_, p2, _, _, _, true, rfl, upd_same, .cons (.ty "list") (.cons (.ty "tuple") .nil), typ s2 tx (.inl rfl), kq, _, rfl, iteF ?_⟩
        have sq2 : ∀ {H' : Hp} {a : Addr} {zs : List V}, Same H H' → (SqL K H a zs ∨ SqT K H a zs) → (SqL K H' a zs ∨ SqT K H' a zs) := fun sm h => h.elim (fun z => .inl (sm.seq z)) (fun z => .inr (same_t sm z))
        refine ⟨_, rfl, ax, xs, rfl, sq2 s2 hsx, _, rfl, ay, ys, rfl, sq2 s2 hsy, rfl, _, rfl, ifF (by rw [dpa_len hax, dpa_len hay]; simp) ?_⟩
        refine ⟨_, rfl, ay, ys, rfl, sq2 s2 hsy, _, rfl, ?_, ?_, fun D nD => lc_range (lo := 0) (n := ((ys.length : Int)).toNat) (fun i H' => Same H H' ∧ H' D = some (.lst ((List.replicate i true).map V.bl))) ?_ ?_ ?_⟩
        · rw [dpa_len hay]
          omega
        · rw [dpa_len hay]
          omega
        · exact ⟨s2.trans (same_upd nD), upd_same⟩
        · rintro i H' hi ⟨sm, eD⟩
          rw [Int.toNat_natCast] at hi
          have hds : i < ds.length := by rw [← dpa_len hay]; exact hi
          obtain ⟨vx, gx, dvx⟩ := dpa_get hax (List.getElem?_eq_getElem hds)
          obtain ⟨vy, gy, dvy⟩ := dpa_get hay (List.getElem?_eq_getElem hds)
          have ix : ∀ {a : Addr} {zs : List V} {v : V} {Q' : VK}, (SqL K H a zs ∨ SqT K H a zs) → zs[i]? = some v → Q' v H' → rIx K (.ref a) (.int (0 + (i : Int))) H' Q' := by
            intro a zs v Q' h g q'
            have e : atI zs (0 + (i : Int)) = some v := by rw [Int.zero_add]; exact atI_nat g
            rcases sq2 sm h with h | h
            · exact .inl ⟨a, zs, _, v, rfl, rfl, h, e, q'⟩
            · exact .inr (.inl ⟨a, zs, _, v, rfl, rfl, h, e, q'⟩)
          refine ⟨rfl, tYes_by (iteT ?_)⟩
          refine ⟨_, rfl, _, rfl, ix hsx gx ?_⟩
          refine ⟨_, rfl, _, rfl, ix hsy gy ?_⟩
          refine ⟨vx, vy, ds[i], rfl, dp_same sm dvx, dp_same sm dvy, hn _ (List.getElem_mem hds), ?_, fun H2 s4 => ?_⟩
          · exact shaped_mem (List.getElem_mem hds) (hd.elim (fun z => .inl (z ▸ sd)) (fun z => .inr (z ▸ sd)))
          · refine ⟨_, s4 _ _ eD, ?_, ?_, ?_⟩
            · rw [List.length_map, List.length_replicate]
              exact Nat.lt_of_lt_of_le (show i < 100000 by omega) (by decide)
            · exact same_mut (sm.trans s4) (s2.free nD)
            · rw [upd_same, List.replicate_succ', List.map_append]
              rfl
        · rintro H' ⟨sm, eD⟩
          refine ⟨D, _, rfl, SqL.of eD, ?_⟩
          have e : (List.replicate ((ys.length : Int)).toNat true).all id = true := by simp
          rw [e]
          exact q _ sm
theorem sc__law_step : FnScope ["_law_pace"] ["_law_pace"] (defScope s__law_step) := ⟨rfl, rfl, rfl, by decide +kernel, rfl, by decide +kernel, by decide +kernel⟩
def spLstep : Sp := fun vs H Q _ => ∃ (r : Int), vs = [.int r] ∧ okR r ∧ ∀ H', Same H H' → Q (.int (stepI r)) H'
theorem ok__law_step {f : Addr} {fd : FuncData} {k : Nat} (F : Fun K "_law_step" "_law_step" s__law_step f fd) : FnOk P w K mg base CX0 (k + 1) f fd ["_law_pace"] spLstep := by
  have sc := sc__law_step
  refine F.ok sc (fun vs H Q E h => ?_) (fun cdv A outer s H vs Q E hr h => ?_)
  · obtain ⟨r, rfl, _⟩ := h
    rfl
  · obtain ⟨r, rfl, ok, q⟩ := h
    refine ⟨_, (pss_one (ps_ret (pe_ix (ix_listK K rfl) (pe_lst (pa_cons pe_int (pa_cons pe_int (pa_cons pe_int (pa_cons pe_int pa_nil))))) (pe_op op_sub (pv 0) pe_int) (fun _ _ => rfl)))), ?_⟩
    refine ⟨(by show 4 ≤ sizeLine; decide), fun p np => ?_⟩
    have hq := q _ (same_upd (o := .lst [.int 64, .int 32, .int 16, .int 8]) np)
    rcases pts_step ok with ⟨rfl, _, e⟩ | ⟨rfl, _, e⟩ | ⟨rfl, _, e⟩ | ⟨rfl, _, e⟩ <;> rw [e] at hq <;> exact ⟨_, rfl, _, _, rfl, rfl, p, _, _, _, rfl, rfl, SqL.of upd_same, rfl, hq⟩
theorem eqv_tups (ns ms : List Int) : PyData.eqv (.tuple (ns.map PyData.int)) (.tuple (ms.map PyData.int)) = decide (ns = ms) := by
  have h := eqv_ints ns ms
  exact h
theorem shaped_tup (ns : List Int) : SeqAt.shaped (.tuple (ns.map PyData.int)) = true := shaped_ints ns
theorem sc_paper : FnScope ["loud", "beats", "energy", "rate", "distance"] ["loud", "beats"] (defScope s_paper) := ⟨rfl, rfl, rfl, by decide +kernel, rfl, by decide +kernel, by decide +kernel⟩
/-- the paper at this rate, or at the next slower ones -/
def paperR (e : Int) : Nat → Option (Int × Int × Int)
  | 0 => none
  | r + 1 => if 4 * e < 9 * stepI ((r + 1 : Nat) : Int) ^ 2 then some (((r + 1 : Nat) : Int), 9 * stepI ((r + 1 : Nat) : Int) ^ 2, e) else paperR e r
def paperO (loud beats : Int) : Option (Int × Int × Int) := paperR (beats * loud ^ 2) 4
def badP (loud beats : Int) : Prop := loud < 0 ∨ beats < 1 ∨ 1000 < beats
abbrev tup3 (x : Int × Int × Int) : List Int := [x.1, x.2.1, x.2.2]
def RefN (C : Addr) (loud : Int) (H : Hp) (E : XK) : Prop := ∀ (H' : Hp) (d : Addr), Same H H' → H d = none → H' d = some (.xd [(("loud" : Str), .int loud), (("word" : Str), .str "NoRate")]) → E (.ref C) (some d) H'
def spPaper (cN cO : Addr) : Sp := fun vs H Q E => ∃ (loud beats : Int), vs = [.int loud, .int beats] ∧ loud.natAbs < 2 ^ 64 ∧ beats.natAbs < 2 ^ 64 ∧ (badP loud beats → Ref0 cN "BadCount" H E) ∧
  (¬ badP loud beats → ∀ x, paperO loud beats = some x → ∀ (H' : Hp) (t : Addr), Same H H' → H t = none → H' t = some (.tup ((tup3 x).map V.int)) → Q (.ref t) H') ∧ (¬ badP loud beats → paperO loud beats = none → RefN cO loud H E)
theorem log64 {z : Int} (h : z.natAbs < 2 ^ 64) : z.natAbs.log2 < 1000 := by
  by_cases e : z.natAbs = 0
  · rw [e]
    decide
  · exact (Nat.log2_lt e).mpr (Nat.lt_of_lt_of_le h (Nat.pow_le_pow_right (by decide) (by decide)))
theorem ok_paper {f cN cO cR a_RATES : Addr} {fd : FuncData} {k : Nat} {kws : List (Str × V)} {tM : Tok} (F : FunD K "paper" "paper" (defArgs s_paper) (defBody s_paper) (defScope s_paper) [] kws f fd) (n_reversed : mg "reversed" = none) (g_MOST_BEATS : mg "MOST_BEATS" = some (.int 1000 tM)) (g_RATES : mg "RATES" = some (.ref a_RATES)) (h_RATES : ∀ H, SqT K H a_RATES [.int 1, .int 2, .int 3, .int 4])
    (x_BadCount : XcOk P w K mg base k "BadCount" cN (spIni0 K cN "BadCount")) (x_NoRate : XcOk P w K mg base k "NoRate" cO (spIni K cO "NoRate" "loud")) (cw_least_distance_0_rate : CalW P w K mg base (k + 1) "least_distance" ["rate"] 0 ["rate"] (fun vs zs => vs ++ zs) (spLD cR)) :
    FnOk P w K mg base (L2.CX P w) (k + 2) f fd ["loud", "beats"] (spPaper cN cO) := by
  have sc := sc_paper
  refine F.ok sc (fun vs H Q E h => ?_) (fun cdv A outer s H vs Q E hr h => ?_)
  · obtain ⟨loud, beats, rfl, _⟩ := h
    rfl
  · obtain ⟨loud, beats, rfl, hl64, hb64, qb, q, qn⟩ := h
    refine ⟨_, (pss_cons (ps_if (PW.pt (pw_or (pt_cmpR op_lt (pv 0) pe_int (nomark _)) (pw_or (pt_cmpR op_lt (pv 1) pe_int (nomark _)) (pw_or1 (pt_cmpR op_gt (pv 1) (pe_glob (v := .int 1000) (by rfl) g_MOST_BEATS ⟨_, rfl⟩) (nomark _))))))
  (pss_one (ps_raise rfl (takes_of rfl rfl rfl rfl) (pmk_c0 x_BadCount hr (by rfl))))
  pss_nil)
 (pss_cons (ps_set (i := 2) sc.nd rfl (.inl rfl) (pe_op op_mul (pv 1) (pe_op op_pow (pv 0) pe_int)))
 (pss_cons (ps_for (passes_of rfl) rfl (pi_revAK K rfl (by rfl) n_reversed (pe_glob (v := .ref a_RATES) (by rfl) g_RATES rfl)) (pg_name (i := 3) sc.nd rfl (.inl rfl))
  (pss_cons (ps_set (i := 4) sc.nd rfl (.inl rfl) (pe_callW0 cw_least_distance_0_rate hr (passes_call (takes_of rfl rfl rfl rfl) (fun _ _ _ _ h => h)) (by rfl) (pk_cons (pv 3) pk_nil)))
 (pss_one (ps_if (pt_cmpR op_gt (pv 4) (pe_op op_mul pe_int (pv 2)) (nomark _))
  (pss_one (ps_ret (pe_tup (pa_cons (pv 3) (pa_cons (pv 4) (pa_cons (pv 2) pa_nil))))))
  pss_nil))))
 (pss_one (ps_raise rfl (takes_of rfl rfl rfl rfl) (pmk_c x_NoRate hr (by rfl) (pa_cons (pv 0) pa_nil))))))), ?_⟩
    refine ⟨_, rfl, _, _, rfl, rfl, _, rfl, ite2 (fun e => ?_) (fun e => ?_)⟩
    · exact iteT (mk_inner0 (fun H3 d s3 nd ed => qb (.inl (of_decide_eq_true e)) H3 d s3 nd ed))
    have e1 : ¬ loud < 0 := fun z => e (decide_eq_true z)
    refine ⟨_, rfl, _, _, rfl, rfl, _, rfl, ite2 (fun e => ?_) (fun e => ?_)⟩
    · exact iteT (mk_inner0 (fun H3 d s3 nd ed => qb (.inr (.inl (of_decide_eq_true e))) H3 d s3 nd ed))
    have e2 : ¬ beats < 1 := fun z => e (decide_eq_true z)
    refine ⟨_, rfl, _, _, rfl, rfl, _, rfl, ite2 (fun e => ?_) (fun e => ?_)⟩
    · exact mk_inner0 (fun H3 d s3 nd ed => qb (.inr (.inr (of_decide_eq_true e))) H3 d s3 nd ed)
    have e3 : ¬ (1000 : Int) < beats := fun z => e (decide_eq_true z)
    have good : ¬ badP loud beats := fun h => by
      rcases h with h | h | h
      · exact e1 h
      · exact e2 h
      · exact e3 h
    have q := q good
    have qn := qn good
    refine ⟨_, rfl, _, rfl, _, _, rfl, rfl, ⟨by decide, by decide, hl64⟩, _, _, rfl, rfl, .inl ⟨by omega, by omega⟩, ?_⟩
    refine name_by ?_
    dsimp only
    have e22 : loud ^ (2 : Int).toNat = loud ^ 2 := rfl
    rw [e22]
    unfold paperO at q qn
    generalize beats * loud ^ 2 = en at q qn ⊢
    refine ⟨a_RATES, _, rfl, .inr ⟨h_RATES _, for_it (walk_revT (K := K) (a := a_RATES) (xs := [V.int 1, V.int 2, V.int 3, V.int 4])) (fun i σ H' => ∃ y3 y4, σ = [some (.int loud), some (.int beats), some (.int en), y3, y4] ∧ Same H H' ∧ paperR en 4 = paperR en (4 - i)) ⟨none, none, rfl, Same.refl H, rfl⟩ (fun i σ H' _ h => h_RATES H') ?_ ?_⟩⟩
    · rintro i x σ H1 H2 hi ⟨y3, y4, rfl, s1, hp⟩ ⟨rfl, hx⟩
      have hi4 : i < 4 := hi
      obtain ⟨r, hr4, hx4, rfl⟩ : ∃ r : Nat, 4 - i = r + 1 ∧ r < 4 ∧ x = .int ((r + 1 : Nat) : Int) := by
        match i, hx with
        | 0, hx => cases hx; exact ⟨3, rfl, by decide, rfl⟩
        | 1, hx => cases hx; exact ⟨2, rfl, by decide, rfl⟩
        | 2, hx => cases hx; exact ⟨1, rfl, by decide, rfl⟩
        | 3, hx => cases hx; exact ⟨0, rfl, by decide, rfl⟩
        | (j + 4), hx => omega
      have okr : okR ((r + 1 : Nat) : Int) := ⟨by omega, by omega⟩
      have ep : paperR en (r + 1) = if 4 * en < 9 * stepI ((r + 1 : Nat) : Int) ^ 2 then some (((r + 1 : Nat) : Int), 9 * stepI ((r + 1 : Nat) : Int) ^ 2, en) else paperR en r := rfl
      rw [hr4, ep] at hp
      refine ⟨_, rfl, rfl, rfl, ((r + 1 : Nat) : Int), rfl, (fun _ H3 s3 => ?_), (fun no => absurd okr no)⟩
      refine name_by ?_
      dsimp only
      refine ⟨_, rfl, _, rfl, _, _, rfl, rfl, .inl ⟨by decide, by decide⟩, _, _, rfl, rfl, _, rfl, ite2 (fun e => ?_) (fun e => ?_)⟩
      · have e : 4 * en < 9 * stepI ((r + 1 : Nat) : Int) ^ 2 := of_decide_eq_true e
        rw [if_pos e] at hp
        refine ⟨_, rfl, _, rfl, _, rfl, (by show 3 ≤ sizeLine; decide), fun t nt => ?_⟩
        exact q _ hp _ t ((s1.trans s3).trans (same_upd nt)) ((s1.trans s3).free nt) upd_same
      · have e : ¬ 4 * en < 9 * stepI ((r + 1 : Nat) : Int) ^ 2 := fun z => e (decide_eq_true z)
        rw [if_neg e] at hp
        refine ⟨_, _, rfl, s1.trans s3, ?_⟩
        rw [hp, show 4 - (i + 1) = r by omega]
    · rintro σ H1 ⟨y3, y4, rfl, s1, hp⟩
      have hp : paperR en 4 = none := hp
      exact ⟨_, rfl, mk_inner (log64 hl64) (fun H3 d s3 nd ed => qn hp H3 d (s1.trans s3) (s1.free nd) ed)⟩
theorem sc__law_paper : FnScope ["_law_loud", "_law_size", "_law_energy", "_law_pace", "_law_gap"] ["_law_loud", "_law_size"] (defScope s__law_paper) := ⟨rfl, rfl, rfl, by decide +kernel, rfl, by decide +kernel, by decide +kernel⟩
def spLP (K : PySem.W.Frag) : Sp := fun vs H Q _ => ∃ (loud size : Int), vs = [.int loud, .int size] ∧ loud.natAbs < 2 ^ 64 ∧ size.natAbs < 2 ^ 64 ∧ ∀ (H' : Hp) (v : V), Same H H' → (match paperO loud size with | none => v = .non | some x => ∃ t, v = .ref t ∧ H t = none ∧ H' t = some (.tup ((tup3 x).map V.int))) → Q v H'
theorem ok__law_paper {f : Addr} {fd : FuncData} {k : Nat} (F : Fun K "_law_paper" "_law_paper" s__law_paper f fd) (c__law_step : Cal P w K mg base k "_law_step" ["_law_pace"] spLstep) : FnOk P w K mg base CX0 (k + 1) f fd ["_law_loud", "_law_size"] (spLP K) := by
  have sc := sc__law_paper
  refine F.ok sc (fun vs H Q E h => ?_) (fun cdv A outer s H vs Q E hr h => ?_)
  · obtain ⟨loud, size, rfl, _⟩ := h
    rfl
  · obtain ⟨loud, size, rfl, hl, hs, q⟩ := h
    refine ⟨_, (pss_cons (ps_set (i := 2) sc.nd rfl (.inl rfl) (pe_op op_mul (pe_op op_mul (pv 1) (pv 0)) (pv 0)))
 (pss_cons (ps_for PassesOwn.never rfl (pi_listK K rfl (pe_lst (pa_cons pe_int (pa_cons pe_int (pa_cons pe_int (pa_cons pe_int pa_nil)))))) (pg_name (i := 3) sc.nd rfl (.inl rfl))
  (pss_cons (ps_set (i := 4) sc.nd rfl (.inl rfl) (pe_op op_mul (pe_op op_mul pe_int (pe_callC c__law_step hr (by rfl) (pa_cons (pv 3) pa_nil))) (pe_callC c__law_step hr (by rfl) (pa_cons (pv 3) pa_nil))))
 (pss_one (ps_if (pt_cmpR op_gt (pv 4) (pe_op op_mul pe_int (pv 2)) (nomark _))
  (pss_one (ps_ret (pe_tup (pa_cons (pv 3) (pa_cons (pv 4) (pa_cons (pv 2) pa_nil))))))
  pss_nil))))
 (pss_one (ps_ret pe_non)))), ?_⟩
    refine ⟨_, rfl, _, rfl, _, _, rfl, rfl, .inl ⟨by omega, by omega⟩, _, rfl, _, _, rfl, rfl, .inr ⟨by omega, by omega⟩, ?_⟩
    refine name_by ?_
    dsimp only
    have ee : size * loud * loud = size * loud ^ 2 := by rw [Int.mul_assoc, Int.pow_succ, Int.pow_succ, Int.pow_zero, Int.one_mul]
    rw [ee]
    unfold paperO at q
    generalize size * loud ^ 2 = en at q ⊢
    refine ⟨(by show 4 ≤ sizeLine; decide), fun p np => ?_⟩
    have s0 := same_upd (o := .lst [.int 4, .int 3, .int 2, .int 1]) np
    have e0 : upd H p (.lst [.int 4, .int 3, .int 2, .int 1]) p = some (.lst [.int 4, .int 3, .int 2, .int 1]) := upd_same
    generalize upd H p (.lst [.int 4, .int 3, .int 2, .int 1]) = H0 at s0 e0 ⊢
    refine ⟨p, rfl, ⟨_, SqL.of e0⟩, for_list (K := K) (a := p) (xs := [V.int 4, V.int 3, V.int 2, V.int 1]) (fun i σ H' => ∃ y3 y4, σ = [some (.int loud), some (.int size), some (.int en), y3, y4] ∧ Same H0 H' ∧ paperR en 4 = paperR en (4 - i)) ⟨none, none, rfl, Same.refl H0, rfl⟩ (fun i σ H' _ h => by obtain ⟨_, _, _, s, _⟩ := h; exact SqL.of (s _ _ e0)) ?_ ?_⟩
    · rintro i x σ H1 hx ⟨y3, y4, rfl, s1, hp⟩
      obtain ⟨r, hr4, hx4, rfl⟩ : ∃ r : Nat, 4 - i = r + 1 ∧ r < 4 ∧ x = .int ((r + 1 : Nat) : Int) := by
        match i, hx with
        | 0, hx => cases hx; exact ⟨3, rfl, by decide, rfl⟩
        | 1, hx => cases hx; exact ⟨2, rfl, by decide, rfl⟩
        | 2, hx => cases hx; exact ⟨1, rfl, by decide, rfl⟩
        | 3, hx => cases hx; exact ⟨0, rfl, by decide, rfl⟩
        | (j + 4), hx => simp at hx
      have okr : okR ((r + 1 : Nat) : Int) := ⟨by omega, by omega⟩
      have ep : paperR en (r + 1) = if 4 * en < 9 * stepI ((r + 1 : Nat) : Int) ^ 2 then some (((r + 1 : Nat) : Int), 9 * stepI ((r + 1 : Nat) : Int) ^ 2, en) else paperR en r := rfl
      rw [hr4, ep] at hp
      have st : 0 ≤ stepI ((r + 1 : Nat) : Int) ∧ stepI ((r + 1 : Nat) : Int) ≤ 64 := by
        have : r = 0 ∨ r = 1 ∨ r = 2 ∨ r = 3 := by omega
        rcases this with rfl | rfl | rfl | rfl <;> decide
      refine ⟨_, rfl, ((r + 1 : Nat) : Int), rfl, okr, fun H2 s2 => ⟨_, _, rfl, rfl, .inl ⟨by decide, by decide⟩, _, rfl, ((r + 1 : Nat) : Int), rfl, okr, fun H3 s3 => ⟨_, _, rfl, rfl, .inr ⟨by omega, by omega⟩, ?_⟩⟩⟩
      refine name_by ?_
      dsimp only
      have eg : 9 * stepI ((r + 1 : Nat) : Int) * stepI ((r + 1 : Nat) : Int) = 9 * stepI ((r + 1 : Nat) : Int) ^ 2 := by rw [Int.mul_assoc, Int.pow_succ, Int.pow_succ, Int.pow_zero, Int.one_mul]
      rw [eg]
      refine ⟨_, rfl, _, rfl, _, _, rfl, rfl, .inl ⟨by decide, by decide⟩, _, _, rfl, rfl, _, rfl, ite2 (fun e => ?_) (fun e => ?_)⟩
      · have e : 4 * en < 9 * stepI ((r + 1 : Nat) : Int) ^ 2 := of_decide_eq_true e
        rw [if_pos e] at hp
        rw [hp] at q
        refine ⟨_, rfl, _, rfl, _, rfl, (by show 3 ≤ sizeLine; decide), fun t nt => ?_⟩
        have s03 := ((s0.trans s1).trans s2).trans s3
        exact q _ _ (s03.trans (same_upd nt)) ⟨t, rfl, s03.free nt, upd_same⟩
      · have e : ¬ 4 * en < 9 * stepI ((r + 1 : Nat) : Int) ^ 2 := fun z => e (decide_eq_true z)
        rw [if_neg e] at hp
        refine ⟨_, _, rfl, (s1.trans s2).trans s3, ?_⟩
        rw [hp, show 4 - (i + 1) = r by omega]
    · rintro σ H1 ⟨y3, y4, rfl, s1, hp⟩
      have hp : paperR en 4 = none := hp
      rw [hp] at q
      exact q H1 .non (s0.trans s1) rfl
theorem sc__law_root : FnScope ["_law_figure", "_law_found"] ["_law_figure"] (defScope s__law_root) := ⟨rfl, rfl, rfl, by decide +kernel, rfl, by decide +kernel, by decide +kernel⟩
def spRoot : Sp := fun vs H Q _ => ∃ (F : Int), vs = [.int F] ∧ 0 ≤ F ∧ ∀ z : Int, 0 ≤ z → z * z ≤ F → z ≤ 200 → Q (.int z) H
theorem ok__law_root {f : Addr} {fd : FuncData} {k : Nat} (F : Fun K "_law_root" "_law_root" s__law_root f fd) : FnOk P w K mg base CX0 (k + 1) f fd ["_law_figure"] spRoot := by
  have sc := sc__law_root
  refine F.ok sc (fun vs H Q E h => ?_) (fun cdv A outer s H vs Q E hr h => ?_)
  · obtain ⟨g, rfl, _⟩ := h
    rfl
  · obtain ⟨g, rfl, hg, q⟩ := h
    refine ⟨_, (pss_cons (ps_set (i := 1) sc.nd rfl (.inl rfl) pe_int)
 (pss_cons (ps_while PassesOwn.never (PW.pt (pw_and (pt_cmpR op_le (pe_op op_mul (pe_op op_add (pv 1) pe_int) (pe_op op_add (pv 1) pe_int)) (pv 0) (nomark _)) (pw_and1 (pt_cmpR op_lt (pv 1) pe_int (nomark _)))))
  (pss_one (ps_set (i := 1) sc.nd rfl (.inl rfl) (pe_op op_add (pv 1) pe_int))))
 (pss_one (ps_ret (pv 1))))), ?_⟩
    refine while_w (fun σ H' => ∃ m : Int, σ = [some (.int g), some (.int m)] ∧ H' = H ∧ 0 ≤ m ∧ m * m ≤ g ∧ m ≤ 200) (fun σ _ => match σ with | [_, some (.int m)] => (200 - m).toNat | _ => 0) ⟨0, rfl, rfl, Int.le_refl _, by omega, by decide⟩ ?_
    rintro σ H' ⟨m, rfl, rfl, m0, m1, m2⟩
    refine ⟨_, rfl, _, _, rfl, rfl, _, rfl, _, _, rfl, rfl, _, _, rfl, rfl, .inr ⟨by omega, by omega⟩, _, rfl, _, _, rfl, rfl, _, rfl, ite2 (fun e => ?_) (fun e => iteF ?_)⟩
    · have e : (m + 1) * (m + 1) ≤ g := of_decide_eq_true e
      refine ⟨_, rfl, _, _, rfl, rfl, _, rfl, ite2 (fun e2 => ?_) (fun e2 => ?_)⟩
      · have e2 : m < 200 := of_decide_eq_true e2
        refine ⟨_, wN_ok, _, rfl, _, _, rfl, rfl, ⟨_, rfl, rfl, by omega, e, by omega⟩, ?_⟩
        show (200 - (m + 1)).toNat < (200 - m).toNat
        omega
      · exact ⟨_, rfl, q m m0 m1 m2⟩
    · exact ⟨_, rfl, q m m0 m1 m2⟩
theorem sc__law_no_rate : FnScope ["_law_act", "e"] ["_law_act"] (defScope s__law_no_rate) := ⟨rfl, rfl, rfl, by decide +kernel, rfl, by decide +kernel, by decide +kernel⟩
/-- what the law's no_rate makes of a lambda that is refused with NoRate: the class's name and the loudness -/
def TNo (C : Addr) (nm : Str) : (XK → Hp → VK → Prop) → Hp → VK → Prop := fun tl H Q =>
  tl (fun cls d H' => cls = .ref C ∧ ∃ (dd : Addr) (v : V), d = some dd ∧ H' dd = some (.xd [(("loud" : Str), v), (("word" : Str), .str nm)]) ∧ ∀ p, H' p = none → Q (.ref p) (upd H' p (.lst [.str nm, v]))) H (fun _ _ => False)
theorem no_gives {X : Cx} {g cT cL : Addr} {cdg : Value} {q : Str} (gT : X.mg "NoRate" = some (.ref cT)) (xT : XfC X.K cT) (noT : PySem.W.findIn X.K (.ref cT) "loud" = some none) (gL : X.mg "LineError" = some (.ref cL))
    (tt : PySem.W.exmOne X.K (.ref cT) (.ref cT) = some true) :
    LamX.GivesTo X ["_law_act", "e"] "_law_no_rate" (defScope s__law_no_rate) g cdg (defBody s__law_no_rate) "_law_act" q (TNo cT "NoRate") := by
  intro f c' s H Q tl act hc h
  have sc := sc__law_no_rate
  refine ⟨_, pss_cons (ps_try_manyA (X := (cxOf C8.CX0 X.prog X.w X.K X.mg X.base ["_law_act", "e"] "_law_no_rate" (defScope s__law_no_rate) g cdg X.A X.stack s H C8.E0).nox) (n := "e") (i := 1)
      (tb := fun W D σ H => ∃ Ech : XK, (∀ cls d σ' H', Ech cls d H' → σ'.length = 2 → W cls d σ' H') ∧ σ[0]? = some (some (.ref f)) ∧ H c' = some (LamX.CodeO c' q) ∧ tl Ech H (fun _ H1 => D.nx σ H1))
      rfl rfl sc.nd rfl rfl LamX.takes0 (fun W pn xe tk _ => ?_)
      (.cons (c := .ref cT) ⟨by rfl, by decide, .inl gT⟩ (fun a oe cls d pn hz hf => pss_one (ps_ret (pe_lst (pa_cons pe_str (pa_cons (pe_xf xT noT hz hf (pv 1)) pa_nil)))))
      (.cons (c := .ref cL) ⟨by rfl, by decide, .inl gL⟩ (fun a oe cls d pn hz hf => pss_one ps_never) .nil))) (pss_one ps_never), ?_⟩
  · refine ⟨fun pins s' σ H' D I h' => ?_⟩
    obtain ⟨Ech, hW, h1, h2, h3⟩ := h'
    exact PSs.run (pss_one (ps_expr (act _ pn xe Ech _ _ (takes_len tk) (fun cls d σ' H' e hl => hW cls d σ' H' e hl)))) pins s' σ H' D I ⟨h1, h2, h3⟩
  · refine ⟨_, fun cls d σ' H' e hl => ?_, rfl, hc, h⟩
    obtain ⟨rfl, dd, v, rfl, hd, q'⟩ := e
    have g1 : ∀ a : Addr, (σ'.set 1 (some (V.ref a)))[1]? = some (some (V.ref a)) := fun a => set_get (by omega)
    exact ⟨true, tt, fun _ a _ => ⟨_, g1 a, rfl, rfl, dd, _, v, rfl, hd, rfl, (by show 2 ≤ sizeLine; decide), q'⟩, fun z => by cases z⟩
theorem dp_ss {H : Hp} {a : Addr} {x y : Str} (h : H a = some (.tup [.str x, .str y])) : Dp K H (.ref a) (.tuple [.str x, .str y]) := .tup (.inl (.inl h)) (.cons (.str x) (.cons (.str y) .nil))
theorem shaped_ss {x y : Str} (hx : PyData.canLay0 (.str x) = true) (hy : PyData.canLay0 (.str y) = true) : SeqAt.shaped (.tuple [.str x, .str y]) = true := by
  unfold SeqAt.shaped
  rw [Bool.and_eq_true]
  refine ⟨?_, decide_eq_true (by show max 0 (max 0 0) + 1 ≤ 64; decide)⟩
  show (PyData.canLay0 (.str x) && (PyData.canLay0 (.str y) && true)) = true
  rw [hx, hy]
  rfl
theorem lay_BadCount : PyData.canLay0 (.str "BadCount") = true := by decide +kernel
theorem lay_NoRate : PyData.canLay0 (.str "NoRate") = true := by decide +kernel
theorem lay_refused : PyData.canLay0 (.str "refused") = true := by decide +kernel
theorem lay_told : PyData.canLay0 (.str "told") = true := by decide +kernel
abbrev qLam : Str := "law.<locals>.<lambda>"
def spLaw (K : PySem.W.Frag) (tP : Addr) : Sp := fun vs H Q _ => ∃ (a : Addr) (ns : List Int), vs = [.ref a] ∧ SqL K H a (ns.map V.int) ∧ H tP = some (.tbl #[]) ∧ ∀ H', Q (.bl true) H'
theorem ss_same (x y : Str) (hx : PyData.canLay0 (.str x) = true) (hy : PyData.canLay0 (.str y) = true) : (!PyData.eqv (.tuple [.str x, .str y]) (.tuple [.str x, .str y])) = false := by
  rw [SeqAt.eqv_refl _ (SeqAt.canLay_of_shaped (shaped_ss hx hy))]
  rfl
theorem sc_law : FnScope ["_law_script", "_law_bag_here", "_law_turn", "_law_size", "_law_edge", "_law_loud", "_law_due", "_law_told", "_law_low", "_law_odd"] ["_law_script"] (defScope s_law) := ⟨rfl, rfl, rfl, by decide +kernel, rfl, by decide +kernel, by decide +kernel⟩
theorem dn_ints (ns : List Int) (h : ns.length ≤ 100000) (n : Nat) : Dn (n + 2) (dI ns) := .inr (.inr (.inr (.inr ⟨_, .inl rfl, by rw [List.length_map]; exact h, fun e he => by
  obtain ⟨z, _, rfl⟩ := List.mem_map.mp he
  exact .inr (.inl ⟨z, rfl⟩)⟩)))
theorem dn_tupI (ns : List Int) (h : ns.length ≤ 100000) (n : Nat) : Dn (n + 2) (.tuple (ns.map PyData.int)) := .inr (.inr (.inr (.inr ⟨_, .inr rfl, by rw [List.length_map]; exact h, fun e he => by
  obtain ⟨z, _, rfl⟩ := List.mem_map.mp he
  exact .inr (.inl ⟨z, rfl⟩)⟩)))
theorem dn_toldT (ns : List Int) (h : ns.length ≤ 100000) (n : Nat) : Dn (n + 3) (.tuple [.str "told", .tuple (ns.map PyData.int)]) := .inr (.inr (.inr (.inr ⟨_, .inr rfl, (by show 2 ≤ 100000; decide), fun e he => by
  rcases List.mem_cons.mp he with rfl | he
  · exact .inr (.inr (.inl ⟨_, rfl⟩))
  · rw [List.mem_singleton.mp he]
    exact dn_tupI ns h n⟩)))
theorem shaped_toldT (ns : List Int) : SeqAt.shaped (.tuple [.str "told", .tuple (ns.map PyData.int)]) = true := by
  unfold SeqAt.shaped
  rw [Bool.and_eq_true]
  refine ⟨?_, decide_eq_true ?_⟩
  · show (PyData.canLay0 (.str "told") && (PyData.canLayAll0 (ns.map PyData.int) && true)) = true
    rw [lay_told, canLay_ints]
    rfl
  · show max 0 (max (PyData.depthAll (ns.map PyData.int) + 1) 0) + 1 ≤ 64
    rw [depth_ints]
    decide
theorem shaped_si {x : Str} (hx : PyData.canLay0 (.str x) = true) (z : Int) : SeqAt.shaped (.list [.str x, .int z]) = true := by
  unfold SeqAt.shaped
  rw [Bool.and_eq_true]
  refine ⟨?_, decide_eq_true (by show max 0 (max 0 0) + 1 ≤ 64; decide)⟩
  show (PyData.canLay0 (.str x) && (true && true)) = true
  rw [hx]
  rfl
theorem si_same (x : Str) (z : Int) (hx : PyData.canLay0 (.str x) = true) : (!PyData.eqv (.list [.str x, .int z]) (.list [.str x, .int z])) = false := by
  rw [SeqAt.eqv_refl _ (SeqAt.canLay_of_shaped (shaped_si hx z))]
  rfl
theorem ok_law {f c tP gD gE cN cO cM cL : Addr} {k n : Nat} {tD tU : Tok} {ocE : Value} {odE anE : Option Addr} {oslE : Array (Option Value)} {kVE docE pmE cdE ctE : Value} {oc : Value} {od an : Option Addr} {osl : Array (Option Value)} {kV doc pm ct : Value} {ocD : Value} {odD anD : Option Addr} {oslD : Array (Option Value)} {kVD docD pmD cdD ctD : Value}
    (lk : K.lookup f = some ⟨oc, od, .func (PySem.W.fnOf "law" "law" (defArgs s_law) (defBody s_law) (defScope s_law) .none kV doc pm an (.ref c) ct), osl⟩) (hcd : PySem.W.codeIn K (.ref c) "law" = true)
    (TB : LamX.TabB base mg c tP) (gL : mg "LineError" = some (.ref cL))
    (lE : K.lookup gE = some ⟨ocE, odE, .func (PySem.W.fnOf "_law_no_rate" "_law_no_rate" (defArgs s__law_no_rate) (defBody s__law_no_rate) (defScope s__law_no_rate) .none kVE docE pmE anE cdE ctE), oslE⟩) (hcE : PySem.W.codeIn K cdE "_law_no_rate" = true) (kE : PySem.W.keepIn K (.ref gE) = true) (mE : mg "_law_no_rate" = some (.ref gE))
    (bE : Binds K (PySem.W.fnOf "_law_no_rate" "_law_no_rate" (defArgs s__law_no_rate) (defBody s__law_no_rate) (defScope s__law_no_rate) .none kVE docE pmE anE cdE ctE) ["_law_act"] [])
    (lD : K.lookup gD = some ⟨ocD, odD, .func (PySem.W.fnOf "_law_tried" "_law_tried" (defArgs s__law_tried) (defBody s__law_tried) (defScope s__law_tried) .none kVD docD pmD anD cdD ctD), oslD⟩) (hcD : PySem.W.codeIn K cdD "_law_tried" = true) (kD : PySem.W.keepIn K (.ref gD) = true) (mD : mg "_law_tried" = some (.ref gD))
    (bD : Binds K (PySem.W.fnOf "_law_tried" "_law_tried" (defArgs s__law_tried) (defBody s__law_tried) (defScope s__law_tried) .none kVD docD pmD anD cdD ctD) ["_law_act"] [])
    (xN : XfC K cN) (noN : PySem.W.findIn K (.ref cN) "word" = some none) (xO : XfC K cO) (noO : PySem.W.findIn K (.ref cO) "word" = some none) (gM : mg "Missing" = some (.ref cM)) (nlN : PySem.W.exmOne K (.ref cN) (.ref cL) = some true) (nlO : PySem.W.exmOne K (.ref cO) (.ref cL) = some true)
    (gO : mg "NoRate" = some (.ref cO)) (noL : PySem.W.findIn K (.ref cO) "loud" = some none) (oo : PySem.W.exmOne K (.ref cO) (.ref cO) = some true)
    (n_range : mg "range" = none) (g_DATA : mg "DATA" = some (.int 16 tD)) (g_BURST : mg "BURST" = some (.int 18 tU))
    (clw_paper_1_beats : CalW P w K mg base k "paper" ["loud", "beats"] 1 ["beats"] (fun vs zs => vs ++ zs) (spPaper cN cO)) (cd_paper : CalD P w K mg base (k + 2) "paper" ["loud", "beats"] [.int 18] (spPaper cN cO))
    (c__law_bag : Cal P w K mg base (k + 2) "_law_bag" ["_law_script"] (spBag K)) (c__law_pick : Cal P w K mg base (k + 2) "_law_pick" ["_law_bag_here", "_law_top"] spPick) (c__law_of : Cal P w K mg base (k + 2) "_law_of" ["_law_bag_here", "_law_some"] (spOf K)) (c__law_same : Cal P w K mg base (k + 2) "_law_same" ["_law_found", "_law_due"] (spSame K (n + 3)))
    (c__law_root : Cal P w K mg base (k + 2) "_law_root" ["_law_figure"] spRoot) (c__law_paper : Cal P w K mg base (k + 2) "_law_paper" ["_law_loud", "_law_size"] (spLP K)) :
    FnOk P w K mg base CX0 (k + 3) f (PySem.W.fnOf "law" "law" (defArgs s_law) (defBody s_law) (defScope s_law) .none kV doc pm an (.ref c) ct) ["_law_script"] (spLaw K tP) := by
  have sc := sc_law
  refine okL lk hcd sc (fun vs H Q E h => ?_) (fun A outer s H vs Q E hr h => ?_)
  · obtain ⟨a, ns, rfl, _⟩ := h
    rfl
  · obtain ⟨a, ns, rfl, hS, hT0, q⟩ := h
    have LA__law_tried : LamTo (cxOf CX0 P w K mg base ["_law_script", "_law_bag_here", "_law_turn", "_law_size", "_law_edge", "_law_loud", "_law_due", "_law_told", "_law_low", "_law_odd"] "law" (defScope s_law) f (.ref c) A outer s H E).nox [(tP, qLam)] "_law_tried" (TTried2 cN "BadCount" cO "NoRate") := fun {params body scope t p lpos pos k} hr L hd hbn hbody =>
      LamX.pe_lamcall (by rfl) mD kD lD hcD bD sc__law_tried rfl (.inl rfl) (tried2_gives xN noN xO noO gL gM nlN nlO) TB rfl (List.mem_singleton.mpr rfl) (fun p hp _ => by rw [List.mem_singleton.mp hp]; rfl) hr L hd hbn hbody
    have LA__law_no_rate : LamTo (cxOf CX0 P w K mg base ["_law_script", "_law_bag_here", "_law_turn", "_law_size", "_law_edge", "_law_loud", "_law_due", "_law_told", "_law_low", "_law_odd"] "law" (defScope s_law) f (.ref c) A outer s H E).nox [(tP, qLam)] "_law_no_rate" (TNo cO "NoRate") := fun {params body scope t p lpos pos k} hr L hd hbn hbody =>
      LamX.pe_lamcall (by rfl) mE kE lE hcE bE sc__law_no_rate rfl (.inl rfl) (no_gives gO xO noL gL oo) TB rfl (List.mem_singleton.mpr rfl) (fun p hp _ => by rw [List.mem_singleton.mp hp]; rfl) hr L hd hbn hbody
    refine ⟨_, (pss_cons (ps_set (i := 1) sc.nd rfl (.inl rfl) (pe_callC c__law_bag hr (by rfl) (pa_cons (pv 0) pa_nil)))
 (pss_cons (ps_for PassesOwn.never rfl (pi_range1 (by rfl) n_range (pa_cons pe_int pa_nil)) (pg_name (i := 2) sc.nd rfl (.inl rfl))
  (pss_cons (ps_set (i := 3) sc.nd rfl (.inr rfl) (pe_callC c__law_of hr (by rfl) (pa_cons (pv 1) (pa_cons (pe_lst (pa_cons pe_int (pa_cons (pe_op op_add pe_int (pe_callC c__law_pick hr (by rfl) (pa_cons (pv 1) (pa_cons pe_int pa_nil)))) (pa_cons pe_int (pa_cons pe_int pa_nil))))) pa_nil))))
 (pss_cons (ps_set (i := 4) sc.nd rfl (.inl rfl) (pe_callC c__law_root hr (by rfl) (pa_cons (pe_op op_fdiv (pe_op op_mul (pe_op op_mul pe_int pe_int) pe_int) (pe_op op_mul (pe_op op_mul pe_int (pv 3)) (pe_ix (ix_listK K rfl) (pe_lst (pa_cons pe_int (pa_cons pe_int (pa_cons pe_int (pa_cons pe_int pa_nil))))) (pe_callC c__law_pick hr (by rfl) (pa_cons (pv 1) (pa_cons pe_int pa_nil))) (fun _ _ => rfl)))) pa_nil)))
 (pss_cons (ps_set (i := 5) sc.nd rfl (.inr rfl) (pe_callC c__law_of hr (by rfl) (pa_cons (pv 1) (pa_cons (pe_lst (pa_cons (pv 4) (pa_cons (pe_op op_add (pv 4) pe_int) (pa_cons (pe_callC c__law_pick hr (by rfl) (pa_cons (pv 1) (pa_cons pe_int pa_nil))) (pa_cons pe_int pa_nil))))) pa_nil))))
 (pss_cons (ps_set (i := 6) sc.nd rfl (.inl rfl) (pe_callC c__law_paper hr (by rfl) (pa_cons (pv 5) (pa_cons (pv 3) pa_nil))))
 (pss_cons (ps_set (i := 7) sc.nd rfl (.inl rfl) (LA__law_tried hr (LamX.lamS_by (sc := defScope s_law) (by decide +kernel)) rfl (fun _ _ _ _ _ => rfl) (fun A outer s H E f c2 hr => (pe_callW clw_paper_1_beats hr (passes_call (takes_of rfl rfl rfl rfl) (fun _ _ _ _ h => h)) (by rfl) (pa_cons (pv 5) pa_nil) (pk_cons (pv 3) pk_nil)))))
 (pss_cons (ps_if (pt_cmpR op_isN (pv 6) pe_non (nomark _))
  (pss_one (ps_if (PW.pt (pw_or (pt_cmpR (op_neDK K rfl hr.units) (pv 7) (pe_tup (pa_cons pe_str (pa_cons pe_str pa_nil))) (nomark _)) (pw_or1 (pt_cmpR (op_neDK K rfl hr.units) (LA__law_no_rate hr (LamX.lamS_by (sc := defScope s_law) (by decide +kernel)) rfl (fun _ _ _ _ _ => rfl) (fun A outer s H E f c2 hr => (pe_callW clw_paper_1_beats hr (passes_call (takes_of rfl rfl rfl rfl) (fun _ _ _ _ h => h)) (by rfl) (pa_cons (pv 5) pa_nil) (pk_cons (pv 3) pk_nil)))) (pe_lst (pa_cons pe_str (pa_cons (pv 5) pa_nil))) (nomark _)))))
  (pss_one (ps_ret pe_bl))
  pss_nil))
  (pss_one (ps_if (PW.pt (pw_or (pt_not (pt_val (pe_callC c__law_same hr (by rfl) (pa_cons (pv 7) (pa_cons (pe_tup (pa_cons pe_str (pa_cons (pv 6) pa_nil))) pa_nil))))) (pw_or1 (PW.pt (pw_and (pt_cmpR op_eq (pv 3) pe_int (nomark _)) (pw_and1 (pt_not (pt_val (pe_callC c__law_same hr (by rfl) (pa_cons (pe_callDF cd_paper hr (by rfl) (pa_cons (pv 5) pa_nil)) (pa_cons (pv 6) pa_nil)))))))))))
  (pss_one (ps_ret pe_bl))
  pss_nil)))
 (pss_cons (ps_set (i := 8) sc.nd rfl (.inr rfl) (pe_op op_sub (pe_un un_neg pe_int) (pe_callC c__law_pick hr (by rfl) (pa_cons (pv 1) (pa_cons (pe_op op_pow pe_int pe_int) pa_nil)))))
 (pss_cons (ps_if (pt_cmpR (op_neDK K rfl hr.units) (LA__law_tried hr (LamX.lamS_by (sc := defScope s_law) (by decide +kernel)) rfl (fun _ _ _ _ _ => rfl) (fun A outer s H E f c2 hr => (pe_callW clw_paper_1_beats hr (passes_call (takes_of rfl rfl rfl rfl) (fun _ _ _ _ h => h)) (by rfl) (pa_cons (pv 8) pa_nil) (pk_cons (pv 3) pk_nil)))) (pe_tup (pa_cons pe_str (pa_cons pe_str pa_nil))) (nomark _))
  (pss_one (ps_ret pe_bl))
  pss_nil)
 (pss_cons (ps_set (i := 9) sc.nd rfl (.inr rfl) (pe_callC c__law_of hr (by rfl) (pa_cons (pv 1) (pa_cons (pe_lst (pa_cons pe_int (pa_cons (pe_un un_neg pe_int) (pa_cons pe_int (pa_cons (pe_op op_pow pe_int pe_int) pa_nil))))) pa_nil))))
 (pss_one (ps_if (pt_cmpR (op_neDK K rfl hr.units) (LA__law_tried hr (LamX.lamS_by (sc := defScope s_law) (by decide +kernel)) rfl (fun _ _ _ _ _ => rfl) (fun A outer s H E f c2 hr => (pe_callW clw_paper_1_beats hr (passes_call (takes_of rfl rfl rfl rfl) (fun _ _ _ _ h => h)) (by rfl) (pa_cons (pv 5) pa_nil) (pk_cons (pv 9) pk_nil)))) (pe_tup (pa_cons pe_str (pa_cons pe_str pa_nil))) (nomark _))
  (pss_one (ps_ret pe_bl))
  pss_nil))))))))))))
 (pss_one (ps_ret (pe_callC c__law_same hr (by rfl) (pa_cons (pe_lst (pa_cons (pe_glob (v := .int 16) (by rfl) g_DATA ⟨_, rfl⟩) (pa_cons (pe_glob (v := .int 18) (by rfl) g_BURST ⟨_, rfl⟩) (pa_cons (pe_ix (ix_tupK K rfl) (pe_callDF cd_paper hr (by rfl) (pa_cons pe_int pa_nil)) pe_int (fun _ _ => rfl)) (pa_cons (pe_ix (ix_tupK K rfl) (pe_callDF cd_paper hr (by rfl) (pa_cons pe_int pa_nil)) pe_int (fun _ _ => rfl)) (pa_cons (pe_ix (ix_tupK K rfl) (pe_callDF cd_paper hr (by rfl) (pa_cons pe_int pa_nil)) pe_int (fun _ _ => rfl)) pa_nil)))))) (pa_cons (pe_lst (pa_cons pe_int (pa_cons pe_int (pa_cons pe_int (pa_cons pe_int (pa_cons pe_int pa_nil)))))) pa_nil))))))), ?_⟩
    have hT : LamX.Tabs [(tP, qLam)] H := fun p hp => by rw [List.mem_singleton.mp hp]; exact LamX.TabS.nil hT0
    refine ⟨_, rfl, a, ns, rfl, hS, fun H1 b s1 nb hB => ?_⟩
    have h1 : Hs [(tP, qLam)] [tB b] H1 := (Hs.nil (hT.ext s1)).cons hB (fun j y hj => by cases hj)
    refine ⟨2, rfl, by decide, by decide, for_range (lo := 0) (n := 2) (fun i σ H' => ∃ y2 y3 y4 y5 y6 y7 y8 y9, σ = [some (.ref a), some (.ref b.1), y2, y3, y4, y5, y6, y7, y8, y9] ∧ Hs [(tP, qLam)] [tB b] H') ⟨none, none, none, none, none, none, none, none, rfl, h1⟩ ?_ ?_⟩
    · clear h1 hB
      rintro i σ H1 hi ⟨y2, y3, y4, y5, y6, y7, y8, y9, rfl, h1⟩
      -- size
      refine ⟨_, rfl, _, rfl, b, 40, rfl, h1.bag, by decide, by decide, fun H2 d2 mv2 hB2 d20 d21 => ⟨_, _, rfl, rfl, (by show 4 ≤ sizeLine; decide), fun p3 n3 => ?_⟩⟩
      have h2 := h1.mv mv2 hB2
      have h3 := h2.newU (o := .lst [.int 18, .int (1 + d2), .int 1, .int 1000]) n3
      refine ⟨b, p3, _, rfl, h3.bag, h3.ne 1 0 rfl rfl (.head _) (.head _), upd_same, (by show 0 < 4; decide), (by show 4 < 1000; decide), fun H4 v4 mv4 hB4 hv => ?_⟩
      obtain ⟨sz, rfl, sz1, sz2⟩ : ∃ z : Int, v4 = .int z ∧ 1 ≤ z ∧ z ≤ 1000 := by
        simp only [List.mem_cons, List.not_mem_nil, or_false] at hv
        rcases hv with rfl | rfl | rfl | rfl
        · exact ⟨18, rfl, by decide, by decide⟩
        · exact ⟨_, rfl, by omega, by omega⟩
        · exact ⟨1, rfl, by decide, by decide⟩
        · exact ⟨1000, rfl, by decide, by decide⟩
      have h4 : Hs [(tP, qLam)] [tB b] H4 := (h3.mv mv4 hB4).sel [0] (by decide)
      clear h1 h2 h3 mv2 mv4 hB2 hB4 hv
      refine name_by ?_
      dsimp only
      -- edge
      refine ⟨_, _, rfl, rfl, .inl ⟨by decide, by decide⟩, _, _, rfl, rfl, .inl ⟨by decide, by decide⟩, _, rfl, _, _, rfl, rfl, .inl ⟨by decide, by decide⟩, (by show 4 ≤ sizeLine; decide), fun p5 n5 => ?_⟩
      have h5 := h4.newU (o := .lst [.int 1, .int 4, .int 16, .int 64]) n5
      refine ⟨_, rfl, b, 4, rfl, h5.bag, by decide, by decide, fun H6 d6 mv6 hB6 d60 d61 => ?_⟩
      have h6 := h5.mv mv6 hB6
      obtain ⟨dn, rfl⟩ : ∃ dn : Nat, d6 = (dn : Int) := ⟨d6.toNat, by omega⟩
      obtain ⟨qd, hq, q4⟩ : ∃ z : Int, ([.int 1, .int 4, .int 16, .int 64] : List V)[dn]? = some (.int z) ∧ (z = 1 ∨ z = 4 ∨ z = 16 ∨ z = 64) := by
        match dn, d61 with
        | 0, _ => exact ⟨1, rfl, .inl rfl⟩
        | 1, _ => exact ⟨4, rfl, .inr (.inl rfl)⟩
        | 2, _ => exact ⟨16, rfl, .inr (.inr (.inl rfl))⟩
        | 3, _ => exact ⟨64, rfl, .inr (.inr (.inr rfl))⟩
        | j + 4, h => exact absurd h (by omega)
      have m0 : 0 < 4 * sz * qd ∧ 4 * sz * qd < 1073741824 := by
        rcases q4 with rfl | rfl | rfl | rfl <;> omega
      refine ⟨p5, _, _, _, rfl, rfl, SqL.of (h6.at 1 rfl), atI_nat hq, _, _, rfl, rfl, .inl ⟨by omega, by omega⟩, _, _, rfl, rfl, ⟨m0.1, m0.2⟩, _, rfl, Int.ediv_nonneg (by decide) (by omega), fun ed e0 _ e2 => ?_⟩
      have h7 : Hs [(tP, qLam)] [tB b] H6 := h6.sel [0] (by decide)
      clear h4 h5 h6 mv6 hB6
      refine name_by ?_
      dsimp only
      -- loud
      refine ⟨_, rfl, _, rfl, _, rfl, _, _, rfl, rfl, _, rfl, b, 30, rfl, h7.bag, by decide, by decide, fun H7 d7 mv7 hB7 d70 d71 => ⟨(by show 4 ≤ sizeLine; decide), fun p8 n8 => ?_⟩⟩
      have h8 := (h7.mv mv7 hB7).newU (o := .lst [.int ed, .int (ed + 1), .int d7, .int 0]) n8
      refine ⟨b, p8, _, rfl, h8.bag, h8.ne 1 0 rfl rfl (.head _) (.head _), upd_same, (by show 0 < 4; decide), (by show 4 < 1000; decide), fun H9 v9 mv9 hB9 hv => ?_⟩
      obtain ⟨ld, rfl, ld1, ld2⟩ : ∃ z : Int, v9 = .int z ∧ 0 ≤ z ∧ z ≤ 201 := by
        simp only [List.mem_cons, List.not_mem_nil, or_false] at hv
        rcases hv with rfl | rfl | rfl | rfl
        · exact ⟨_, rfl, by omega, by omega⟩
        · exact ⟨_, rfl, by omega, by omega⟩
        · exact ⟨_, rfl, by omega, by omega⟩
        · exact ⟨0, rfl, by decide, by decide⟩
      have h9 : Hs [(tP, qLam)] [tB b] H9 := (h8.mv mv9 hB9).sel [0] (by decide)
      clear h7 h8 mv7 mv9 hB7 hB9 hv
      refine name_by ?_
      dsimp only
      have l64 : ld.natAbs < 2 ^ 64 := Nat.lt_of_le_of_lt (show ld.natAbs ≤ 201 by omega) (by decide)
      have s64 : sz.natAbs < 2 ^ 64 := Nat.lt_of_le_of_lt (show sz.natAbs ≤ 1000 by omega) (by decide)
      have good : ¬ badP ld sz := fun h => by
        rcases h with h | h | h <;> omega
      -- due
      refine ⟨_, rfl, _, rfl, ld, sz, rfl, l64, s64, fun H10 v10 s10 hv10 => ?_⟩
      have h10 := h9.same s10
      clear h9
      refine name_by ?_
      dsimp only
      -- told
      refine ⟨h10.tab, fun H11 ex11 tb11 => ?_⟩
      cases ho : paperO ld sz
      case' none =>
        rw [ho] at hv10
        have hv10 : v10 = .non := hv10
        subst hv10
        have h11 := h10.extN ex11 tb11
        refine ⟨_, rfl, _, rfl, rfl, rfl, ld, sz, rfl, l64, s64, (fun bad => absurd bad good), (fun _ x hx => by rw [ho] at hx; cases hx), (fun _ _ H12 dd s12 nd12 ed12 => ?_)⟩
        refine ⟨dd, _, rfl, ed12, .inr ⟨rfl, rfl, fun p13 n13 => ?_⟩⟩
        have h13 := (Hw.of (K := K) (h11.same s12)).newT (xs := [.str "refused", .str "NoRate"]) n13
        generalize upd H12 p13 (.tup [.str "refused", .str "NoRate"]) = H13 at h13 ⊢
        refine name_by ?_
        dsimp only
        refine if_by (J := fun σ1 H14 => ∃ (y6 y7 : Option V), σ1 = [some (.ref a), some (.ref b.1), some (.int (0 + (i : Int))), some (.int sz), some (.int ed), some (.int ld), y6, y7, y8, y9] ∧ Hs [(tP, qLam)] [tB b] H14) ?_ (fun rest => ?_)
        rotate_left
        · refine ⟨_, rfl, rfl, _, rfl, iteT ?_⟩
          refine ⟨_, rfl, (by show 2 ≤ sizeLine; decide), fun p14 n14 => ?_⟩
          have s14 := same_upd (o := .tup [.str "refused", .str "NoRate"]) n14
          have h14 := h13.same s14
          refine ⟨.tuple [.str "refused", .str "NoRate"], .tuple [.str "refused", .str "NoRate"], .tup (h14.tup 0 rfl) (.cons (.str _) (.cons (.str _) .nil)), dp_ss upd_same, shaped_ss lay_refused lay_NoRate, shaped_ss lay_refused lay_NoRate, _, rfl, ifF (ss_same _ _ lay_refused lay_NoRate) ?_⟩
          generalize upd H13 p14 (.tup [.str "refused", .str "NoRate"]) = H14 at h14 ⊢
          refine ⟨h14.hs.tab, fun H15 ex15 tb15 => ?_⟩
          have h15 := h14.hs.extN ex15 tb15
          refine ⟨_, rfl, _, rfl, rfl, rfl, ld, sz, rfl, l64, s64, (fun bad => absurd bad good), (fun _ x hx => by rw [ho] at hx; cases hx), (fun _ _ H16 dd s16 nd16 ed16 => ?_)⟩
          refine ⟨rfl, dd, _, rfl, ed16, fun p17 n17 => ?_⟩
          have h17 := (h15.same s16).newHU (o := .lst [.str "NoRate", .int ld]) n17
          refine ⟨_, rfl, (by show 2 ≤ sizeLine; decide), fun p18 n18 => ?_⟩
          have h18 := h17.newHU (o := .lst [.str "NoRate", .int ld]) n18
          refine ⟨.list [.str "NoRate", .int ld], .list [.str "NoRate", .int ld], .lst (SqL.of (h18.at 1 rfl)) (.cons (.str _) (.cons (.int _) .nil)), .lst (SqL.of (h18.at 0 rfl)) (.cons (.str _) (.cons (.int _) .nil)), shaped_si lay_NoRate _, shaped_si lay_NoRate _, _, rfl, ifF (si_same _ _ lay_NoRate) ?_⟩
          exact rest _ _ ⟨_, _, rfl, h18.sel [2] (by decide)⟩
      case' some x =>
        rw [ho] at hv10
        obtain ⟨t10, rfl, _, e10⟩ := hv10
        have h10 := (Hw.of (K := K) h10).know (SqT.of e10)
        have h11 : Hw K [(t10, (tup3 x).map V.int)] [(tP, qLam)] [tB b] H11 := ⟨h10.hs.extN ex11 tb11, fun p hp => sqT_keep (fun o e n => ex11 _ _ e (fun ps z => by rw [z] at n; exact n trivial)) (h10.tf p hp)⟩
        refine ⟨_, rfl, _, rfl, rfl, rfl, ld, sz, rfl, l64, s64, (fun bad => absurd bad good), (fun _ x' hx H12 t s12 nt et => ?_), (fun _ hn => by rw [ho] at hn; cases hn)⟩
        obtain rfl : x = x' := Option.some.inj (ho.symm.trans hx)
        refine ⟨(by show 2 ≤ sizeLine; decide), fun p13 n13 => ?_⟩
        have h13 := ((h11.same s12).know (SqT.of et)).newT (xs := [.str "told", .ref t]) n13
        generalize upd H12 p13 (.tup [.str "told", .ref t]) = H13 at h13 ⊢
        refine name_by ?_
        dsimp only
        refine if_by (J := fun σ1 H14 => ∃ (y6 y7 : Option V), σ1 = [some (.ref a), some (.ref b.1), some (.int (0 + (i : Int))), some (.int sz), some (.int ed), some (.int ld), y6, y7, y8, y9] ∧ Hs [(tP, qLam)] [tB b] H14) ?_ (fun rest => ?_)
        rotate_left
        · refine ⟨_, rfl, rfl, _, rfl, iteF ?_⟩
          refine ⟨_, rfl, _, rfl, (by show 2 ≤ sizeLine; decide), fun p14 n14 => ?_⟩
          have h14 := h13.newT (xs := [.str "told", .ref t10]) n14
          refine ⟨.ref p13, .ref p14, .tuple [.str "told", .tuple ((tup3 x).map PyData.int)], rfl, .tup (h14.tup 1 rfl) (.cons (.str _) (.cons (.tup (h14.tup 2 rfl) (dpa_ints _)) .nil)), .tup (h14.tup 0 rfl) (.cons (.str _) (.cons (.tup (h14.tup 3 rfl) (dpa_ints _)) .nil)), dn_toldT _ (by show 3 ≤ 100000; decide) n, shaped_toldT _, fun H15 s15 => ⟨_, rfl, iteF ?_⟩⟩
          have h15 := h14.same s15
          clear h10 h11 h13 h14
          refine ⟨_, rfl, rfl, _, rfl, ite2 (fun e => ?_) (fun e => iteF ?_)⟩
          · have e : sz = 18 := eq_t e
            subst e
            refine ⟨_, rfl, ld, 18, rfl, l64, s64, (fun bad => absurd bad good), (fun _ x' hx H16 t' s16 nt' et' => ?_), (fun _ hn => by rw [ho] at hn; cases hn)⟩
            obtain rfl : x = x' := Option.some.inj (ho.symm.trans hx)
            have h16 := h15.same s16
            refine ⟨_, rfl, .ref t', .ref t10, .tuple ((tup3 x).map PyData.int), rfl, .tup (SqT.of et') (dpa_ints _), .tup (h16.tup 3 rfl) (dpa_ints _), dn_tupI _ (by show 3 ≤ 100000; decide) (n + 1), shaped_tup _, fun H17 s17 => ⟨_, rfl, iteF ?_⟩⟩
            exact rest _ _ ⟨_, _, rfl, (h16.same s17).hs⟩
          · exact rest _ _ ⟨_, _, rfl, h15.hs⟩
      all_goals
        clear h10 ex11 tb11
        rintro σ1 H14 ⟨y6, y7, rfl, h14⟩
        -- a loudness below nought
        refine ⟨1, rfl, _, rfl, 10, 9, rfl, rfl, ⟨by decide, by decide, by decide⟩, b, 1000000000, rfl, h14.bag, by decide, by decide, fun H15 d15 mv15 hB15 d150 d151 => ⟨_, _, rfl, rfl, ?_⟩⟩
        have h15 := h14.mv mv15 hB15
        refine name_by ?_
        dsimp only
        refine ⟨h15.tab, fun H16 ex16 tb16 => ?_⟩
        have h16 := h15.extN ex16 tb16
        have ml : (-1 - d15).natAbs < 2 ^ 64 := Nat.lt_of_le_of_lt (show (-1 - d15).natAbs ≤ 1000000001 by omega) (by decide)
        refine ⟨_, rfl, _, rfl, rfl, rfl, -1 - d15, sz, rfl, ml, s64, (fun _ H17 dd s17 nd17 ed17 => ?_), (fun g => absurd (.inl (by omega)) g), (fun g => absurd (.inl (by omega)) g)⟩
        refine ⟨dd, _, rfl, ed17, .inl ⟨rfl, rfl, fun p18 n18 => ?_⟩⟩
        have s18 := same_upd (o := .tup [.str "refused", .str "BadCount"]) n18
        refine ⟨(by show 2 ≤ sizeLine; decide), fun p19 n19 => ?_⟩
        have s19 := same_upd (o := .tup [.str "refused", .str "BadCount"]) n19
        refine ⟨_, _, dp_ss (s19 _ _ upd_same), dp_ss upd_same, shaped_ss lay_refused lay_BadCount, shaped_ss lay_refused lay_BadCount, _, rfl, ifF (ss_same _ _ lay_refused lay_BadCount) ?_⟩
        have h19 := ((h16.same s17).same s18).same s19
        generalize upd (upd H17 p18 (.tup [.str "refused", .str "BadCount"])) p19 (.tup [.str "refused", .str "BadCount"]) = H19 at h19 ⊢
        clear h14 h15 h16
        -- beats out of bounds
        refine ⟨_, rfl, 1, rfl, 10, 15, rfl, rfl, ⟨by decide, by decide, by decide⟩, (by show 4 ≤ sizeLine; decide), fun p20 n20 => ?_⟩
        have h20 := h19.newU (o := .lst [.int 0, .int (-1), .int 1001, .int (10 ^ 15)]) n20
        refine ⟨b, p20, _, rfl, h20.bag, h20.ne 1 0 rfl rfl (.head _) (.head _), upd_same, (by show 0 < 4; decide), (by show 4 < 1000; decide), fun H21 v21 mv21 hB21 hv => ?_⟩
        obtain ⟨od, rfl, o64, obad⟩ : ∃ z : Int, v21 = .int z ∧ z.natAbs < 2 ^ 64 ∧ badP ld z := by
          simp only [List.mem_cons, List.not_mem_nil, or_false] at hv
          rcases hv with rfl | rfl | rfl | rfl
          · exact ⟨0, rfl, by decide, .inr (.inl (by decide))⟩
          · exact ⟨-1, rfl, by decide, .inr (.inl (by decide))⟩
          · exact ⟨1001, rfl, by decide, .inr (.inr (by decide))⟩
          · exact ⟨_, rfl, by decide, .inr (.inr (by decide))⟩
        have h21 : Hs [(tP, qLam)] [tB b] H21 := (h20.mv mv21 hB21).sel [0] (by decide)
        clear h19 h20 mv21 hB21 hv
        refine name_by ?_
        dsimp only
        refine ⟨h21.tab, fun H22 ex22 tb22 => ?_⟩
        have h22 := h21.extN ex22 tb22
        refine ⟨_, rfl, _, rfl, rfl, rfl, ld, od, rfl, l64, o64, (fun _ H23 dd s23 nd23 ed23 => ?_), (fun g => absurd obad g), (fun g => absurd obad g)⟩
        refine ⟨dd, _, rfl, ed23, .inl ⟨rfl, rfl, fun p24 n24 => ?_⟩⟩
        have s24 := same_upd (o := .tup [.str "refused", .str "BadCount"]) n24
        refine ⟨(by show 2 ≤ sizeLine; decide), fun p25 n25 => ?_⟩
        have s25 := same_upd (o := .tup [.str "refused", .str "BadCount"]) n25
        refine ⟨_, _, dp_ss (s25 _ _ upd_same), dp_ss upd_same, shaped_ss lay_refused lay_BadCount, shaped_ss lay_refused lay_BadCount, _, rfl, ifF (ss_same _ _ lay_refused lay_BadCount) ?_⟩
        exact ⟨_, _, _, _, _, _, _, _, rfl, ((h22.same s23).same s24).same s25⟩
    · rintro σ H1 ⟨y2, y3, y4, y5, y6, y7, y8, y9, rfl, h1⟩
      have gd : ∀ z : Int, 0 ≤ z → ¬ badP z 18 := fun z hz h => by
        rcases h with h | h | h <;> omega
      refine ⟨0, 18, rfl, by decide, by decide, (fun bad => absurd bad (gd 0 (by decide))), (fun _ x hx H2 t2 s2 nt2 et2 => ?_), (fun _ hn => absurd hn (by decide))⟩
      obtain rfl : x = (4, 576, 0) := Option.some.inj (hx.symm.trans (by decide))
      refine ⟨t2, _, 0, _, rfl, rfl, SqT.of et2, atI_nat rfl, ?_⟩
      refine ⟨22, 18, rfl, by decide, by decide, (fun bad => absurd bad (gd 22 (by decide))), (fun _ x hx H3 t3 s3 nt3 et3 => ?_), (fun _ hn => absurd hn (by decide))⟩
      obtain rfl : x = (1, 36864, 8712) := Option.some.inj (hx.symm.trans (by decide))
      refine ⟨t3, _, 0, _, rfl, rfl, SqT.of et3, atI_nat rfl, ?_⟩
      refine ⟨2, 18, rfl, by decide, by decide, (fun bad => absurd bad (gd 2 (by decide))), (fun _ x hx H4 t4 s4 nt4 et4 => ?_), (fun _ hn => absurd hn (by decide))⟩
      obtain rfl : x = (4, 576, 72) := Option.some.inj (hx.symm.trans (by decide))
      refine ⟨t4, _, 0, _, rfl, rfl, SqT.of et4, atI_nat rfl, ?_⟩
      refine ⟨(by show 5 ≤ sizeLine; decide), fun p5 n5 => ⟨(by show 5 ≤ sizeLine; decide), fun p6 n6 => ?_⟩⟩
      refine ⟨.ref p5, .ref p6, dI [16, 18, 4, 1, 4], rfl, dp_ints (SqL.of (same_upd n6 _ _ upd_same)), dp_ints (SqL.of upd_same), dn_ints _ (by decide) (n + 1), shaped_ints _, fun H7 _ => q H7⟩
end
/-! ### the end -/
theorem all_mk {l : PySem.W.OpenLaw} {w : World} {K : PySem.W.Frag} {h : Heap} {mg : Str → Option Value} {fa f0 f1 f2 f3 f4 f5 f6 f7 f8 f9 f10 f11 f12 f13 f14 f15 f16 f17 f18 f19 f20 f21 f22 f23 : Addr} (X : K.In h) (G : h.Ns mainGlobals mg) (hfa : mg "law" = some (.ref fa)) (own : LamX.OwnTab K fa h)
    {oc0 : Value} {od0 an0 : Option Addr} {sl0 : Array (Option Value)} {kV0 dc0 pm0 cd0 ct0 : Value}
    {oc1 : Value} {od1 an1 : Option Addr} {sl1 : Array (Option Value)} {kV1 dc1 pm1 cd1 ct1 : Value}
    {oc2 : Value} {od2 an2 : Option Addr} {sl2 : Array (Option Value)} {kV2 dc2 pm2 cd2 ct2 : Value}
    {oc3 : Value} {od3 an3 : Option Addr} {sl3 : Array (Option Value)} {kV3 dc3 pm3 cd3 ct3 : Value}
    {oc4 : Value} {od4 an4 : Option Addr} {sl4 : Array (Option Value)} {kV4 dc4 pm4 cd4 ct4 : Value}
    {oc5 : Value} {od5 an5 : Option Addr} {sl5 : Array (Option Value)} {kV5 dc5 pm5 cd5 ct5 : Value}
    {oc6 : Value} {od6 an6 : Option Addr} {sl6 : Array (Option Value)} {kV6 dc6 pm6 cd6 ct6 : Value}
    {oc7 : Value} {od7 an7 : Option Addr} {sl7 : Array (Option Value)} { dc7 pm7 cd7 ct7 : Value}
    {D7 : Addr} {tD7 : Tok}
    {oc8 : Value} {od8 an8 : Option Addr} {sl8 : Array (Option Value)} {kV8 dc8 pm8 cd8 ct8 : Value}
    {oc9 : Value} {od9 an9 : Option Addr} {sl9 : Array (Option Value)} {kV9 dc9 pm9 cd9 ct9 : Value}
    {oc10 : Value} {od10 an10 : Option Addr} {sl10 : Array (Option Value)} { dc10 pm10 cd10 ct10 : Value}
    {D10 : Addr} {tD10 : Tok}
    {oc11 : Value} {od11 an11 : Option Addr} {sl11 : Array (Option Value)} { dc11 pm11 cd11 ct11 : Value}
    {D11 : Addr} {tD11 : Tok}
    {oc12 : Value} {od12 an12 : Option Addr} {sl12 : Array (Option Value)} { dc12 pm12 cd12 ct12 : Value}
    {D12 : Addr} {tD12 : Tok}
    {oc13 : Value} {od13 an13 : Option Addr} {sl13 : Array (Option Value)} { dc13 pm13 cd13 ct13 : Value}
    {D13 : Addr} {tD13 : Tok}
    {oc14 : Value} {od14 an14 : Option Addr} {sl14 : Array (Option Value)} {kV14 dc14 pm14 cd14 ct14 : Value}
    {oc15 : Value} {od15 an15 : Option Addr} {sl15 : Array (Option Value)} {kV15 dc15 pm15 cd15 ct15 : Value}
    {oc16 : Value} {od16 an16 : Option Addr} {sl16 : Array (Option Value)} {kV16 dc16 pm16 cd16 ct16 : Value}
    {oc17 : Value} {od17 an17 : Option Addr} {sl17 : Array (Option Value)} {kV17 dc17 pm17 cd17 ct17 : Value}
    {oc18 : Value} {od18 an18 : Option Addr} {sl18 : Array (Option Value)} {kV18 dc18 pm18 cd18 ct18 : Value}
    {oc19 : Value} {od19 an19 : Option Addr} {sl19 : Array (Option Value)} {kV19 dc19 pm19 cd19 ct19 : Value}
    {oc20 : Value} {od20 an20 : Option Addr} {sl20 : Array (Option Value)} {kV20 dc20 pm20 cd20 ct20 : Value}
    {oc21 : Value} {od21 an21 : Option Addr} {sl21 : Array (Option Value)} {kV21 dc21 pm21 cd21 ct21 : Value}
    {oc22 : Value} {od22 an22 : Option Addr} {sl22 : Array (Option Value)} {kV22 dc22 pm22 cd22 ct22 : Value}
    {oc23 : Value} {od23 an23 : Option Addr} {sl23 : Array (Option Value)} {kV23 dc23 pm23  ct23 : Value}
    {cL_ tP : Addr} {eT : Value} {ddT : Option Addr} {vsT : Array Value} {slT : Array (Option Value)}
    {cLE fLE dLE : Addr} {ocLE : Value} {odLE anLE : Option Addr} {slLE : Array (Option Value)} {kVLE dcLE pmLE cdLE ctLE : Value} {oD : Option Addr} {mD : Nat} {slD : Array (Option Value)} {tLe1 tLe2 : Tok}
    {xBadBit : Addr}
    {xBadCount : Addr}
    {xBadRate : Addr}
    {xNoRate : Addr}
    {xMissing : Addr}
    {fIBadBit : Addr} {nmBadBit qBadBit : Str} {NBadBit : Addr} {bsBadBit bmBadBit : List Value} {snBadBit : List Str} {subBadBit : List Value} {abBadBit : Bool} {colBadBit : Option Bool} {ddBadBit : Option Addr} {kaBadBit kbBadBit kcBadBit kdBadBit keBadBit : Option Value}
    {ocBadBit : Value} {odBadBit anBadBit : Option Addr} {slBadBit : Array (Option Value)} {kVBadBit dcBadBit pmBadBit cdBadBit ctBadBit : Value}
    {fIBadCount : Addr} {nmBadCount qBadCount : Str} {NBadCount : Addr} {bsBadCount bmBadCount : List Value} {snBadCount : List Str} {subBadCount : List Value} {abBadCount : Bool} {colBadCount : Option Bool} {ddBadCount : Option Addr} {kaBadCount kbBadCount kcBadCount kdBadCount keBadCount : Option Value}
    {ocBadCount : Value} {odBadCount anBadCount : Option Addr} {slBadCount : Array (Option Value)} {kVBadCount dcBadCount pmBadCount cdBadCount ctBadCount : Value}
    {fIBadRate : Addr} {nmBadRate qBadRate : Str} {NBadRate : Addr} {bsBadRate bmBadRate : List Value} {snBadRate : List Str} {subBadRate : List Value} {abBadRate : Bool} {colBadRate : Option Bool} {ddBadRate : Option Addr} {kaBadRate kbBadRate kcBadRate kdBadRate keBadRate : Option Value}
    {ocBadRate : Value} {odBadRate anBadRate : Option Addr} {slBadRate : Array (Option Value)} {kVBadRate dcBadRate pmBadRate cdBadRate ctBadRate : Value}
    {fINoRate : Addr} {nmNoRate qNoRate : Str} {NNoRate : Addr} {bsNoRate bmNoRate : List Value} {snNoRate : List Str} {subNoRate : List Value} {abNoRate : Bool} {colNoRate : Option Bool} {ddNoRate : Option Addr} {kaNoRate kbNoRate kcNoRate kdNoRate keNoRate : Option Value}
    {ocNoRate : Value} {odNoRate anNoRate : Option Addr} {slNoRate : Array (Option Value)} {kVNoRate dcNoRate pmNoRate cdNoRate ctNoRate : Value}
    {t_MOST_BITS : Tok}
    {t_TAIL : Tok}
    {t_RING : Tok}
    {a_RATES : Addr} {o_RATES : Option Addr} {m_RATES : Nat} {sl_RATES : Array (Option Value)} {t_RATES0 t_RATES1 t_RATES2 t_RATES3 : Tok}
    {t_FEWEST_POINTS : Tok}
    {t_MOST_BEATS : Tok}
    {t_DATA : Tok}
    {t_BURST : Tok}
    (a0 : PySem.W.nsIn K mainGlobals "check_bits" = some (some (.ref f0)))
    (l0 : K.lookup f0 = some ⟨oc0, od0, .func (PySem.W.fnOf "check_bits" "check_bits" (defArgs s_check_bits) (defBody s_check_bits) (defScope s_check_bits) .none kV0 dc0 pm0 an0 cd0 ct0), sl0⟩)
    (c0 : PySem.W.codeIn K cd0 "check_bits" = true)
    (k0 : PySem.W.keepIn K (.ref f0) = true)
    (a1 : PySem.W.nsIn K mainGlobals "bits_number" = some (some (.ref f1)))
    (l1 : K.lookup f1 = some ⟨oc1, od1, .func (PySem.W.fnOf "bits_number" "bits_number" (defArgs s_bits_number) (defBody s_bits_number) (defScope s_bits_number) .none kV1 dc1 pm1 an1 cd1 ct1), sl1⟩)
    (c1 : PySem.W.codeIn K cd1 "bits_number" = true)
    (k1 : PySem.W.keepIn K (.ref f1) = true)
    (a2 : PySem.W.nsIn K mainGlobals "check_rate" = some (some (.ref f2)))
    (l2 : K.lookup f2 = some ⟨oc2, od2, .func (PySem.W.fnOf "check_rate" "check_rate" (defArgs s_check_rate) (defBody s_check_rate) (defScope s_check_rate) .none kV2 dc2 pm2 an2 cd2 ct2), sl2⟩)
    (c2 : PySem.W.codeIn K cd2 "check_rate" = true)
    (k2 : PySem.W.keepIn K (.ref f2) = true)
    (a3 : PySem.W.nsIn K mainGlobals "folded" = some (some (.ref f3)))
    (l3 : K.lookup f3 = some ⟨oc3, od3, .func (PySem.W.fnOf "folded" "folded" (defArgs s_folded) (defBody s_folded) (defScope s_folded) .none kV3 dc3 pm3 an3 cd3 ct3), sl3⟩)
    (c3 : PySem.W.codeIn K cd3 "folded" = true)
    (k3 : PySem.W.keepIn K (.ref f3) = true)
    (a4 : PySem.W.nsIn K mainGlobals "apart" = some (some (.ref f4)))
    (l4 : K.lookup f4 = some ⟨oc4, od4, .func (PySem.W.fnOf "apart" "apart" (defArgs s_apart) (defBody s_apart) (defScope s_apart) .none kV4 dc4 pm4 an4 cd4 ct4), sl4⟩)
    (c4 : PySem.W.codeIn K cd4 "apart" = true)
    (k4 : PySem.W.keepIn K (.ref f4) = true)
    (a5 : PySem.W.nsIn K mainGlobals "points_at" = some (some (.ref f5)))
    (l5 : K.lookup f5 = some ⟨oc5, od5, .func (PySem.W.fnOf "points_at" "points_at" (defArgs s_points_at) (defBody s_points_at) (defScope s_points_at) .none kV5 dc5 pm5 an5 cd5 ct5), sl5⟩)
    (c5 : PySem.W.codeIn K cd5 "points_at" = true)
    (k5 : PySem.W.keepIn K (.ref f5) = true)
    (a6 : PySem.W.nsIn K mainGlobals "step" = some (some (.ref f6)))
    (l6 : K.lookup f6 = some ⟨oc6, od6, .func (PySem.W.fnOf "step" "step" (defArgs s_step) (defBody s_step) (defScope s_step) .none kV6 dc6 pm6 an6 cd6 ct6), sl6⟩)
    (c6 : PySem.W.codeIn K cd6 "step" = true)
    (k6 : PySem.W.keepIn K (.ref f6) = true)
    (a7 : PySem.W.nsIn K mainGlobals "point" = some (some (.ref f7)))
    (l7 : K.lookup f7 = some ⟨oc7, od7, .func (PySem.W.fnOf "point" "point" (defArgs s_point) (defBody s_point) (defScope s_point) .none (.ref D7) dc7 pm7 an7 cd7 ct7), sl7⟩)
    (v7 : PySem.W.nsIn K D7 "rate" = some (some (.int 1 tD7)))
    (c7 : PySem.W.codeIn K cd7 "point" = true)
    (k7 : PySem.W.keepIn K (.ref f7) = true)
    (a8 : PySem.W.nsIn K mainGlobals "moved" = some (some (.ref f8)))
    (l8 : K.lookup f8 = some ⟨oc8, od8, .func (PySem.W.fnOf "moved" "moved" (defArgs s_moved) (defBody s_moved) (defScope s_moved) .none kV8 dc8 pm8 an8 cd8 ct8), sl8⟩)
    (c8 : PySem.W.codeIn K cd8 "moved" = true)
    (k8 : PySem.W.keepIn K (.ref f8) = true)
    (a9 : PySem.W.nsIn K mainGlobals "class_of" = some (some (.ref f9)))
    (l9 : K.lookup f9 = some ⟨oc9, od9, .func (PySem.W.fnOf "class_of" "class_of" (defArgs s_class_of) (defBody s_class_of) (defScope s_class_of) .none kV9 dc9 pm9 an9 cd9 ct9), sl9⟩)
    (c9 : PySem.W.codeIn K cd9 "class_of" = true)
    (k9 : PySem.W.keepIn K (.ref f9) = true)
    (a10 : PySem.W.nsIn K mainGlobals "coded" = some (some (.ref f10)))
    (l10 : K.lookup f10 = some ⟨oc10, od10, .func (PySem.W.fnOf "coded" "coded" (defArgs s_coded) (defBody s_coded) (defScope s_coded) .none (.ref D10) dc10 pm10 an10 cd10 ct10), sl10⟩)
    (v10 : PySem.W.nsIn K D10 "rate" = some (some (.int 1 tD10)))
    (c10 : PySem.W.codeIn K cd10 "coded" = true)
    (k10 : PySem.W.keepIn K (.ref f10) = true)
    (a11 : PySem.W.nsIn K mainGlobals "nearest" = some (some (.ref f11)))
    (l11 : K.lookup f11 = some ⟨oc11, od11, .func (PySem.W.fnOf "nearest" "nearest" (defArgs s_nearest) (defBody s_nearest) (defScope s_nearest) .none (.ref D11) dc11 pm11 an11 cd11 ct11), sl11⟩)
    (v11 : PySem.W.nsIn K D11 "rate" = some (some (.int 1 tD11)))
    (c11 : PySem.W.codeIn K cd11 "nearest" = true)
    (k11 : PySem.W.keepIn K (.ref f11) = true)
    (a12 : PySem.W.nsIn K mainGlobals "least_distance" = some (some (.ref f12)))
    (l12 : K.lookup f12 = some ⟨oc12, od12, .func (PySem.W.fnOf "least_distance" "least_distance" (defArgs s_least_distance) (defBody s_least_distance) (defScope s_least_distance) .none (.ref D12) dc12 pm12 an12 cd12 ct12), sl12⟩)
    (v12 : PySem.W.nsIn K D12 "rate" = some (some (.int 1 tD12)))
    (c12 : PySem.W.codeIn K cd12 "least_distance" = true)
    (k12 : PySem.W.keepIn K (.ref f12) = true)
    (a13 : PySem.W.nsIn K mainGlobals "paper" = some (some (.ref f13)))
    (l13 : K.lookup f13 = some ⟨oc13, od13, .func (PySem.W.fnOf "paper" "paper" (defArgs s_paper) (defBody s_paper) (defScope s_paper) .none (.ref D13) dc13 pm13 an13 cd13 ct13), sl13⟩)
    (v13 : PySem.W.nsIn K D13 "beats" = some (some (.int 18 tD13)))
    (c13 : PySem.W.codeIn K cd13 "paper" = true)
    (k13 : PySem.W.keepIn K (.ref f13) = true)
    (a14 : PySem.W.nsIn K mainGlobals "_law_bag" = some (some (.ref f14)))
    (l14 : K.lookup f14 = some ⟨oc14, od14, .func (PySem.W.fnOf "_law_bag" "_law_bag" (defArgs s__law_bag) (defBody s__law_bag) (defScope s__law_bag) .none kV14 dc14 pm14 an14 cd14 ct14), sl14⟩)
    (c14 : PySem.W.codeIn K cd14 "_law_bag" = true)
    (k14 : PySem.W.keepIn K (.ref f14) = true)
    (a15 : PySem.W.nsIn K mainGlobals "_law_pick" = some (some (.ref f15)))
    (l15 : K.lookup f15 = some ⟨oc15, od15, .func (PySem.W.fnOf "_law_pick" "_law_pick" (defArgs s__law_pick) (defBody s__law_pick) (defScope s__law_pick) .none kV15 dc15 pm15 an15 cd15 ct15), sl15⟩)
    (c15 : PySem.W.codeIn K cd15 "_law_pick" = true)
    (k15 : PySem.W.keepIn K (.ref f15) = true)
    (a16 : PySem.W.nsIn K mainGlobals "_law_of" = some (some (.ref f16)))
    (l16 : K.lookup f16 = some ⟨oc16, od16, .func (PySem.W.fnOf "_law_of" "_law_of" (defArgs s__law_of) (defBody s__law_of) (defScope s__law_of) .none kV16 dc16 pm16 an16 cd16 ct16), sl16⟩)
    (c16 : PySem.W.codeIn K cd16 "_law_of" = true)
    (k16 : PySem.W.keepIn K (.ref f16) = true)
    (a17 : PySem.W.nsIn K mainGlobals "_law_same" = some (some (.ref f17)))
    (l17 : K.lookup f17 = some ⟨oc17, od17, .func (PySem.W.fnOf "_law_same" "_law_same" (defArgs s__law_same) (defBody s__law_same) (defScope s__law_same) .none kV17 dc17 pm17 an17 cd17 ct17), sl17⟩)
    (c17 : PySem.W.codeIn K cd17 "_law_same" = true)
    (k17 : PySem.W.keepIn K (.ref f17) = true)
    (a18 : PySem.W.nsIn K mainGlobals "_law_step" = some (some (.ref f18)))
    (l18 : K.lookup f18 = some ⟨oc18, od18, .func (PySem.W.fnOf "_law_step" "_law_step" (defArgs s__law_step) (defBody s__law_step) (defScope s__law_step) .none kV18 dc18 pm18 an18 cd18 ct18), sl18⟩)
    (c18 : PySem.W.codeIn K cd18 "_law_step" = true)
    (k18 : PySem.W.keepIn K (.ref f18) = true)
    (a19 : PySem.W.nsIn K mainGlobals "_law_paper" = some (some (.ref f19)))
    (l19 : K.lookup f19 = some ⟨oc19, od19, .func (PySem.W.fnOf "_law_paper" "_law_paper" (defArgs s__law_paper) (defBody s__law_paper) (defScope s__law_paper) .none kV19 dc19 pm19 an19 cd19 ct19), sl19⟩)
    (c19 : PySem.W.codeIn K cd19 "_law_paper" = true)
    (k19 : PySem.W.keepIn K (.ref f19) = true)
    (a20 : PySem.W.nsIn K mainGlobals "_law_root" = some (some (.ref f20)))
    (l20 : K.lookup f20 = some ⟨oc20, od20, .func (PySem.W.fnOf "_law_root" "_law_root" (defArgs s__law_root) (defBody s__law_root) (defScope s__law_root) .none kV20 dc20 pm20 an20 cd20 ct20), sl20⟩)
    (c20 : PySem.W.codeIn K cd20 "_law_root" = true)
    (k20 : PySem.W.keepIn K (.ref f20) = true)
    (a21 : PySem.W.nsIn K mainGlobals "_law_tried" = some (some (.ref f21)))
    (l21 : K.lookup f21 = some ⟨oc21, od21, .func (PySem.W.fnOf "_law_tried" "_law_tried" (defArgs s__law_tried) (defBody s__law_tried) (defScope s__law_tried) .none kV21 dc21 pm21 an21 cd21 ct21), sl21⟩)
    (c21 : PySem.W.codeIn K cd21 "_law_tried" = true)
    (k21 : PySem.W.keepIn K (.ref f21) = true)
    (a22 : PySem.W.nsIn K mainGlobals "_law_no_rate" = some (some (.ref f22)))
    (l22 : K.lookup f22 = some ⟨oc22, od22, .func (PySem.W.fnOf "_law_no_rate" "_law_no_rate" (defArgs s__law_no_rate) (defBody s__law_no_rate) (defScope s__law_no_rate) .none kV22 dc22 pm22 an22 cd22 ct22), sl22⟩)
    (c22 : PySem.W.codeIn K cd22 "_law_no_rate" = true)
    (k22 : PySem.W.keepIn K (.ref f22) = true)
    (a23 : PySem.W.nsIn K mainGlobals "law" = some (some (.ref f23)))
    (l23 : K.lookup f23 = some ⟨oc23, od23, .func (PySem.W.fnOf "law" "law" (defArgs s_law) (defBody s_law) (defScope s_law) .none kV23 dc23 pm23 an23 (.ref cL_) ct23), sl23⟩)
    (c23 : PySem.W.codeIn K (.ref cL_) "law" = true)
    (k23 : PySem.W.keepIn K (.ref f23) = true)
    (t1 : K.lookup cL_ = some ⟨eT, ddT, .fields vsT, slT⟩)
    (t2 : (vsT[11]? : Option Value) = some (.ref tP))
    (t3 : PySem.W.codeHdIn K cL_ tP = true)
    (t4 : K.lookup tP = none)
    (e1 : PySem.W.nsIn K mainGlobals "LineError" = some (some (.ref cLE)))
    (e2 : PySem.W.specialIn K (.ref cLE) "__getattribute__" = some (some (.builtin "type.__getattribute__")))
    (e3 : PySem.W.typeIn K (.ref cLE) = some (.type "type"))
    (e4 : PySem.W.readsIn K cLE (.type "type") = true)
    (e5 : PySem.W.findCls K (.ref cLE) (.type "type") "__init__" = some (.val (.ref fLE)))
    (e6 : PySem.W.keepIn K (.ref fLE) = true)
    (e7 : K.lookup fLE = some ⟨ocLE, odLE, .func (PySem.W.fnOf "__init__" "LineError.__init__" (defArgs i_LineError) (defBody i_LineError) (defScope i_LineError) (.ref dLE) kVLE dcLE pmLE anLE cdLE ctLE), slLE⟩)
    (e8 : PySem.W.codeIn K cdLE "LineError.__init__" = true)
    (e9 : K.lookup dLE = some ⟨.type "tuple", oD, .seq #[.str "LineError" tLe1, .str "refused" tLe2] mD, slD⟩)
    (e10 : PySem.W.findCls K (.type "ValueError") (.type "type") "__init__" = some (.val (.builtin "ValueError.__init__")))
    (z_ValueError : PySem.W.nsIn K mainGlobals "ValueError" = some none)
    (gBadBit : PySem.W.nsIn K mainGlobals "BadBit" = some (some (.ref xBadBit)))
    (gaBadBit : PySem.W.findIn K (.ref xBadBit) "__getattribute__" = some (some (.builtin "BaseException.__getattribute__")))
    (ggBadBit : PySem.W.findIn K (.ref xBadBit) "__getattr__" = some none)
    (exBadBit : PySem.W.subIn K (.ref xBadBit) (.type "BaseException") = some true)
    (hdBadBit : PySem.W.hasDictIn K xBadBit = true)
    (noBadBit : PySem.W.findIn K (.ref xBadBit) "at" = some none)
    (gBadCount : PySem.W.nsIn K mainGlobals "BadCount" = some (some (.ref xBadCount)))
    (gaBadCount : PySem.W.findIn K (.ref xBadCount) "__getattribute__" = some (some (.builtin "BaseException.__getattribute__")))
    (ggBadCount : PySem.W.findIn K (.ref xBadCount) "__getattr__" = some none)
    (exBadCount : PySem.W.subIn K (.ref xBadCount) (.type "BaseException") = some true)
    (hdBadCount : PySem.W.hasDictIn K xBadCount = true)
    (gBadRate : PySem.W.nsIn K mainGlobals "BadRate" = some (some (.ref xBadRate)))
    (gaBadRate : PySem.W.findIn K (.ref xBadRate) "__getattribute__" = some (some (.builtin "BaseException.__getattribute__")))
    (ggBadRate : PySem.W.findIn K (.ref xBadRate) "__getattr__" = some none)
    (exBadRate : PySem.W.subIn K (.ref xBadRate) (.type "BaseException") = some true)
    (hdBadRate : PySem.W.hasDictIn K xBadRate = true)
    (gNoRate : PySem.W.nsIn K mainGlobals "NoRate" = some (some (.ref xNoRate)))
    (gaNoRate : PySem.W.findIn K (.ref xNoRate) "__getattribute__" = some (some (.builtin "BaseException.__getattribute__")))
    (ggNoRate : PySem.W.findIn K (.ref xNoRate) "__getattr__" = some none)
    (exNoRate : PySem.W.subIn K (.ref xNoRate) (.type "BaseException") = some true)
    (hdNoRate : PySem.W.hasDictIn K xNoRate = true)
    (noNoRate : PySem.W.findIn K (.ref xNoRate) "loud" = some none)
    (gMissing : PySem.W.nsIn K mainGlobals "Missing" = some (some (.ref xMissing)))
    (mBLineBadCount : PySem.W.exmOne K (.ref xBadCount) (.ref cLE) = some true)
    (mBLineNoRate : PySem.W.exmOne K (.ref xNoRate) (.ref cLE) = some true)
    (mB_NoRate_NoRate : PySem.W.exmOne K (.ref xNoRate) (.ref xNoRate) = some true)
    (o1BadBit : K.lookup xBadBit = some (excClassObj nmBadBit qBadBit xBadBit NBadBit bsBadBit bmBadBit true snBadBit subBadBit abBadBit colBadBit ddBadBit kaBadBit kbBadBit kcBadBit kdBadBit keBadBit "ValueError.__new__"))
    (o2BadBit : PySem.HandSPX.refsVE bmBadBit = true)
    (o3BadBit : PySem.W.findIn K (.ref xBadBit) "__setattr__" = some (some (.builtin "object.__setattr__")))
    (o4BadBit : PySem.W.typeIn K (.ref xBadBit) = some (.type "type"))
    (o5BadBit : PySem.W.keepIn K (.ref xBadBit) = true)
    (o6BadBit : PySem.W.findIn K (.ref xBadBit) "__init__" = some (some (.ref fIBadBit)))
    (o7BadBit : PySem.W.typeIn K (.ref fIBadBit) = some (.type "function"))
    (o8BadBit : K.lookup fIBadBit = some ⟨ocBadBit, odBadBit, .func (PySem.W.fnOf "__init__" "BadBit.__init__" (defArgs i_BadBit) (defBody i_BadBit) (defScope i_BadBit) .none kVBadBit dcBadBit pmBadBit anBadBit cdBadBit ctBadBit), slBadBit⟩)
    (o9BadBit : PySem.W.codeIn K cdBadBit "BadBit.__init__" = true)
    (p1BadBit : PySem.W.keepIn K (.ref fIBadBit) = true)
    (p2BadBit : PySem.W.findIn K (.ref xBadBit) "word" = some none)
    (o1BadCount : K.lookup xBadCount = some (excClassObj nmBadCount qBadCount xBadCount NBadCount bsBadCount bmBadCount true snBadCount subBadCount abBadCount colBadCount ddBadCount kaBadCount kbBadCount kcBadCount kdBadCount keBadCount "ValueError.__new__"))
    (o2BadCount : PySem.HandSPX.refsVE bmBadCount = true)
    (o3BadCount : PySem.W.findIn K (.ref xBadCount) "__setattr__" = some (some (.builtin "object.__setattr__")))
    (o4BadCount : PySem.W.typeIn K (.ref xBadCount) = some (.type "type"))
    (o5BadCount : PySem.W.keepIn K (.ref xBadCount) = true)
    (o6BadCount : PySem.W.findIn K (.ref xBadCount) "__init__" = some (some (.ref fIBadCount)))
    (o7BadCount : PySem.W.typeIn K (.ref fIBadCount) = some (.type "function"))
    (o8BadCount : K.lookup fIBadCount = some ⟨ocBadCount, odBadCount, .func (PySem.W.fnOf "__init__" "BadCount.__init__" (defArgs i_BadCount) (defBody i_BadCount) (defScope i_BadCount) .none kVBadCount dcBadCount pmBadCount anBadCount cdBadCount ctBadCount), slBadCount⟩)
    (o9BadCount : PySem.W.codeIn K cdBadCount "BadCount.__init__" = true)
    (p1BadCount : PySem.W.keepIn K (.ref fIBadCount) = true)
    (p2BadCount : PySem.W.findIn K (.ref xBadCount) "word" = some none)
    (o1BadRate : K.lookup xBadRate = some (excClassObj nmBadRate qBadRate xBadRate NBadRate bsBadRate bmBadRate true snBadRate subBadRate abBadRate colBadRate ddBadRate kaBadRate kbBadRate kcBadRate kdBadRate keBadRate "ValueError.__new__"))
    (o2BadRate : PySem.HandSPX.refsVE bmBadRate = true)
    (o3BadRate : PySem.W.findIn K (.ref xBadRate) "__setattr__" = some (some (.builtin "object.__setattr__")))
    (o4BadRate : PySem.W.typeIn K (.ref xBadRate) = some (.type "type"))
    (o5BadRate : PySem.W.keepIn K (.ref xBadRate) = true)
    (o6BadRate : PySem.W.findIn K (.ref xBadRate) "__init__" = some (some (.ref fIBadRate)))
    (o7BadRate : PySem.W.typeIn K (.ref fIBadRate) = some (.type "function"))
    (o8BadRate : K.lookup fIBadRate = some ⟨ocBadRate, odBadRate, .func (PySem.W.fnOf "__init__" "BadRate.__init__" (defArgs i_BadRate) (defBody i_BadRate) (defScope i_BadRate) .none kVBadRate dcBadRate pmBadRate anBadRate cdBadRate ctBadRate), slBadRate⟩)
    (o9BadRate : PySem.W.codeIn K cdBadRate "BadRate.__init__" = true)
    (p1BadRate : PySem.W.keepIn K (.ref fIBadRate) = true)
    (p2BadRate : PySem.W.findIn K (.ref xBadRate) "word" = some none)
    (o1NoRate : K.lookup xNoRate = some (excClassObj nmNoRate qNoRate xNoRate NNoRate bsNoRate bmNoRate true snNoRate subNoRate abNoRate colNoRate ddNoRate kaNoRate kbNoRate kcNoRate kdNoRate keNoRate "ValueError.__new__"))
    (o2NoRate : PySem.HandSPX.refsVE bmNoRate = true)
    (o3NoRate : PySem.W.findIn K (.ref xNoRate) "__setattr__" = some (some (.builtin "object.__setattr__")))
    (o4NoRate : PySem.W.typeIn K (.ref xNoRate) = some (.type "type"))
    (o5NoRate : PySem.W.keepIn K (.ref xNoRate) = true)
    (o6NoRate : PySem.W.findIn K (.ref xNoRate) "__init__" = some (some (.ref fINoRate)))
    (o7NoRate : PySem.W.typeIn K (.ref fINoRate) = some (.type "function"))
    (o8NoRate : K.lookup fINoRate = some ⟨ocNoRate, odNoRate, .func (PySem.W.fnOf "__init__" "NoRate.__init__" (defArgs i_NoRate) (defBody i_NoRate) (defScope i_NoRate) .none kVNoRate dcNoRate pmNoRate anNoRate cdNoRate ctNoRate), slNoRate⟩)
    (o9NoRate : PySem.W.codeIn K cdNoRate "NoRate.__init__" = true)
    (p1NoRate : PySem.W.keepIn K (.ref fINoRate) = true)
    (p2NoRate : PySem.W.findIn K (.ref xNoRate) "word" = some none)
    (z_enumerate : PySem.W.nsIn K mainGlobals "enumerate" = some none)
    (z_len : PySem.W.nsIn K mainGlobals "len" = some none)
    (z_abs : PySem.W.nsIn K mainGlobals "abs" = some none)
    (z_list : PySem.W.nsIn K mainGlobals "list" = some none)
    (z_range : PySem.W.nsIn K mainGlobals "range" = some none)
    (z_sum : PySem.W.nsIn K mainGlobals "sum" = some none)
    (z_zip : PySem.W.nsIn K mainGlobals "zip" = some none)
    (z_reversed : PySem.W.nsIn K mainGlobals "reversed" = some none)
    (z_all : PySem.W.nsIn K mainGlobals "all" = some none)
    (z_bool : PySem.W.nsIn K mainGlobals "bool" = some none)
    (z_int : PySem.W.nsIn K mainGlobals "int" = some none)
    (z_isinstance : PySem.W.nsIn K mainGlobals "isinstance" = some none)
    (z_str : PySem.W.nsIn K mainGlobals "str" = some none)
    (z_tuple : PySem.W.nsIn K mainGlobals "tuple" = some none)
    (q_MOST_BITS : PySem.W.nsIn K mainGlobals "MOST_BITS" = some (some (.int 64 t_MOST_BITS)))
    (q_TAIL : PySem.W.nsIn K mainGlobals "TAIL" = some (some (.int 2 t_TAIL)))
    (q_RING : PySem.W.nsIn K mainGlobals "RING" = some (some (.int 256 t_RING)))
    (q_RATES : PySem.W.nsIn K mainGlobals "RATES" = some (some (.ref a_RATES)))
    (w_RATES : K.lookup a_RATES = some ⟨.type "tuple", o_RATES, .seq #[.int 1 t_RATES0, .int 2 t_RATES1, .int 3 t_RATES2, .int 4 t_RATES3] m_RATES, sl_RATES⟩)
    (q_FEWEST_POINTS : PySem.W.nsIn K mainGlobals "FEWEST_POINTS" = some (some (.int 4 t_FEWEST_POINTS)))
    (q_MOST_BEATS : PySem.W.nsIn K mainGlobals "MOST_BEATS" = some (some (.int 1000 t_MOST_BEATS)))
    (q_DATA : PySem.W.nsIn K mainGlobals "DATA" = some (some (.int 16 t_DATA)))
    (q_BURST : PySem.W.nsIn K mainGlobals "BURST" = some (some (.int 18 t_BURST))) :
    LamX.LawAtS l w K CX0 13 63 "_law_script" mg fa h := by
  have e := hfa.symm.trans (PySem.W.mg_of X G a23)
  cases e
  have F0 := fun_mk (st := s_check_bits) l0 c0 k0
  have b0 := F0.binds (ps := ["bits"]) fun _ _ _ _ _ _ us hl => match us, hl with | [_], _ => rfl
  have F1 := fun_mk (st := s_bits_number) l1 c1 k1
  have b1 := F1.binds (ps := ["bits"]) fun _ _ _ _ _ _ us hl => match us, hl with | [_], _ => rfl
  have F2 := fun_mk (st := s_check_rate) l2 c2 k2
  have b2 := F2.binds (ps := ["rate"]) fun _ _ _ _ _ _ us hl => match us, hl with | [_], _ => rfl
  have F3 := fun_mk (st := s_folded) l3 c3 k3
  have b3 := F3.binds (ps := ["number"]) fun _ _ _ _ _ _ us hl => match us, hl with | [_], _ => rfl
  have F4 := fun_mk (st := s_apart) l4 c4 k4
  have b4 := F4.binds (ps := ["one", "other"]) fun _ _ _ _ _ _ us hl => match us, hl with | [_, _], _ => rfl
  have F5 := fun_mk (st := s_points_at) l5 c5 k5
  have b5 := F5.binds (ps := ["rate"]) fun _ _ _ _ _ _ us hl => match us, hl with | [_], _ => rfl
  have F6 := fun_mk (st := s_step) l6 c6 k6
  have b6 := F6.binds (ps := ["rate"]) fun _ _ _ _ _ _ us hl => match us, hl with | [_], _ => rfl
  have F7 := funD_one (x := "point") (qual := "point") (params := defArgs s_point) (body := defBody s_point) (scope := defScope s_point) (y := "rate") (v := .int 1) l7 c7 k7 v7 ⟨_, rfl⟩
  have F8 := fun_mk (st := s_moved) l8 c8 k8
  have b8 := F8.binds (ps := ["state", "first"]) fun _ _ _ _ _ _ us hl => match us, hl with | [_, _], _ => rfl
  have F9 := fun_mk (st := s_class_of) l9 c9 k9
  have b9 := F9.binds (ps := ["state", "first"]) fun _ _ _ _ _ _ us hl => match us, hl with | [_, _], _ => rfl
  have F10 := funD_one (x := "coded") (qual := "coded") (params := defArgs s_coded) (body := defBody s_coded) (scope := defScope s_coded) (y := "rate") (v := .int 1) l10 c10 k10 v10 ⟨_, rfl⟩
  have F11 := funD_one (x := "nearest") (qual := "nearest") (params := defArgs s_nearest) (body := defBody s_nearest) (scope := defScope s_nearest) (y := "rate") (v := .int 1) l11 c11 k11 v11 ⟨_, rfl⟩
  have F12 := funD_one (x := "least_distance") (qual := "least_distance") (params := defArgs s_least_distance) (body := defBody s_least_distance) (scope := defScope s_least_distance) (y := "rate") (v := .int 1) l12 c12 k12 v12 ⟨_, rfl⟩
  have F13 := funD_one (x := "paper") (qual := "paper") (params := defArgs s_paper) (body := defBody s_paper) (scope := defScope s_paper) (y := "beats") (v := .int 18) l13 c13 k13 v13 ⟨_, rfl⟩
  have F14 := fun_mk (st := s__law_bag) l14 c14 k14
  have b14 := F14.binds (ps := ["_law_script"]) fun _ _ _ _ _ _ us hl => match us, hl with | [_], _ => rfl
  have F15 := fun_mk (st := s__law_pick) l15 c15 k15
  have b15 := F15.binds (ps := ["_law_bag_here", "_law_top"]) fun _ _ _ _ _ _ us hl => match us, hl with | [_, _], _ => rfl
  have F16 := fun_mk (st := s__law_of) l16 c16 k16
  have b16 := F16.binds (ps := ["_law_bag_here", "_law_some"]) fun _ _ _ _ _ _ us hl => match us, hl with | [_, _], _ => rfl
  have F17 := fun_mk (st := s__law_same) l17 c17 k17
  have b17 := F17.binds (ps := ["_law_found", "_law_due"]) fun _ _ _ _ _ _ us hl => match us, hl with | [_, _], _ => rfl
  have F18 := fun_mk (st := s__law_step) l18 c18 k18
  have b18 := F18.binds (ps := ["_law_pace"]) fun _ _ _ _ _ _ us hl => match us, hl with | [_], _ => rfl
  have F19 := fun_mk (st := s__law_paper) l19 c19 k19
  have b19 := F19.binds (ps := ["_law_loud", "_law_size"]) fun _ _ _ _ _ _ us hl => match us, hl with | [_, _], _ => rfl
  have F20 := fun_mk (st := s__law_root) l20 c20 k20
  have b20 := F20.binds (ps := ["_law_figure"]) fun _ _ _ _ _ _ us hl => match us, hl with | [_], _ => rfl
  have F21 := fun_mk (st := s__law_tried) l21 c21 k21
  have b21 := F21.binds (ps := ["_law_act"]) fun _ _ _ _ _ _ us hl => match us, hl with | [_], _ => rfl
  have F22 := fun_mk (st := s__law_no_rate) l22 c22 k22
  have b22 := F22.binds (ps := ["_law_act"]) fun _ _ _ _ _ _ us hl => match us, hl with | [_], _ => rfl
  have F23 := fun_mk (st := s_law) l23 c23 k23
  have b23 := F23.binds (ps := ["_law_script"]) fun _ _ _ _ _ _ us hl => match us, hl with | [_], _ => rfl
  have h_RATES : ∀ H, SqT K H a_RATES [.int 1, .int 2, .int 3, .int 4] := fun H => .inr ⟨_, _, _, w_RATES, rfl, rfl, (by show 4 ≤ sizeLine; decide), .cons ⟨_, rfl⟩ (.cons ⟨_, rfl⟩ (.cons ⟨_, rfl⟩ (.cons ⟨_, rfl⟩ (.nil))))⟩
  have FD : FunD K "__init__" "LineError.__init__" (defArgs i_LineError) (defBody i_LineError) (defScope i_LineError) [.str "LineError", .str "refused"] [] fLE (PySem.W.fnOf "__init__" "LineError.__init__" (defArgs i_LineError) (defBody i_LineError) (defScope i_LineError) (.ref dLE) kVLE dcLE pmLE anLE cdLE ctLE) := ⟨⟨_, _, _, _, _, _, _, _, _, _, rfl, e7, e8, .inr ⟨by simp, dLE, _, _, _, rfl, e9, rfl, .cons ⟨_, rfl⟩ (.cons ⟨_, rfl⟩ .nil)⟩, .inl rfl⟩, e6⟩
  have bLE : Binds K (PySem.W.fnOf "__init__" "LineError.__init__" (defArgs i_LineError) (defBody i_LineError) (defScope i_LineError) (.ref dLE) kVLE dcLE pmLE anLE cdLE ctLE) ["self", "word", "text"] [] := by
    obtain ⟨ds, r, hb⟩ := FD.binds1 (ps := ["self", "word", "text"]) 3 2 (by simp) rfl (fun T kV doc pm an cdv ct us its hu hi => match us, its, hu, hi with | [_, _, _], [_, _], _, _ => ⟨_, rfl, rfl⟩)
    cases r
    exact hb
  have TL : ClsFn K mg "LineError" "__init__" cLE fLE := ⟨PySem.W.mg_of X G e1, e2, e3, e4, e5, rfl, e6⟩
  have OBadBit : OexC K xBadBit := ⟨⟨_, _, _, _, _, _, _, _, _, _, _, _, _, _, _, o1BadBit, o2BadBit⟩, o3BadBit, exBadBit, o4BadBit, o5BadBit⟩
  have FIBadBit := fun_mk (st := i_BadBit) o8BadBit o9BadBit p1BadBit
  have bIBadBit := FIBadBit.binds (ps := ["self", "at"]) fun _ _ _ _ _ _ us hl => match us, hl with | [_, _], _ => rfl
  have OBadCount : OexC K xBadCount := ⟨⟨_, _, _, _, _, _, _, _, _, _, _, _, _, _, _, o1BadCount, o2BadCount⟩, o3BadCount, exBadCount, o4BadCount, o5BadCount⟩
  have FIBadCount := fun_mk (st := i_BadCount) o8BadCount o9BadCount p1BadCount
  have bIBadCount := FIBadCount.binds (ps := ["self"]) fun _ _ _ _ _ _ us hl => match us, hl with | [_], _ => rfl
  have OBadRate : OexC K xBadRate := ⟨⟨_, _, _, _, _, _, _, _, _, _, _, _, _, _, _, o1BadRate, o2BadRate⟩, o3BadRate, exBadRate, o4BadRate, o5BadRate⟩
  have FIBadRate := fun_mk (st := i_BadRate) o8BadRate o9BadRate p1BadRate
  have bIBadRate := FIBadRate.binds (ps := ["self"]) fun _ _ _ _ _ _ us hl => match us, hl with | [_], _ => rfl
  have ONoRate : OexC K xNoRate := ⟨⟨_, _, _, _, _, _, _, _, _, _, _, _, _, _, _, o1NoRate, o2NoRate⟩, o3NoRate, exNoRate, o4NoRate, o5NoRate⟩
  have FINoRate := fun_mk (st := i_NoRate) o8NoRate o9NoRate p1NoRate
  have bINoRate := FINoRate.binds (ps := ["self", "loud"]) fun _ _ _ _ _ _ us hl => match us, hl with | [_, _], _ => rfl
  refine ⟨PySem.W.fnOf "law" "law" (defArgs s_law) (defBody s_law) (defScope s_law) .none kV23 dc23 pm23 an23 (.ref cL_) ct23, [(cL_, tP)], spLaw K tP, ?_, ?_, ?_, fun s v => .of_eq rfl, ?_, fun base _ _ hTB => ?_⟩
  · intro p hp
    rw [List.mem_singleton.mp hp]
    exact own cL_ tP _ _ _ _ _ _ l23 rfl rfl t1 t2
  · intro p hp
    rw [List.mem_singleton.mp hp]
    exact t4
  · intro p hp
    rw [List.mem_singleton.mp hp]
    exact PySem.W.codeHd_of_K X t3
  · intro H a ns _ _ hH hS
    exact ⟨a, ns, rfl, hS, hH _ (List.mem_singleton.mpr rfl), fun _ => rfl⟩
  have OKL := ok_i_LineError (P := l.prog) (w := w) (base := base) (mg := mg) (k := 0) FD (PySem.W.mg_none_of X G z_ValueError) e10
  have X_BadBit : XcOk l.prog w K mg base 2 "BadBit" xBadBit (spIni K xBadBit "BadBit" "at") := ⟨fIBadBit, _, _, OBadBit, o6BadBit, o7BadBit, ok_i_BadBit FIBadBit TL OKL bLE OBadBit p2BadBit noBadBit, bIBadBit, PySem.W.mg_of X G gBadBit⟩
  have X_BadCount : XcOk l.prog w K mg base 2 "BadCount" xBadCount (spIni0 K xBadCount "BadCount") := ⟨fIBadCount, _, _, OBadCount, o6BadCount, o7BadCount, ok_i_BadCount FIBadCount TL OKL bLE OBadCount p2BadCount, bIBadCount, PySem.W.mg_of X G gBadCount⟩
  have X_BadRate : XcOk l.prog w K mg base 2 "BadRate" xBadRate (spIni0 K xBadRate "BadRate") := ⟨fIBadRate, _, _, OBadRate, o6BadRate, o7BadRate, ok_i_BadRate FIBadRate TL OKL bLE OBadRate p2BadRate, bIBadRate, PySem.W.mg_of X G gBadRate⟩
  have X_NoRate : XcOk l.prog w K mg base 2 "NoRate" xNoRate (spIni K xNoRate "NoRate" "loud") := ⟨fINoRate, _, _, ONoRate, o6NoRate, o7NoRate, ok_i_NoRate FINoRate TL OKL bLE ONoRate p2NoRate noNoRate, bINoRate, PySem.W.mg_of X G gNoRate⟩
  have TB := hTB _ (List.mem_singleton.mpr rfl)
  have C_check_bits : CalX l.prog w K mg base 4 "check_bits" ["bits"] (spCheckX K xBadBit) := ⟨f0, _, ok_check_bits F0 (PySem.W.mg_none_of X G z_enumerate) (X_BadBit.mono (by decide)), PySem.W.mg_of X G a0, k0, b0⟩
  have C_bits_number : CalX l.prog w K mg base 5 "bits_number" ["bits"] (spBnX K xBadBit xBadCount) := ⟨f1, _, ok_bits_number F1 (PySem.W.mg_none_of X G z_len) (PySem.W.mg_of X G q_MOST_BITS) (X_BadCount.mono (by decide)) (C_check_bits.mono (by decide)), PySem.W.mg_of X G a1, k1, b1⟩
  have C_check_rate : CalX l.prog w K mg base 4 "check_rate" ["rate"] (spCR xBadRate) := ⟨f2, _, ok_check_rate F2 (PySem.W.mg_of X G q_RATES) h_RATES (X_BadRate.mono (by decide)), PySem.W.mg_of X G a2, k2, b2⟩
  have C_folded : Cal l.prog w K mg base 1 "folded" ["number"] (spFolded) := ⟨f3, _, ok_folded F3 (PySem.W.mg_of X G q_RING), PySem.W.mg_of X G a3, k3, b3⟩
  have C_apart : Cal l.prog w K mg base 2 "apart" ["one", "other"] (spApart) := ⟨f4, _, ok_apart F4 (PySem.W.mg_none_of X G z_abs) (C_folded.mono (by decide)), PySem.W.mg_of X G a4, k4, b4⟩
  have C_points_at : CalX l.prog w K mg base 5 "points_at" ["rate"] (spPA xBadRate) := ⟨f5, _, ok_points_at F5 (PySem.W.mg_of X G q_FEWEST_POINTS) (C_check_rate.mono (by decide)), PySem.W.mg_of X G a5, k5, b5⟩
  have C_step : CalX l.prog w K mg base 6 "step" ["rate"] (spStep xBadRate) := ⟨f6, _, ok_step F6 (PySem.W.mg_of X G q_RING) (C_points_at.mono (by decide)), PySem.W.mg_of X G a6, k6, b6⟩
  have O_7 : FnOk l.prog w K mg base (L2.CX l.prog w) 7 f7 _ ["number", "rate"] (spPoint xBadCount xBadRate) := ok_point F7 (PySem.W.mg_of X G q_RING) (X_BadCount.mono (by decide)) (C_points_at.mono (by decide)) (C_step.mono (by decide))
  have C_w_point_1_rate : CalW l.prog w K mg base 7 "point" ["number", "rate"] 1 ["rate"] (fun vs zs => vs ++ zs) (spPoint xBadCount xBadRate) := by
    obtain ⟨g, hg⟩ := kbn_app (ps := ["number", "rate"]) F7 1 ["rate"] (by intro z; cases z) fun _ _ _ _ _ _ us ws h1 h2 => match us, ws, h1, h2 with | [_], [_], _, _ => rfl
    exact ⟨f7, _, g, O_7, PySem.W.mg_of X G a7, k7, hg⟩
  have C_moved : Cal l.prog w K mg base 1 "moved" ["state", "first"] (spMovedS) := ⟨f8, _, ok_moved F8 , PySem.W.mg_of X G a8, k8, b8⟩
  have C_class_of : Cal l.prog w K mg base 1 "class_of" ["state", "first"] (spClass) := ⟨f9, _, ok_class_of F9 , PySem.W.mg_of X G a9, k9, b9⟩
  have O_10 : FnOk l.prog w K mg base (L2.CX l.prog w) 6 f10 _ ["bits", "rate"] (spCoded K xBadBit xBadCount xBadRate) := ok_coded F10 (PySem.W.mg_none_of X G z_len) (PySem.W.mg_none_of X G z_list) (PySem.W.mg_none_of X G z_range) (PySem.W.mg_of X G q_TAIL) (X_BadCount.mono (by decide)) (C_check_rate.mono (by decide)) (C_check_bits.mono (by decide)) (C_bits_number.mono (by decide)) (C_class_of.mono (by decide)) (C_moved.mono (by decide))
  have C_w_coded_1_rate : CalW l.prog w K mg base 6 "coded" ["bits", "rate"] 1 ["rate"] (fun vs zs => vs ++ zs) (spCoded K xBadBit xBadCount xBadRate) := by
    obtain ⟨g, hg⟩ := kbn_app (ps := ["bits", "rate"]) F10 1 ["rate"] (by intro z; cases z) fun _ _ _ _ _ _ us ws h1 h2 => match us, ws, h1, h2 with | [_], [_], _, _ => rfl
    exact ⟨f10, _, g, O_10, PySem.W.mg_of X G a10, k10, hg⟩
  have O_11 : FnOk l.prog w K mg base (L2.CX l.prog w) 5 f11 _ ["rate"] (spNear xBadRate) := ok_nearest F11 (C_check_rate.mono (by decide))
  have C_w_nearest_0_rate : CalW l.prog w K mg base 5 "nearest" ["rate"] 0 ["rate"] (fun vs zs => vs ++ zs) (spNear xBadRate) := by
    obtain ⟨g, hg⟩ := kbn_app (ps := ["rate"]) F11 0 ["rate"] (by intro z; cases z) fun _ _ _ _ _ _ us ws h1 h2 => match us, ws, h1, h2 with | [], [_], _, _ => rfl
    exact ⟨f11, _, g, O_11, PySem.W.mg_of X G a11, k11, hg⟩
  have O_12 : FnOk l.prog w K mg base (L2.CX l.prog w) 8 f12 _ ["rate"] (spLD xBadRate) := ok_least_distance F12 (PySem.W.mg_none_of X G z_sum) (PySem.W.mg_none_of X G z_zip) (C_apart.mono (by decide)) (C_w_point_1_rate.mono (by decide)) (C_w_coded_1_rate.mono (by decide)) (C_w_nearest_0_rate.mono (by decide))
  have C_w_least_distance_0_rate : CalW l.prog w K mg base 8 "least_distance" ["rate"] 0 ["rate"] (fun vs zs => vs ++ zs) (spLD xBadRate) := by
    obtain ⟨g, hg⟩ := kbn_app (ps := ["rate"]) F12 0 ["rate"] (by intro z; cases z) fun _ _ _ _ _ _ us ws h1 h2 => match us, ws, h1, h2 with | [], [_], _, _ => rfl
    exact ⟨f12, _, g, O_12, PySem.W.mg_of X G a12, k12, hg⟩
  have O_13 : FnOk l.prog w K mg base (L2.CX l.prog w) 10 f13 _ ["loud", "beats"] (spPaper xBadCount xNoRate) := ok_paper F13 (PySem.W.mg_none_of X G z_reversed) (PySem.W.mg_of X G q_MOST_BEATS) (PySem.W.mg_of X G q_RATES) h_RATES (X_BadCount.mono (by decide)) (X_NoRate.mono (by decide)) (C_w_least_distance_0_rate.mono (by decide))
  have C_w_paper_1_beats : CalW l.prog w K mg base 10 "paper" ["loud", "beats"] 1 ["beats"] (fun vs zs => vs ++ zs) (spPaper xBadCount xNoRate) := by
    obtain ⟨g, hg⟩ := kbn_app (ps := ["loud", "beats"]) F13 1 ["beats"] (by intro z; cases z) fun _ _ _ _ _ _ us ws h1 h2 => match us, ws, h1, h2 with | [_], [_], _, _ => rfl
    exact ⟨f13, _, g, O_13, PySem.W.mg_of X G a13, k13, hg⟩
  have C_d_paper : CalD l.prog w K mg base 10 "paper" ["loud", "beats"] [.int 18] (spPaper xBadCount xNoRate) := by
    obtain ⟨ds, hv, hb⟩ := dfl_one (ps := ["loud", "beats"]) F13 1 rfl fun _ _ _ _ _ _ us u h1 => match us, h1 with | [_], _ => ⟨_, _, _, _, _, _, rfl, rfl, rfl⟩
    exact ⟨f13, _, ds, O_13, PySem.W.mg_of X G a13, k13, hb, hv⟩
  have C__law_bag : Cal l.prog w K mg base 1 "_law_bag" ["_law_script"] (spBag K) := ⟨f14, _, ok__law_bag F14 (PySem.W.mg_none_of X G z_len) (PySem.W.mg_none_of X G z_list), PySem.W.mg_of X G a14, k14, b14⟩
  have C__law_pick : Cal l.prog w K mg base 1 "_law_pick" ["_law_bag_here", "_law_top"] (spPick) := ⟨f15, _, ok__law_pick F15 (PySem.W.mg_none_of X G z_len), PySem.W.mg_of X G a15, k15, b15⟩
  have C__law_of : Cal l.prog w K mg base 2 "_law_of" ["_law_bag_here", "_law_some"] (spOf K) := ⟨f16, _, ok__law_of F16 (PySem.W.mg_none_of X G z_len) (C__law_pick.mono (by decide)), PySem.W.mg_of X G a16, k16, b16⟩
  have C__law_same : Cal l.prog w K mg base 3 "_law_same" ["_law_found", "_law_due"] (spSame K 3) := ⟨f17, _, ok__law_same F17 (PySem.W.mg_of X G a17) b17 (PySem.W.mg_none_of X G z_len) (PySem.W.mg_none_of X G z_all) (PySem.W.mg_none_of X G z_bool) (PySem.W.mg_none_of X G z_int) (PySem.W.mg_none_of X G z_isinstance) (PySem.W.mg_none_of X G z_list) (PySem.W.mg_none_of X G z_range) (PySem.W.mg_none_of X G z_str) (PySem.W.mg_none_of X G z_tuple) 3, PySem.W.mg_of X G a17, k17, b17⟩
  have C__law_step : Cal l.prog w K mg base 1 "_law_step" ["_law_pace"] (spLstep) := ⟨f18, _, ok__law_step F18 , PySem.W.mg_of X G a18, k18, b18⟩
  have C__law_paper : Cal l.prog w K mg base 2 "_law_paper" ["_law_loud", "_law_size"] (spLP K) := ⟨f19, _, ok__law_paper F19 (C__law_step.mono (by decide)), PySem.W.mg_of X G a19, k19, b19⟩
  have C__law_root : Cal l.prog w K mg base 1 "_law_root" ["_law_figure"] (spRoot) := ⟨f20, _, ok__law_root F20 , PySem.W.mg_of X G a20, k20, b20⟩
  exact ok_law l23 c23 TB (PySem.W.mg_of X G e1) l22 c22 k22 (PySem.W.mg_of X G a22) b22 l21 c21 k21 (PySem.W.mg_of X G a21) b21 ⟨gaBadCount, ggBadCount, exBadCount, hdBadCount⟩ p2BadCount ⟨gaNoRate, ggNoRate, exNoRate, hdNoRate⟩ p2NoRate (PySem.W.mg_of X G gMissing) mBLineBadCount mBLineNoRate (PySem.W.mg_of X G gNoRate) noNoRate mB_NoRate_NoRate (PySem.W.mg_none_of X G z_range) (PySem.W.mg_of X G q_DATA) (PySem.W.mg_of X G q_BURST) (C_w_paper_1_beats.mono (by decide)) (C_d_paper.mono (by decide)) (C__law_bag.mono (by decide)) (C__law_pick.mono (by decide)) (C__law_of.mono (by decide)) (C__law_same.mono (by decide)) (C__law_root.mono (by decide)) (C__law_paper.mono (by decide))
end WB
open PySem PySem.W PyProof.Rows
set_option maxRecDepth 100000 in
set_option maxHeartbeats 0 in
theorem PySem.Challenge.cw_warbleline_k35_papers_of_rates_holds : PySem.Challenge.rw_warbleline_k35_papers_of_rates.Holds := by
  w_on; o_law; k_head; (case hw => w_witness2)
  k_fill
  refine LamX.walk_ofOwn (l := PySem.Challenge.rw_warbleline_k35_papers_of_rates) (n := 63) (k := 13) (x := "_law_script") (CX := fun _ => L2.CX0) rfl (by decide) rfl ⟨rfl, by decide, by decide⟩ (by decide +kernel) (fun w h Y => PySem.W.km_in_of Y) ?F (fun _ _ _ _ _ h => h)
  case F =>
    intro w mg fa h Y KX G hmg own
    refine' WB.all_mk KX G hmg own ?a0 ?l0 ?c0 ?k0 ?a1 ?l1 ?c1 ?k1 ?a2 ?l2 ?c2 ?k2 ?a3 ?l3 ?c3 ?k3 ?a4 ?l4 ?c4 ?k4 ?a5 ?l5 ?c5 ?k5 ?a6 ?l6 ?c6 ?k6 ?a7 ?l7 ?v7 ?c7 ?k7 ?a8 ?l8 ?c8 ?k8 ?a9 ?l9 ?c9 ?k9 ?a10 ?l10 ?v10 ?c10 ?k10 ?a11 ?l11 ?v11 ?c11 ?k11 ?a12 ?l12 ?v12 ?c12 ?k12 ?a13 ?l13 ?v13 ?c13 ?k13 ?a14 ?l14 ?c14 ?k14 ?a15 ?l15 ?c15 ?k15 ?a16 ?l16 ?c16 ?k16 ?a17 ?l17 ?c17 ?k17 ?a18 ?l18 ?c18 ?k18 ?a19 ?l19 ?c19 ?k19 ?a20 ?l20 ?c20 ?k20 ?a21 ?l21 ?c21 ?k21 ?a22 ?l22 ?c22 ?k22 ?a23 ?l23 ?c23 ?k23 ?t1 ?t2 ?t3 ?t4 ?e1 ?e2 ?e3 ?e4 ?e5 ?e6 ?e7 ?e8 ?e9 ?e10 ?z_ValueError ?gBadBit ?gaBadBit ?ggBadBit ?exBadBit ?hdBadBit ?noBadBit ?gBadCount ?gaBadCount ?ggBadCount ?exBadCount ?hdBadCount ?gBadRate ?gaBadRate ?ggBadRate ?exBadRate ?hdBadRate ?gNoRate ?gaNoRate ?ggNoRate ?exNoRate ?hdNoRate ?noNoRate ?gMissing ?mBLineBadCount ?mBLineNoRate ?mB_NoRate_NoRate ?o1BadBit ?o2BadBit ?o3BadBit ?o4BadBit ?o5BadBit ?o6BadBit ?o7BadBit ?o8BadBit ?o9BadBit ?p1BadBit ?p2BadBit ?o1BadCount ?o2BadCount ?o3BadCount ?o4BadCount ?o5BadCount ?o6BadCount ?o7BadCount ?o8BadCount ?o9BadCount ?p1BadCount ?p2BadCount ?o1BadRate ?o2BadRate ?o3BadRate ?o4BadRate ?o5BadRate ?o6BadRate ?o7BadRate ?o8BadRate ?o9BadRate ?p1BadRate ?p2BadRate ?o1NoRate ?o2NoRate ?o3NoRate ?o4NoRate ?o5NoRate ?o6NoRate ?o7NoRate ?o8NoRate ?o9NoRate ?p1NoRate ?p2NoRate ?z_enumerate ?z_len ?z_abs ?z_list ?z_range ?z_sum ?z_zip ?z_reversed ?z_all ?z_bool ?z_int ?z_isinstance ?z_str ?z_tuple ?q_MOST_BITS ?q_TAIL ?q_RING ?q_RATES ?w_RATES ?q_FEWEST_POINTS ?q_MOST_BEATS ?q_DATA ?q_BURST
    (case a0 => k_is)
    (case l0 => k_is)
    (case c0 => k_is)
    (case k0 => k_is)
    (case a1 => k_is)
    (case l1 => k_is)
    (case c1 => k_is)
    (case k1 => k_is)
    (case a2 => k_is)
    (case l2 => k_is)
    (case c2 => k_is)
    (case k2 => k_is)
    (case a3 => k_is)
    (case l3 => k_is)
    (case c3 => k_is)
    (case k3 => k_is)
    (case a4 => k_is)
    (case l4 => k_is)
    (case c4 => k_is)
    (case k4 => k_is)
    (case a5 => k_is)
    (case l5 => k_is)
    (case c5 => k_is)
    (case k5 => k_is)
    (case a6 => k_is)
    (case l6 => k_is)
    (case c6 => k_is)
    (case k6 => k_is)
    (case a7 => k_is)
    (case l7 => k_is)
    (case v7 => k_is)
    (case c7 => k_is)
    (case k7 => k_is)
    (case a8 => k_is)
    (case l8 => k_is)
    (case c8 => k_is)
    (case k8 => k_is)
    (case a9 => k_is)
    (case l9 => k_is)
    (case c9 => k_is)
    (case k9 => k_is)
    (case a10 => k_is)
    (case l10 => k_is)
    (case v10 => k_is)
    (case c10 => k_is)
    (case k10 => k_is)
    (case a11 => k_is)
    (case l11 => k_is)
    (case v11 => k_is)
    (case c11 => k_is)
    (case k11 => k_is)
    (case a12 => k_is)
    (case l12 => k_is)
    (case v12 => k_is)
    (case c12 => k_is)
    (case k12 => k_is)
    (case a13 => k_is)
    (case l13 => k_is)
    (case v13 => k_is)
    (case c13 => k_is)
    (case k13 => k_is)
    (case a14 => k_is)
    (case l14 => k_is)
    (case c14 => k_is)
    (case k14 => k_is)
    (case a15 => k_is)
    (case l15 => k_is)
    (case c15 => k_is)
    (case k15 => k_is)
    (case a16 => k_is)
    (case l16 => k_is)
    (case c16 => k_is)
    (case k16 => k_is)
    (case a17 => k_is)
    (case l17 => k_is)
    (case c17 => k_is)
    (case k17 => k_is)
    (case a18 => k_is)
    (case l18 => k_is)
    (case c18 => k_is)
    (case k18 => k_is)
    (case a19 => k_is)
    (case l19 => k_is)
    (case c19 => k_is)
    (case k19 => k_is)
    (case a20 => k_is)
    (case l20 => k_is)
    (case c20 => k_is)
    (case k20 => k_is)
    (case a21 => k_is)
    (case l21 => k_is)
    (case c21 => k_is)
    (case k21 => k_is)
    (case a22 => k_is)
    (case l22 => k_is)
    (case c22 => k_is)
    (case k22 => k_is)
    (case a23 => k_is)
    (case l23 => k_is)
    (case c23 => k_is)
    (case k23 => k_is)
    (case t1 => k_is)
    (case t2 => first | rfl | k_is)
    (case t3 => kernel_rfl)
    (case t4 => kernel_rfl)
    (case e1 => k_is)
    (case e2 => k_is)
    (case e3 => k_is)
    (case e4 => k_is)
    (case e5 => k_is)
    (case e6 => k_is)
    (case e7 => k_is)
    (case e8 => k_is)
    (case e9 => k_is)
    (case e10 => k_is)
    (case z_ValueError => k_is)
    (case gBadBit => k_is)
    (case gaBadBit => k_is)
    (case ggBadBit => k_is)
    (case exBadBit => k_is)
    (case hdBadBit => k_is)
    (case noBadBit => k_is)
    (case gBadCount => k_is)
    (case gaBadCount => k_is)
    (case ggBadCount => k_is)
    (case exBadCount => k_is)
    (case hdBadCount => k_is)
    (case gBadRate => k_is)
    (case gaBadRate => k_is)
    (case ggBadRate => k_is)
    (case exBadRate => k_is)
    (case hdBadRate => k_is)
    (case gNoRate => k_is)
    (case gaNoRate => k_is)
    (case ggNoRate => k_is)
    (case exNoRate => k_is)
    (case hdNoRate => k_is)
    (case noNoRate => k_is)
    (case gMissing => k_is)
    (case mBLineBadCount => kernel_rfl)
    (case mBLineNoRate => kernel_rfl)
    (case mB_NoRate_NoRate => kernel_rfl)
    (case o1BadBit => k_is)
    (case o2BadBit => decide +kernel)
    (case o3BadBit => k_is)
    (case o4BadBit => k_is)
    (case o5BadBit => k_is)
    (case o6BadBit => k_is)
    (case o7BadBit => k_is)
    (case o8BadBit => k_is)
    (case o9BadBit => k_is)
    (case p1BadBit => k_is)
    (case p2BadBit => k_is)
    (case o1BadCount => k_is)
    (case o2BadCount => decide +kernel)
    (case o3BadCount => k_is)
    (case o4BadCount => k_is)
    (case o5BadCount => k_is)
    (case o6BadCount => k_is)
    (case o7BadCount => k_is)
    (case o8BadCount => k_is)
    (case o9BadCount => k_is)
    (case p1BadCount => k_is)
    (case p2BadCount => k_is)
    (case o1BadRate => k_is)
    (case o2BadRate => decide +kernel)
    (case o3BadRate => k_is)
    (case o4BadRate => k_is)
    (case o5BadRate => k_is)
    (case o6BadRate => k_is)
    (case o7BadRate => k_is)
    (case o8BadRate => k_is)
    (case o9BadRate => k_is)
    (case p1BadRate => k_is)
    (case p2BadRate => k_is)
    (case o1NoRate => k_is)
    (case o2NoRate => decide +kernel)
    (case o3NoRate => k_is)
    (case o4NoRate => k_is)
    (case o5NoRate => k_is)
    (case o6NoRate => k_is)
    (case o7NoRate => k_is)
    (case o8NoRate => k_is)
    (case o9NoRate => k_is)
    (case p1NoRate => k_is)
    (case p2NoRate => k_is)
    (case z_enumerate => k_is)
    (case z_len => k_is)
    (case z_abs => k_is)
    (case z_list => k_is)
    (case z_range => k_is)
    (case z_sum => k_is)
    (case z_zip => k_is)
    (case z_reversed => k_is)
    (case z_all => k_is)
    (case z_bool => k_is)
    (case z_int => k_is)
    (case z_isinstance => k_is)
    (case z_str => k_is)
    (case z_tuple => k_is)
    (case q_MOST_BITS => k_is)
    (case q_TAIL => k_is)
    (case q_RING => k_is)
    (case q_RATES => k_is)
    (case w_RATES => k_is)
    (case q_FEWEST_POINTS => k_is)
    (case q_MOST_BEATS => k_is)
    (case q_DATA => k_is)
    (case q_BURST => k_is)
