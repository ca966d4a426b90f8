import PyProof.Rows.All
import Wide.All
import OpenK.AllK
import Wide.FinOn
import HandS.Base
import HandS.Call
import HandS.List
import HandS.Comp
import HandS.Ends
import HandS.Iter
import HandS.Text
import HandS.Words
import HandS.WordsList
import HandS.IsInst
import HandS.More
import HandS.Wide
import HandS.Style
import HandS.EndBits
import HandS.Exc
import HandS.ExcOwn
import HandS.ExcInit
import HandS.ExcField
import HandS.TryOnly
import HandS.WordsExc
import HandS.FStr
import HandS.Defaults
import HandS.Lambda
import HandS.EndTab
import HandS.Dict
import HandS.Conv
import HandS.Zip
import HandS.MakeKwOnly
import HandS.Deep
import KE.DatumOrd
import HandS.Rev
import PyProof.Rows.RowBridgeK
import HandS.SetFor
import HandS.Walk
import HandS.TupAny
import KE.GoesZip
import KE.GoesMore
import KE.GoesEnum
import HandS.SlotsOwn
import HandS.DictSub
import PyProof.Conv_bool
import HandS.EndOwn
import PySem.Challenge.RW_warbleline_k16_rows_shortened
set_option Elab.async false
set_option linter.all false
set_option maxRecDepth 100000
set_option maxHeartbeats 2000000
namespace WB
open PySem PySem.Spec PyProof.Rows L2
/-! ### a def that may be called by its name, letting nothing out -/
def Cal (P : Program) (w : World) (K : PySem.W.Frag) (mg : Str → Option Value) (base : Heap) (k : Nat) (nm : Str) (ps : List Str) (sp : Sp) : Prop :=
  ∃ (f : Addr) (fd : FuncData), FnOk P w K mg base CX0 k f fd ps sp ∧ mg nm = some (.ref f) ∧ PySem.W.keepIn K (.ref f) = true ∧ Binds K fd ps []
theorem Cal.mono {P : Program} {w : World} {K : PySem.W.Frag} {mg : Str → Option Value} {base : Heap} {j k : Nat} {nm : Str} {ps : List Str} {sp : Sp} (c : Cal P w K mg base j nm ps sp) (h : j ≤ k) : Cal P w K mg base k nm ps sp := by
  obtain ⟨f, fd, a, b, d, e⟩ := c
  exact ⟨f, fd, a.mono h, b, d, e⟩
section
variable {X : Cx} {k : Nat} {nm : Str} {ps : List Str} {sp : Sp} {e : Expr} {es : List Expr} {t : TA} {p pos : Pos}
theorem pe_callC (c : Cal X.prog X.w X.K X.mg X.base k nm ps sp) (hr : Room k X.A) (hg : Gl X nm) (ha : PA X (e :: es) t) (hdb : (nm == ("__debug__" : Str)) = false := by decide)
    (he : starEach (e :: es) X.env = (false, eval e X.env) :: starEach es X.env := by rfl) (hpl : (backTo pos (starEach es X.env)).any (·.1) = false := by rfl) :
    PE X (.Call (.Name nm p) (e :: es) [] pos) (tCall sp [] E0 t) := by
  obtain ⟨f, fd, a, b, d, g⟩ := c
  exact pe_call a hr hg b d g .nil pass0 ha hdb he hpl
theorem pe_callC0 (c : Cal X.prog X.w X.K X.mg X.base k nm ps sp) (hr : Room k X.A) (hg : Gl X nm) (hdb : (nm == ("__debug__" : Str)) = false := by decide) :
    PE X (.Call (.Name nm p) [] [] pos) (tCall sp [] E0 tNil) := by
  obtain ⟨f, fd, a, b, d, g⟩ := c
  exact pe_call0 a hr hg b d g .nil pass0 hdb
end
/-! ### rules with the written part by its name (a comprehension's block has the same one) -/
section
variable {X : Cx} (K : PySem.W.Frag)
theorem ix_listK (h : X.K = K) : IxR X (rIxL K) := by subst h; exact ix_list
theorem ix_tupK (h : X.K = K) : IxR X (rIxT K) := by subst h; exact ix_tup
theorem ix_seqK (h : X.K = K) : IxR X (rIx K) := by subst h; exact ix_seq
def rLenK (K : PySem.W.Frag) : List V → Hp → VK → Prop := fun xs H Q => ∃ p ys, xs = [.ref p] ∧ (SqL K H p ys ∨ SqT K H p ys) ∧ Q (.int ys.length) H
theorem call_lenK (h : X.K = K) : CallR X (.builtin "len") (rLenK K) := by subst h; exact call_len_seq
def rListK (K : PySem.W.Frag) : List V → Hp → VK → Prop := fun xs H Q => ∃ p ys, xs = [.ref p] ∧ (SqL K H p ys ∨ SqT K H p ys) ∧ ∀ l, H l = none → Q (.ref l) (upd H l (.lst ys))
theorem call_listK (h : X.K = K) : CallR X (.type "list") (rListK K) := by subst h; exact call_list_of
theorem call_isiK1 (h : X.K = K) : CallR X (.builtin "isinstance") (rIsi K) := by subst h; exact call_isi
theorem call_isiTK (h : X.K = K) : CallR X (.builtin "isinstance") (rIsiT K) := by subst h; exact call_isiT
theorem op_inK (h : X.K = K) : OpR X (compareOp .In) (rIn K false) := by subst h; exact op_in_seq
theorem op_notInK (h : X.K = K) : OpR X (compareOp .NotIn) (rIn K true) := by subst h; exact op_notIn_seq
theorem op_eqDK (h : X.K = K) (hu : X.A.units + 64 < cLine) : OpR X (compareOp .Eq) (rEqD K) := by subst h; exact op_eqD hu
theorem op_neDK (h : X.K = K) (hu : X.A.units + 64 < cLine) : OpR X (compareOp .NotEq) (rNeD K) := by subst h; exact op_neD hu
theorem sl_listK (h : X.K = K) : SlR X (rSlL K) := by subst h; exact sl_list
theorem cr_allK (h : X.K = K) (hc : X.calm = true) : CallR X (.builtin "all") (rAll K) := by subst h; exact cr_all hc
variable {o e : Expr} {es : List Expr} {to : TE} {t : TA} {name : Str} {apos cpos : Pos} {T id : String} {r : V → List V → Hp → VK → Prop}
theorem pe_bm0K (h : X.K = K) (pa : PlainAttrs T) (slot : Slot T name id) (hty : typeOf (.builtin id) = pure (.type "method_descriptor")) (hm : MtR X id r) (ho : PE X o to)
    (hbase : attributeBase o name X.env (eval o X.env) = eval o X.env := by rfl) (hline : (apos.endLine == cpos.line) = true := by rfl) : PE X (.Call (.Attribute o name apos) [] [] cpos) (tBM0 K T r to) := by
  subst h; exact pe_bm0 pa slot hty hm ho hbase hline
theorem pe_bmK (h : X.K = K) (pa : PlainAttrs T) (slot : Slot T name id) (hty : typeOf (.builtin id) = pure (.type "method_descriptor")) (hm : MtR X id r) (ho : PE X o to) (ha : PA X (e :: es) t)
    (hbase : attributeBase o name X.env (eval o X.env) = eval o X.env := by rfl)
    (hfew : ((backTo cpos (starEach (e :: es) X.env)).all (fun x => !x.1) && (backToKw cpos (keywordEach [] X.env)).all (fun x => x.1.isSome)
      && decide ((e :: es).length + ([] : List Keyword).length + (if ([] : List Keyword).isEmpty then 0 else 1) < 30)) = true := by rfl)
    (hline : (apos.endLine == cpos.line) = true := by rfl) (hs : starEach (e :: es) X.env = (false, eval e X.env) :: starEach es X.env := by rfl) (hplain : (backTo cpos (starEach es X.env)).any (·.1) = false := by rfl) :
    PE X (.Call (.Attribute o name apos) (e :: es) [] cpos) (tBM K T r to t) := by
  subst h; exact pe_bm pa slot hty hm ho ha hbase hfew hline hs hplain
variable {tg l : Expr} {tl : TE}
theorem pi_listK (h : X.K = K) (hl : PE X l tl) : PI X tg l (iList K tl) := by subst h; exact pi_list hl
theorem pi_tupK (h : X.K = K) (hl : PE X l tl) : PI X tg l (iTup K tl) := by subst h; exact pi_tup hl
end
/-- behind a statement: what its ways have in common -/
theorem seq_by {t u : TS} {D : Ends} {σ : L2.St} {H : Hp} (J : L2.St → Hp → Prop) (h2 : ∀ σ1 H1, J σ1 H1 → u D σ1 H1) (h1 : (∀ σ1 H1, J σ1 H1 → u D σ1 H1) → t { D with nx := u D } σ H) : tSeq t u D σ H := h1 h2
theorem if_by {c : TT} {t1 t2 u : TS} {D : Ends} {σ : L2.St} {H : Hp} (J : L2.St → Hp → Prop) (h2 : ∀ σ1 H1, J σ1 H1 → u D σ1 H1) (h1 : (∀ σ1 H1, J σ1 H1 → u D σ1 H1) → tIfS c t1 t2 { D with nx := u D } σ H) : tSeq (tIfS c t1 t2) u D σ H := h1 h2
theorem asg_by {te : TE} {i : Nat} {u : TS} {D : Ends} {σ : L2.St} {H : Hp} (J : V → Hp → Prop) (h2 : ∀ v H1, J v H1 → u D (σ.set i (some v)) H1) (h1 : (∀ v H1, J v H1 → u D (σ.set i (some v)) H1) → te σ H (fun x H1 => gName i x σ H1 (u D))) : tSeq (tAsg te (gName i)) u D σ H := h1 h2
theorem name_by {i : Nat} {v : V} {σ : L2.St} {H : Hp} {Q : L2.St → Hp → Prop} (h : Q (σ.set i (some v)) H) : gName i v σ H Q := h
/-! ### heaps -/
theorem same_upd {H : Hp} {p : Addr} {o : HO} (h : H p = none) : Same H (upd H p o) := fun b x e => by
  rw [upd_ne (ne_of_none e h)]
  exact e
/-- an object that was not there ahead may change -/
theorem same_mut {H H' : Hp} {p : Addr} {o : HO} (e : Same H H') (h : H p = none) : Same H (upd H' p o) := fun b x q => by
  rw [upd_ne (ne_of_none q h)]
  exact e b x q
/-- all but what stands at b stays -/
def Mv (b : Addr) (H H' : Hp) : Prop := ∀ a o, a ≠ b → H a = some o → H' a = some o
theorem Mv.refl (b : Addr) (H : Hp) : Mv b H H := fun _ _ _ h => h
theorem Mv.trans {b : Addr} {H H1 H2 : Hp} (x : Mv b H H1) (y : Mv b H1 H2) : Mv b H H2 := fun a o n h => y a o n (x a o n h)
theorem Mv.of {b : Addr} {H H' : Hp} (s : Same H H') : Mv b H H' := fun a o _ h => s a o h
theorem Mv.upd {b : Addr} {H H' : Hp} {o : HO} (x : Mv b H H') : Mv b H (upd H' b o) := fun a u n h => by
  rw [upd_ne n]
  exact x a u n h
theorem Mv.none {b p : Addr} {H H' : Hp} (x : Mv b H H') (n : p ≠ b) (h : H' p = none) : H p = none := by
  cases q : H p with
  | none => rfl
  | some o =>
    rw [x p o n q] at h
    cases h
/-! ### the bag: b.1 the bag, b.2 its numbers -/
def bagL (s : Addr) (i r x c : Int) : List V := [.ref s, .int i, .int r, .int x, .int c]
def Bag (b : Addr × Addr) (H : Hp) : Prop := ∃ (ns : List Int) (i r x c : Int), H b.1 = some (.lst (bagL b.2 i r x c)) ∧ H b.2 = some (.lst (ns.map V.int)) ∧ b.2 ≠ b.1 ∧ 0 ≤ i ∧ 0 ≤ x ∧ x < 2147483648
theorem Bag.same {b : Addr × Addr} {H H' : Hp} (g : Bag b H) (s : Same H H') : Bag b H' := by
  obtain ⟨ns, i, r, x, c, h1, h2, h3, h4, h5, h6⟩ := g
  exact ⟨ns, i, r, x, c, s _ _ h1, s _ _ h2, h3, h4, h5, h6⟩
theorem Bag.ne {b : Addr × Addr} {p : Addr} {H : Hp} (g : Bag b H) (h : H p = none) : p ≠ b.1 := by
  obtain ⟨ns, i, r, x, c, h1, _⟩ := g
  exact fun z => by rw [z, h1] at h; cases h
theorem Bag.ne2 {b : Addr × Addr} {p : Addr} {H : Hp} (g : Bag b H) (h : H p = none) : p ≠ b.2 := by
  obtain ⟨ns, i, r, x, c, _, h1, _⟩ := g
  exact fun z => by rw [z, h1] at h; cases h
theorem Bag.upd {b : Addr × Addr} {p : Addr} {o : HO} {H : Hp} (g : Bag b H) (h1 : p ≠ b.1) (h2 : p ≠ b.2) : Bag b (L2.upd H p o) := by
  obtain ⟨ns, i, r, x, c, e1, e2, h3⟩ := g
  exact ⟨ns, i, r, x, c, by rw [upd_ne h1.symm]; exact e1, by rw [upd_ne h2.symm]; exact e2, h3⟩
/-- a draw: its bag, its bound -/
def spPick : Sp := fun vs H Q _ => ∃ (b : Addr × Addr) (top : Int), vs = [.ref b.1, .int top] ∧ Bag b H ∧ 0 < top ∧ top < 1073741824 ∧ ∀ (H' : Hp) (d : Int), Mv b.1 H H' → Bag b H' → 0 ≤ d → d < top → Q (.int d) H'
/-- the bag of a script -/
def spBag (K : PySem.W.Frag) : Sp := fun vs H Q _ => ∃ (a : Addr) (ns : List Int), vs = [.ref a] ∧ SqL K H a (ns.map V.int) ∧ ∀ (H' : Hp) (b : Addr × Addr), Same H H' → H b.1 = none → Bag b H' → Q (.ref b.1) H'
/-- one of the list's things -/
def spOf (K : PySem.W.Frag) : Sp := fun vs H Q _ => ∃ (b : Addr × Addr) (l : Addr) (xs : List V), vs = [.ref b.1, .ref l] ∧ Bag b H ∧ l ≠ b.1 ∧ H l = some (.lst xs) ∧ 0 < xs.length ∧ xs.length < 1000 ∧ ∀ (H' : Hp) (v : V), Mv b.1 H H' → Bag b H' → v ∈ xs → Q v H'
section
variable {K : PySem.W.Frag}
def tyN : PyData → String
  | .none => "NoneType"
  | .bool _ => "bool"
  | .int _ => "int"
  | .str _ => "str"
  | .list _ => "list"
  | .tuple _ => "tuple"
  | .dict _ => "dict"
theorem ty_dp {H : Hp} {x : V} {d : PyData} (h : Dp K H x d) : TyX K H x (.type (tyN d)) := by
  cases h with
  | non => exact .base .non
  | bl b => exact .base (.bl b)
  | int i => exact .base (.int i)
  | str x => exact .base (.str x)
  | lst hs _ =>
    rcases hs with (h | ⟨o, h⟩) | ⟨o, its, n, h1, h2, _⟩
    · exact .base (.lst h)
    · exact .base (.frz h)
    · exact .kList h1 h2
  | tup hs _ =>
    rcases hs with (h | ⟨o, h⟩) | ⟨o, its, n, h1, h2, _⟩
    · exact .base (.tup h)
    · exact .fTuple h
    · exact .kTuple h1 h2
theorem same_t {H H' : Hp} {a : Addr} {xs : List V} (e : Same H H') (h : SqT K H a xs) : SqT K H' a xs := by
  rcases h with (h | ⟨o, h⟩) | h
  · exact .inl (.inl (e _ _ h))
  · exact .inl (.inr ⟨o, e _ _ h⟩)
  · exact .inr h
mutual
theorem dp_same {H H' : Hp} (e : Same H H') : ∀ {d : PyData} {x : V}, Dp K H x d → Dp K H' x d
  | _, _, .non => .non
  | _, _, .bl b => .bl b
  | _, _, .int i => .int i
  | _, _, .str s => .str s
  | _, _, .lst hs ha => .lst (e.seq hs) (dpa_same e ha)
  | _, _, .tup hs ha => .tup (same_t e hs) (dpa_same e ha)
theorem dpa_same {H H' : Hp} (e : Same H H') : ∀ {ds : List PyData} {xs : List V}, DpAll K H xs ds → DpAll K H' xs ds
  | _, _, .nil => .nil
  | _, _, .cons h t => .cons (dp_same e h) (dpa_same e t)
end
theorem dpa_len {H : Hp} : ∀ {xs : List V} {ds : List PyData}, DpAll K H xs ds → xs.length = ds.length
  | _, _, .nil => rfl
  | _, _, .cons _ t => congrArg (· + 1) (dpa_len t)
theorem dpa_get {H : Hp} : ∀ {xs : List V} {ds : List PyData} {i : Nat} {d : PyData}, DpAll K H xs ds → ds[i]? = some d → ∃ x, xs[i]? = some x ∧ Dp K H x d
  | _, _, _, _, .nil, e => by simp at e
  | _, _, 0, _, .cons h _, e => by simp at e; subst e; exact ⟨_, rfl, h⟩
  | _, _, i + 1, d, .cons _ t, e => by
    obtain ⟨x, h1, h2⟩ := dpa_get (i := i) (d := d) t (by simpa using e)
    exact ⟨x, by simpa using h1, h2⟩
/-- data of at most so many levels -/
def Dn : Nat → PyData → Prop
  | 0, _ => False
  | n + 1, d => (∃ b, d = .bool b) ∨ (∃ i, d = .int i) ∨ (∃ s, d = .str s) ∨ d = .none ∨ ∃ ds, (d = .list ds ∨ d = .tuple ds) ∧ ds.length ≤ 100000 ∧ ∀ e ∈ ds, Dn n e
def spSame (K : PySem.W.Frag) (n : Nat) : Sp := fun vs H Q _ => ∃ (x y : V) (d : PyData), vs = [x, y] ∧ Dp K H x d ∧ Dp K H y d ∧ Dn n d ∧ SeqAt.shaped d = true ∧ ∀ H', Same H H' → Q (.bl true) H'
theorem tYes_by {σ : L2.St} {H : Hp} {Q : Bool → Hp → Prop} (h : Q true H) : tYes σ H Q := h
theorem canLay_mem : ∀ {ds : List PyData} {e : PyData}, e ∈ ds → PyData.canLayAll0 ds = true → PyData.canLay0 e = true
  | d :: ds, e, hm, h => by
    have h : (PyData.canLay0 d && PyData.canLayAll0 ds) = true := h
    rw [Bool.and_eq_true] at h
    rcases List.mem_cons.mp hm with rfl | hm
    · exact h.1
    · exact canLay_mem hm h.2
theorem depth_mem : ∀ {ds : List PyData} {e : PyData}, e ∈ ds → PyData.depth e ≤ PyData.depthAll ds
  | d :: ds, e, hm => by
    show _ ≤ max (PyData.depth d) (PyData.depthAll ds)
    rcases List.mem_cons.mp hm with rfl | hm
    · exact Nat.le_max_left _ _
    · exact Nat.le_trans (depth_mem hm) (Nat.le_max_right _ _)
theorem shaped_mem {ds : List PyData} {e : PyData} (hm : e ∈ ds) (h : SeqAt.shaped (.list ds) = true ∨ SeqAt.shaped (.tuple ds) = true) : SeqAt.shaped e = true := by
  have k : PyData.canLayAll0 ds = true ∧ PyData.depthAll ds + 1 ≤ 64 := by
    rcases h with h | h
    · exact ⟨SeqAt.canLay_of_shaped h, SeqAt.depth_of_shaped h⟩
    · exact ⟨SeqAt.canLay_of_shaped h, SeqAt.depth_of_shaped h⟩
  unfold SeqAt.shaped
  rw [Bool.and_eq_true]
  exact ⟨canLay_mem hm k.1, decide_eq_true (by have := depth_mem hm; omega)⟩
theorem ifT {A B : Prop} {b : Bool} (e : b = true) (h : A) : if b = true then A else B := by rw [if_pos e]; exact h
theorem ifF {A B : Prop} {b : Bool} (e : b = false) (h : B) : if b = true then A else B := by rw [e]; exact iteF h
end
end WB
namespace WB
open PySem PySem.Spec PyProof.Rows L2
section
variable {K : PySem.W.Frag}
theorem for_enumK {a : Addr} {xs : List V} {g : TG} {tb : TS} {D : Ends} {σ : L2.St} {H : Hp} (Pv : Nat → L2.St → Hp → Prop) (h0 : Pv 0 σ H) (hl : ∀ i σ H, i ≤ xs.length → Pv i σ H → SqL K H a xs)
    (hs : ∀ i x T σ H, xs[i]? = some x → Pv i σ H → H T = none → g (.ref T) σ (upd H T (.tup [.int (i : Nat), x])) fun σ2 H2 => tb { D with nx := Pv (i + 1), ct := Pv (i + 1), bk := D.nx } σ2 H2) (hd : ∀ σ H, Pv xs.length σ H → D.nx σ H) :
    ∃ W : Nat → Nat → L2.St → Hp → Prop, (∃ m, W 0 m σ H) ∧ ∀ i m σ H, W i m σ H →
      ((Ite K a).stop i H ∧ D.nx σ H) ∨ ((Ite K a).go i H ∧ ∃ N : L2.St → Hp → Prop, (∀ σ' H', N σ' H' → ∃ m', m' < m ∧ W (i + 1) m' σ' H') ∧ ∀ x H', (Ite K a).yld i H x H' → g x σ H' fun σ2 H2 => tb { D with nx := N, ct := N, bk := D.nx } σ2 H2) := by
  refine ⟨fun i m σ H => m = xs.length - i ∧ i ≤ xs.length ∧ Pv i σ H, ⟨xs.length, by simp, Nat.zero_le _, h0⟩, ?_⟩
  rintro i m σ H ⟨rfl, hi, p⟩
  have q := hl i σ H hi p
  by_cases hlt : i < xs.length
  · refine .inr ⟨⟨xs, xs[i], q, by simp [hlt]⟩, Pv (i + 1), fun σ' H' p' => ⟨xs.length - (i + 1), by omega, rfl, hlt, p'⟩, fun x H' y => ?_⟩
    obtain ⟨T, z, rfl, nT, rfl, y⟩ := y
    exact hs i z T σ H (y xs q) p nT
  · have e : i = xs.length := by omega
    subst e
    exact .inl ⟨⟨xs, q, Nat.le_refl _⟩, hd σ H p⟩
end
/-! ### bits, numbers in bits, seals: the mathematics -/
def Bits (ns : List Int) : Prop := ∀ z ∈ ns, z = 0 ∨ z = 1
/-- a number in so many bits, the one of greatest worth first -/
def wr : Nat → Int → List Int
  | 0, _ => []
  | i + 1, n => ((n / 2 ^ i) % 2) :: wr i n
theorem wr_len : ∀ (i : Nat) (n : Int), (wr i n).length = i
  | 0, _ => rfl
  | i + 1, n => congrArg (· + 1) (wr_len i n)
theorem wr_bits : ∀ (i : Nat) (n : Int), Bits (wr i n)
  | 0, _ => fun z h => nomatch h
  | i + 1, n => fun z h => by
    rcases List.mem_cons.mp h with rfl | h
    · omega
    · exact wr_bits i n z h
theorem half (n : Int) (i : Nat) : n / 2 ^ i / 2 = n / 2 ^ (i + 1) := by
  rw [Int.pow_succ, Int.ediv_ediv_of_nonneg (by exact Int.pow_nonneg (by decide))]
/-- the register: one more bit -/
def stepR (c : Nat) (b : Int) : Nat := if ((c / 32768 : Nat) : Int) = b then c * 2 % 65536 else (c * 2 % 65536) ^^^ 4129
theorem stepR_lt (c : Nat) (b : Int) : stepR c b < 65536 := by
  unfold stepR
  have h : c * 2 % 65536 < 65536 := Nat.mod_lt _ (by decide)
  split
  · exact h
  · exact Nat.xor_lt_two_pow (n := 16) h (by decide)
def regs (bs : List Int) : Nat := bs.foldl stepR 65535
theorem regs_lt (bs : List Int) : regs bs < 65536 := by
  have : ∀ (l : List Int) (c : Nat), c < 65536 → l.foldl stepR c < 65536 := by
    intro l
    induction l with
    | nil => exact fun c h => h
    | cons b r ih => exact fun c _ => ih _ (stepR_lt c b)
  exact this bs 65535 (by decide)
def sealL (bs : List Int) : List Int := wr 16 (regs bs : Nat)
theorem take_more {α : Type} {l : List α} {i : Nat} {x : α} (h : l[i]? = some x) : l.take (i + 1) = l.take i ++ [x] := by
  rw [List.take_add_one, h]
  rfl
theorem regs_more {bs : List Int} {i : Nat} {b : Int} (h : bs[i]? = some b) : regs (bs.take (i + 1)) = stepR (regs (bs.take i)) b := by
  unfold regs
  rw [take_more h, List.foldl_append]
  rfl
theorem wr_at (c : Nat) (i : Nat) : ((c : Int) / 2 ^ i) % 2 = if c.testBit i then 1 else 0 := by
  have e : ((c : Int) / 2 ^ i) % 2 = ((c / 2 ^ i % 2 : Nat) : Int) := by
    rw [Int.natCast_emod, Int.natCast_ediv, Int.natCast_pow]
    rfl
  rw [e, Nat.testBit_eq_decide_div_mod_eq]
  have h : c / 2 ^ i % 2 < 2 := Nat.mod_lt _ (by decide)
  by_cases h1 : c / 2 ^ i % 2 = 1
  · rw [h1]; rfl
  · have h0 : c / 2 ^ i % 2 = 0 := by omega
    rw [h0]; rfl
def holdsB (ns : List Int) : Bool := decide (16 ≤ ns.length) && decide (sealL (ns.take (ns.length - 16)) = ns.drop (ns.length - 16))
theorem wr_shift (c : Nat) : wr 16 ((c * 2 % 65536 : Nat) : Int) = (wr 16 (c : Int)).drop 1 ++ [0] := by
  have e : ((c * 2 % 65536 : Nat) : Int) = (c : Int) * 2 % 65536 := by rw [Int.natCast_emod, Int.natCast_mul]; rfl
  rw [e]
  generalize (c : Int) = z
  simp only [wr, List.drop, List.cons_append, List.nil_append, List.cons.injEq, and_true]
  refine ⟨?_, ?_, ?_, ?_, ?_, ?_, ?_, ?_, ?_, ?_, ?_, ?_, ?_, ?_, ?_, ?_⟩ <;> omega
def fl (M : List Int) (k : Nat) : List Int := M.set k (1 - M.getD k 0)
theorem wr_flip (a : Nat) : wr 16 ((a ^^^ 4129 : Nat) : Int) = fl (fl (fl (wr 16 (a : Int)) 3) 10) 15 := by
  simp only [wr, wr_at, Nat.testBit_xor, fl]
  simp only [List.set, List.getD, List.getElem?_cons_succ, List.getElem?_cons_zero, Option.getD]
  have h : ∀ i : Nat, (if ((a.testBit i) ^^ true) = true then (1 : Int) else 0) = 1 - (if a.testBit i = true then 1 else 0) := by
    intro i
    cases a.testBit i <;> rfl
  have t0 : (4129 : Nat).testBit 0 = true := by decide
  have t5 : (4129 : Nat).testBit 5 = true := by decide
  have t12 : (4129 : Nat).testBit 12 = true := by decide
  have n1 : (4129 : Nat).testBit 1 = false := by decide
  have n2 : (4129 : Nat).testBit 2 = false := by decide
  have n3 : (4129 : Nat).testBit 3 = false := by decide
  have n4 : (4129 : Nat).testBit 4 = false := by decide
  have n6 : (4129 : Nat).testBit 6 = false := by decide
  have n7 : (4129 : Nat).testBit 7 = false := by decide
  have n8 : (4129 : Nat).testBit 8 = false := by decide
  have n9 : (4129 : Nat).testBit 9 = false := by decide
  have n10 : (4129 : Nat).testBit 10 = false := by decide
  have n11 : (4129 : Nat).testBit 11 = false := by decide
  have n13 : (4129 : Nat).testBit 13 = false := by decide
  have n14 : (4129 : Nat).testBit 14 = false := by decide
  have n15 : (4129 : Nat).testBit 15 = false := by decide
  simp only [t0, t5, t12, n1, n2, n3, n4, n6, n7, n8, n9, n10, n11, n13, n14, n15, Bool.xor_false, h]
/-- data of ints -/
def dI (ns : List Int) : PyData := .list (ns.map PyData.int)
theorem dpa_ints {K : PySem.W.Frag} {H : Hp} : ∀ ns : List Int, DpAll K H (ns.map V.int) (ns.map PyData.int)
  | [] => .nil
  | n :: r => .cons (.int n) (dpa_ints r)
theorem dp_ints {K : PySem.W.Frag} {H : Hp} {a : Addr} {ns : List Int} (h : SqL K H a (ns.map V.int)) : Dp K H (.ref a) (dI ns) := .lst h (dpa_ints ns)
theorem depth_ints : ∀ ns : List Int, PyData.depthAll (ns.map PyData.int) = 0
  | [] => rfl
  | n :: r => by
    show max 0 (PyData.depthAll (r.map PyData.int)) = 0
    rw [depth_ints r]
    rfl
theorem canLay_ints : ∀ ns : List Int, PyData.canLayAll0 (ns.map PyData.int) = true
  | [] => rfl
  | n :: r => by
    show (true && PyData.canLayAll0 (r.map PyData.int)) = true
    rw [canLay_ints r]
    rfl
theorem shaped_ints (ns : List Int) : SeqAt.shaped (dI ns) = true := by
  unfold SeqAt.shaped
  rw [Bool.and_eq_true]
  refine ⟨canLay_ints ns, decide_eq_true ?_⟩
  show PyData.depthAll (ns.map PyData.int) + 1 ≤ 64
  rw [depth_ints]
  decide
theorem eqv_ints (ns ms : List Int) : PyData.eqv (dI ns) (dI ms) = decide (ns = ms) := by
  have : ∀ (ns ms : List Int), PyData.eqvAll (ns.map PyData.int) (ms.map PyData.int) = decide (ns = ms) := by
    intro ns
    induction ns with
    | nil =>
      intro ms
      cases ms with
      | nil => rfl
      | cons m r => rfl
    | cons n r ih =>
      intro ms
      cases ms with
      | nil => rfl
      | cons m t =>
        show (PyData.eqv (.int n) (.int m) && PyData.eqvAll (r.map PyData.int) (t.map PyData.int)) = _
        rw [ih t]
        show ((n == m) && decide (r = t)) = _
        rw [show (n == m) = decide (n = m) from by rw [Bool.beq_eq_decide_eq], ← Bool.decide_and]
        exact decide_eq_decide.mpr ⟨fun h => by rw [h.1, h.2], fun h => List.cons.inj h⟩
  exact this ns ms
/-! ### what a law knows of the heap: the bag at b, and these -/
structure SH (b : Addr × Addr) (H : Hp) (L : List (Addr × HO)) : Prop where
  bag : Bag b H
  nb : ∀ p ∈ L, p.1 ≠ b.1 ∧ p.1 ≠ b.2
  kn : ∀ p ∈ L, H p.1 = some p.2
section
variable {b : Addr × Addr} {p : Addr} {H H' : Hp} {L L' : List (Addr × HO)} {o o' : HO}
theorem SH.same (h : SH b H L) (s : Same H H') : SH b H' L := ⟨h.bag.same s, h.nb, fun q hq => s _ _ (h.kn q hq)⟩
theorem SH.mv (h : SH b H L) (m : Mv b.1 H H') (g : Bag b H') : SH b H' L := ⟨g, h.nb, fun q hq => m _ _ (h.nb q hq).1 (h.kn q hq)⟩
theorem SH.add (h : SH b H L) (n : p ≠ b.1) (n2 : p ≠ b.2) (e : H p = some o) : SH b H ((p, o) :: L) :=
  ⟨h.bag, fun q hq => (List.mem_cons.mp hq).elim (fun z => by rw [z]; exact ⟨n, n2⟩) (h.nb q), fun q hq => (List.mem_cons.mp hq).elim (fun z => by rw [z]; exact e) (h.kn q)⟩
theorem SH.new (h : SH b H L) (n : H p = none) : SH b (upd H p o) ((p, o) :: L) := (h.same (same_upd n)).add (h.bag.ne n) (h.bag.ne2 n) upd_same
theorem SH.newS (h : SH b H L) (s : Same H H') (n : H p = none) (e : H' p = some o) : SH b H' ((p, o) :: L) := (h.same s).add (h.bag.ne n) (h.bag.ne2 n) e
theorem SH.newM (h : SH b H L) (m : Mv b.1 H H') (g : Bag b H') (n : H p = none) (e : H' p = some o) : SH b H' ((p, o) :: L) := (h.mv m g).add (h.bag.ne n) (h.bag.ne2 n) e
theorem SH.sub (h : SH b H L) (hs : ∀ q ∈ L', q ∈ L) : SH b H L' := ⟨h.bag, fun q hq => h.nb q (hs q hq), fun q hq => h.kn q (hs q hq)⟩
theorem SH.get (h : SH b H L) (hm : (p, o) ∈ L) : H p = some o := h.kn _ hm
theorem SH.ne (h : SH b H L) (hm : (p, o) ∈ L) : p ≠ b.1 := (h.nb _ hm).1
/-- the first of them is written; the others stand elsewhere -/
theorem SH.put (h : SH b H ((p, o) :: L)) (hd : ∀ q ∈ L, q.1 ≠ p) : SH b (upd H p o') ((p, o') :: L) :=
  ⟨h.bag.upd (h.nb _ (.head _)).1 (h.nb _ (.head _)).2, fun q hq => (List.mem_cons.mp hq).elim (fun z => by rw [z]; exact h.nb (p, o) (.head L)) (fun hq => h.nb q (.tail _ hq)),
    fun q hq => (List.mem_cons.mp hq).elim (fun z => by rw [z]; exact upd_same) (fun hq => by rw [upd_ne (hd q hq)]; exact h.kn q (.tail _ hq))⟩
theorem SH.apart (h : SH b H L) (n : H p = none) : ∀ q ∈ L, q.1 ≠ p := fun q hq => ne_of_none (h.kn q hq) n
theorem SH.nil (g : Bag b H) : SH b H [] := ⟨g, (fun _ h => absurd h List.not_mem_nil), (fun _ h => absurd h List.not_mem_nil)⟩
end
theorem bits_nil : Bits [] := fun _ h => nomatch h
theorem bits_app {a c : List Int} (h : Bits a) (h' : Bits c) : Bits (a ++ c) := fun z hz => (List.mem_append.mp hz).elim (h z) (h' z)
theorem bits_one {z : Int} (h : z = 0 ∨ z = 1) : Bits [z] := fun y hy => by rw [List.mem_singleton.mp hy]; exact h
theorem bits_take {a : List Int} (h : Bits a) (n : Nat) : Bits (a.take n) := fun z hz => h z (List.mem_of_mem_take hz)
theorem bits_drop {a : List Int} (h : Bits a) (n : Nat) : Bits (a.drop n) := fun z hz => h z (List.mem_of_mem_drop hz)
theorem seal_bits (ns : List Int) : Bits (sealL ns) := wr_bits _ _
theorem seal_len (ns : List Int) : (sealL ns).length = 16 := wr_len _ _
theorem cut_to_n (xs : List V) (n : Nat) : cutV xs none (some (n : Int)) = xs.take n := by
  unfold cutV
  rw [HT.sIx_none, HT.sIx_nat, List.drop_zero, Nat.sub_zero]
  by_cases h : n ≤ xs.length
  · rw [Nat.min_eq_left h]
  · rw [Nat.min_eq_right (by omega), List.take_of_length_le (Nat.le_refl _), List.take_of_length_le (by omega)]
theorem cut_from_n (xs : List V) (n : Nat) : cutV xs (some (n : Int)) none = xs.drop n := by
  unfold cutV
  rw [HT.sIx_none, HT.sIx_nat]
  by_cases h : n ≤ xs.length
  · rw [Nat.min_eq_left h]
    exact List.take_of_length_le (by simp)
  · rw [Nat.min_eq_right (by omega), List.drop_of_length_le (Nat.le_refl _), List.drop_of_length_le (by omega)]
    exact List.take_nil
theorem sIx_back (l d n : Nat) (h : 0 < n) : HT.sIx l d (some (-(n : Int))) = l - n := by
  show (if -(n : Int) < 0 then (-(n : Int) + (l : Int)).toNat else min (-(n : Int)).toNat l) = l - n
  rw [if_pos (by omega)]
  omega
theorem cut_to_b (xs : List V) (n : Nat) (h : 0 < n) : cutV xs none (some (-(n : Int))) = xs.take (xs.length - n) := by
  unfold cutV
  rw [HT.sIx_none, sIx_back _ _ n h, List.drop_zero, Nat.sub_zero]
theorem cut_from_b (xs : List V) (n : Nat) (h : 0 < n) : cutV xs (some (-(n : Int))) none = xs.drop (xs.length - n) := by
  unfold cutV
  rw [HT.sIx_none, sIx_back _ _ n h]
  exact List.take_of_length_le (by simp)
theorem sz4 {n : Nat} (h : n ≤ 100000) : n ≤ sizeLine := Nat.le_trans h (by decide)
theorem sz4l {n : Nat} (h : n < 100000) : n < sizeLine := Nat.lt_of_lt_of_le h (by decide)
theorem holds_sealed {ns : List Int} : holdsB (ns ++ sealL ns) = true := by
  unfold holdsB
  have l : (ns ++ sealL ns).length = ns.length + 16 := by rw [List.length_append, seal_len]
  rw [l, Nat.add_sub_cancel, List.take_left, List.drop_left]
  simp
theorem holds_short {ns : List Int} (h : ns.length < 16) : holdsB ns = false := by
  unfold holdsB
  rw [decide_eq_false (by omega), Bool.false_and]
theorem inV_ints (z : Int) : ∀ ks : List Int, inV (.int z) (ks.map V.int) = decide (z ∈ ks)
  | [] => rfl
  | k :: r => by
    show ((k == z) || inV (.int z) (r.map V.int)) = _
    rw [inV_ints z r]
    by_cases h : z = k
    · subst h
      simp
    · have h2 : (k == z) = false := by simpa using fun e => h e.symm
      rw [h2, Bool.false_or]
      exact decide_eq_decide.mpr ⟨fun hm => .tail _ hm, fun hm => (List.mem_cons.mp hm).elim (fun e => absurd e h) (fun e => e)⟩
def isB (b : Int) : Prop := b = 0 ∨ b = 1
theorem bits_cons {b : Int} {r : List Int} (h : Bits (b :: r)) : isB b ∧ Bits r := ⟨h b (.head _), fun z hz => h z (.tail _ hz)⟩
theorem getI {ns : List Int} {i : Nat} {y : V} (h : (ns.map V.int)[i]? = some y) : ∃ z, ns[i]? = some z ∧ y = V.int z := by
  rw [List.getElem?_map] at h
  cases e : ns[i]? with
  | none => rw [e] at h; cases h
  | some z => rw [e] at h; exact ⟨z, rfl, (Option.some.inj h).symm⟩
end WB
namespace WB
open PySem PySem.Spec PyProof.Rows L2
/-! ### a class's own function, called by the class: C.m(e, ..) -/
structure ClsFn (K : PySem.W.Frag) (mg : Str → Option Value) (x m : Str) (C f : Addr) : Prop where
  gC : mg x = some (.ref C)
  sg : PySem.W.specialIn K (.ref C) "__getattribute__" = some (some (.builtin "type.__getattribute__"))
  ty : PySem.W.typeIn K (.ref C) = some (.type "type")
  rd : PySem.W.readsIn K C (.type "type") = true
  fc : PySem.W.findCls K (.ref C) (.type "type") m = some (.val (.ref f))
  hd : PySem.W.handedIn (.ref f) = true
  kp : PySem.W.keepIn K (.ref f) = true
section
variable {X : Cx} {CX : CXT} {k : Nat} {f C : Addr} {fd : FuncData} {ps : List Str} {sp : Sp} {E : XK} {x m : Str} {p1 p2 pos : Pos} {e : Expr} {es : List Expr} {t : TA}
theorem pe_clsfn {pl : Sem Bool} (T : ClsFn X.K X.mg x m C f) (F : FnOk X.prog X.w X.K X.mg X.base CX k f fd ps sp) (hr : Room k X.A) (hb : Binds X.K fd ps []) (hx : Passes CX X E) (hg : Gl X x) (ha : PA X (e :: es) t)
    (hc : eval (.Call (.Attribute (.Name x p1) m p2) (e :: es) [] pos) X.env = (do
      let ov ← eval (.Name x p1) X.env
      standAt p2.atName
      let (f, first) ← holding [ov] (getMethod ov m pl)
      callWith pos f first (backTo pos (starEach (e :: es) X.env)) (backToKw pos (keywordEach [] X.env))) := by rfl)
    (hdb : (x == ("__debug__" : Str)) = false := by decide) (he : starEach (e :: es) X.env = (false, eval e X.env) :: starEach es X.env := by rfl) (hpl : (backTo pos (starEach es X.env)).any (·.1) = false := by rfl) :
    PE X (.Call (.Attribute (.Name x p1) m p2) (e :: es) [] pos) (tCall sp [] E t) := by
  refine ⟨fun pins s σ H Q I h => ?_⟩
  refine PySem.W.methodCall_KW (ld_glob I hg T.gC ?_ hdb) hc
  obtain ⟨mm, fr⟩ := I.fr
  refine PySem.W.method_of_cls fr I.ok.mod.kin T.sg (PySem.W.cls_val fr I.ok.mod.kin T.ty T.rd T.fc T.hd ?_)
  show wpAny _ _ (callWith pos (Value.ref f) [] (backTo pos (starEach (e :: es) X.env)) []) _ _ _
  refine PySem.W.callWith_K (h₀ := X.base) I.ok.mod.kin T.kp (thn (ha.run pos pins _ σ H _ (I.tok _) h) fun us s1 ⟨vs, H1, I1, r, q⟩ => ⟨I1.kIn, ?_⟩) he hpl
  exact run_fn F hr hb .nil hx I1 r q
end
/-! ### own exceptions -/
/-- LineError.__init__ -/
def spLE (K : PySem.W.Frag) : Sp := fun vs H Q _ => ∃ (a C : Addr) (w t : V), vs = [.ref a, w, t] ∧ OexC K C ∧ PySem.W.findIn K (.ref C) "word" = some none ∧ H a = some (exo a C none) ∧
  ∀ d, H d = none → d ≠ a → Q .non (upd (upd H d (exd d [(("word" : Str), w)])) a (exo a C (some d)))
/-- a class below it, its name, its field -/
def spIni (K : PySem.W.Frag) (C : Addr) (nm fld : Str) : Sp := fun vs H Q _ => ∃ (a : Addr) (i : Int), vs = [.ref a, .int i] ∧ i.natAbs.log2 < 1000 ∧ H a = some (exo a C none) ∧
  ∀ d, H d = none → d ≠ a → Q .non (upd (upd (upd H d (exd d [(("word" : Str), .str nm)])) a (exo a C (some d))) d (exd d [(fld, .int i), (("word" : Str), .str nm)]))
def XcOk (P : Program) (w : World) (K : PySem.W.Frag) (mg : Str → Option Value) (base : Heap) (k : Nat) (nm : Str) (C : Addr) (sp : Sp) : Prop :=
  ∃ (fI : Addr) (fd : FuncData) (ps : List Str), OexC K C ∧ PySem.W.findIn K (.ref C) "__init__" = some (some (.ref fI)) ∧ PySem.W.typeIn K (.ref fI) = some (.type "function") ∧ FnOk P w K mg base CX0 k fI fd ps sp ∧ Binds K fd ps [] ∧ mg nm = some (.ref C)
theorem XcOk.mono {P : Program} {w : World} {K : PySem.W.Frag} {mg : Str → Option Value} {base : Heap} {j k : Nat} {nm : Str} {C : Addr} {sp : Sp} (x : XcOk P w K mg base j nm C sp) (h : j ≤ k) : XcOk P w K mg base k nm C sp := by
  obtain ⟨fI, fd, ps, a, b, c, d, e⟩ := x
  exact ⟨fI, fd, ps, a, b, c, d.mono h, e⟩
section
variable {X : Cx} {k : Nat} {nm : Str} {C : Addr} {sp : Sp} {e : Expr} {es : List Expr} {ta : TA} {p pos : Pos}
theorem pmk_c (x : XcOk X.prog X.w X.K X.mg X.base k nm C sp) (hr : Room (k + 1) X.A) (hg : Gl X nm) (ha : PA X (e :: es) ta) (hdb : (nm == ("__debug__" : Str)) = false := by decide)
    (he : starEach (e :: es) X.env = (false, eval e X.env) :: starEach es X.env := by rfl) (hpl : (backTo pos (starEach es X.env)).any (·.1) = false := by rfl) : PMk X (.Call (.Name nm p) (e :: es) [] pos) (tMkO C sp [] ta) := by
  obtain ⟨fI, fd, ps, a, b, c, d, e1, g⟩ := x
  exact pmk_oex a b c d hr e1 .nil pass0 hg g ha hdb he hpl
end
theorem mk_inner {K : PySem.W.Frag} {C : Addr} {nm fld : Str} {i : Int} {H1 : Hp} {Q : XK} (hi : i.natAbs.log2 < 1000)
    (q : ∀ H' d, Same H1 H' → H1 d = none → H' d = some (.xd [(fld, .int i), (("word" : Str), .str nm)]) → Q (.ref C) (some d) H') :
    ([V.int i] : List V).length ≤ 1000 ∧ ∀ a, H1 a = none → spIni K C nm fld (.ref a :: ([V.int i] ++ [])) (upd H1 a (exo a C none))
      (fun v H2 => v = .non ∧ ∃ (d : Addr) (fs : List (Str × V)), H2 a = some (exo a C (some d)) ∧ H2 d = some (exd d fs) ∧ H1 d = none ∧ Q (.ref C) (some d) (upd (del H2 a) d (.xd fs))) (fun _ _ _ => False) := by
  refine ⟨by show 1 ≤ 1000; decide, fun a na => ⟨a, i, rfl, hi, upd_same, fun d nd da => ⟨rfl, d, [(fld, .int i), (("word" : Str), .str nm)], ?_, upd_same, ?_, ?_⟩⟩⟩
  · rw [upd_ne da.symm, upd_same]
  · rw [upd_ne da] at nd
    exact nd
  · rw [upd_ne da] at nd
    refine q _ d (fun b o h => ?_) nd upd_same
    have hb : b ≠ d := ne_of_none h nd
    have hba : b ≠ a := ne_of_none h na
    rw [upd_ne hb, del_ne hba, upd_ne hb, upd_ne hba, upd_ne hb, upd_ne hba]
    exact h
/-! ### defs that may let an exception out -/
def CalX (P : Program) (w : World) (K : PySem.W.Frag) (mg : Str → Option Value) (base : Heap) (k : Nat) (nm : Str) (ps : List Str) (sp : Sp) : Prop :=
  ∃ (f : Addr) (fd : FuncData), FnOk P w K mg base (L2.CX P w) k f fd ps sp ∧ mg nm = some (.ref f) ∧ PySem.W.keepIn K (.ref f) = true ∧ Binds K fd ps []
theorem CalX.mono {P : Program} {w : World} {K : PySem.W.Frag} {mg : Str → Option Value} {base : Heap} {j k : Nat} {nm : Str} {ps : List Str} {sp : Sp} (c : CalX P w K mg base j nm ps sp) (h : j ≤ k) : CalX P w K mg base k nm ps sp := by
  obtain ⟨f, fd, a, b, d, e⟩ := c
  exact ⟨f, fd, a.mono h, b, d, e⟩
section
variable {X : Cx} {k : Nat} {nm : Str} {ps : List Str} {sp : Sp} {E : XK} {e : Expr} {es : List Expr} {t : TA} {p pos : Pos}
/-- where it lets nothing out -/
theorem pe_callF (c : CalX X.prog X.w X.K X.mg X.base k nm ps sp) (hr : Room k X.A) (hg : Gl X nm) (ha : PA X (e :: es) t) (hdb : (nm == ("__debug__" : Str)) = false := by decide)
    (he : starEach (e :: es) X.env = (false, eval e X.env) :: starEach es X.env := by rfl) (hpl : (backTo pos (starEach es X.env)).any (·.1) = false := by rfl) :
    PE X (.Call (.Name nm p) (e :: es) [] pos) (tCall sp [] E0 t) := by
  obtain ⟨f, fd, a, b, d, g⟩ := c
  exact pe_call a hr hg b d g .nil passL ha hdb he hpl
/-- where what it lets out is taken -/
theorem pe_callP (c : CalX X.prog X.w X.K X.mg X.base k nm ps sp) (hr : Room k X.A) (hx : Passes (L2.CX X.prog X.w) X E) (hg : Gl X nm) (ha : PA X (e :: es) t) (hdb : (nm == ("__debug__" : Str)) = false := by decide)
    (he : starEach (e :: es) X.env = (false, eval e X.env) :: starEach es X.env := by rfl) (hpl : (backTo pos (starEach es X.env)).any (·.1) = false := by rfl) :
    PE X (.Call (.Name nm p) (e :: es) [] pos) (tCall sp [] E t) := by
  obtain ⟨f, fd, a, b, d, g⟩ := c
  exact pe_call a hr hg b d g .nil hx ha hdb he hpl
end
theorem txt_fits {z : Str} {i : Int} (hz : z.length ≤ 1000) (hi : i.natAbs.log2 < 1000) : (z ++ Str.ofString (toString i)).length ≤ sizeLine := by
  have e := PySem.int_text_length_le (k := 1000) (a := i) (by decide) hi
  rw [PySem.Str.length_append, PySem.ofString_length, PySem.sizeLine_eq]
  omega
/-! ### several clauses, each with the name n (slot i) -/
def asEnds (i : Nat) (D : Ends) : Ends := ⟨fun σ' H' => D.nx (σ'.set i none) H', D.rt, fun σ' H' => D.bk (σ'.set i none) H', fun σ' H' => D.ct (σ'.set i none) H'⟩
def wManyA (K : PySem.W.Frag) (i : Nat) (Wo : WX) (D : Ends) : List (Value × (Addr → Value → Option Addr → TS)) → WX
  | [] => Wo
  | (c, ts) :: r => fun cls d σ H => ∃ b, PySem.W.exmOne K cls c = some b ∧ (b = true → ∀ a, H a = none → ts a cls d (asEnds i D) (σ.set i (some (.ref a))) H) ∧ (b = false → wManyA K i Wo D r cls d σ H)
inductive HdsA (X : Cx) (n : Str) : List ExceptHandler → List (Value × (Addr → Value → Option Addr → TS)) → Prop
  | nil : HdsA X n [] []
  | cons {x : Str} {c : Value} {ts : Addr → Value → Option Addr → TS} {st : Stmt} {sts : List Stmt} {q1 q2 : Pos} {hs : List ExceptHandler} {l : List (Value × (Addr → Value → Option Addr → TS))} (hc : Names X x c)
      (hsu : ∀ (a : Addr) (oe : Obj) (cls : Value) (d : Option Addr) (pn : List (Addr × Obj)), Zc cls d oe → (∃ vs, oe.data = .fields vs) → PSs (X.suite a ((a, oe) :: pn)) (st :: sts) (ts a cls d)) (r : HdsA X n hs l) :
      HdsA X n (.ExceptHandler (some (.Name x q1)) (some n) (st :: sts) q2 :: hs) ((c, ts) :: l)
section
variable {X : Cx} {n : Str} {i : Nat} {bd : List Stmt} {h0 : ExceptHandler} {hs : List ExceptHandler} {l : List (Value × (Addr → Value → Option Addr → TS))} {pos : Pos} {tb : WX → TS} {Wo : WX}
theorem ps_try_manyA (hst : X.stack = X.env :: X.outer) (hfm : X.env.frame = some X.env.locals) (hnd : X.N.Nodup) (hni : X.N[i]? = some n) (hnl : X.env.kindOf n = some .local) (tk : Takes X Wo)
    (hb : ∀ (W : WX) (pn : List (Addr × Obj)) (xe : Value → Shared → Prop), Takes (X.tr pn xe) W → PassesOwn (model X.prog X.w) X.A X.env xe → PSs (X.tr pn xe) bd (tb W))
    (hh : HdsA X n (h0 :: hs) l) : PS X (.Try bd (h0 :: hs) [] [] pos) (fun D σ H => tb (wManyA X.K i Wo D l) D σ H) := by
  refine ⟨fun pins s σ H D I hw => ?_⟩
  have kk := I.ok
  have hfr2 : X.A.frames = some (X.env :: X.outer) := kk.frames.trans (congrArg some hst)
  have hlo : Loc X.env.scope n := Or.inl hnl
  refine wpAny_Try_except (wpAny_mono ((hb (wManyA X.K i Wo D l) (X.pn ++ pins) (fun e z1 => wpAny (model X.prog X.w) X.A (noteFrame e X.env) (fun _ z2 => wpAny (model X.prog X.w) X.A (setFlight e none) (fun _ z3 =>
    wpAny (model X.prog X.w) X.A (handleBy e X.env (h0 :: hs)) (SP X pins D) X.xe z3) X.xe z2) X.xe z1) (fun u z' xx => ?_) PassesOwn.looking).run [] s σ H D (I.toTry _) hw) (fun fl z1 hsp => ?_) (fun _ _ y => y))
  · obtain ⟨a, B, sI, pins', τ, G, cls, d, rfl, J', nb, up, sky, na, hos, hag, wch⟩ := xx
    have J : Inv X pins τ G sI := J'.ofTry kk
    have sky2 : Sky B (X.env :: X.outer) a (Zc cls d) X.env.locals z'.heap := hst ▸ sky
    refine Sky.land Zc.steady hfr2 hfm sky2 fun g3 fl3 up3 => ?_
    have J3 : Inv X pins τ G { z' with heap := g3 } := J.landed nb fl3.1 (up.trans up3) hos hag
    obtain ⟨o3, v3, he3, hz3, hd3⟩ := fl3.there
    have nin : a ∉ frs (X.env :: X.outer) := fun hm => by
      obtain ⟨_, o', e', hnf⟩ := fl3.2.2.1.mem hm
      rw [he3] at e'; cases e'; exact hnf _ hd3
    have nL : a ≠ X.env.locals := fun y => nin (List.mem_filterMap.mpr ⟨X.env, List.mem_cons_self, hfm.trans (congrArg some y.symm)⟩)
    have nF : a ∉ X.fs := fun hm => by
      obtain ⟨e, he, y⟩ := List.mem_filterMap.mp hm
      exact nin (List.mem_filterMap.mpr ⟨e, List.mem_cons_of_mem _ he, y⟩)
    have S3 := J3.suite he3 hd3 na nL nF
    have go : ∀ {hs' : List ExceptHandler} {l' : List (Value × (Addr → Value → Option Addr → TS))}, HdsA X n hs' l' → wManyA X.K i Wo D l' cls d τ G → wpAny (model X.prog X.w) X.A (handleBy (.ref a) X.env hs') (SP X pins D) X.xe { z' with heap := g3 } := by
      intro hs' l' hk
      induction hk with
      | nil =>
        intro wch
        obtain ⟨k1, k2, k3, oe, vs, T, oT, ts', he, hz, hd, h1, hr⟩ := id fl3
        refine wpAny_handleBy_nil ?_
        unfold PySem.passOn
        refine wpAny_bind (wpAny_field he hd h1 ?_)
        have fin : wpAny (model X.prog X.w) X.A (setFlight (.ref a) X.env.frame) (fun _ z4 => wpAny (model X.prog X.w) X.A (throw (.ref a) : Sem Flow) (SP X pins D) X.xe z4) X.xe { z' with heap := g3 } := by
          rw [hfm]
          exact HandSPX.setFlight_upZ fl3 fun h4 hh4 up4 => wpAny_throw (tk _ _ ⟨a, B, sI, pins, τ, G, cls, d, rfl, J, nb, (up.trans up3).trans up4, .inr (.inr (hst ▸ hh4)), na, hos, hag, wch⟩)
        rw [if_neg (by simp : ¬ ((Value.ref T == Value.none) = true))]
        first | exact wpAny_bind (wpAny_pure (wpAny_bind fin)) | exact wpAny_bind fin
      | @cons x c ts st sts q1 q2 hs2 l2 hc hsu r ih =>
        intro wch
        obtain ⟨b, hb1, yes, no⟩ := wch
        refine wpAny_handleBy_cons (codeAny_handlers_test ?_) (fun y => by cases y)
        have LT : PySem.W.Looks (model X.prog X.w) g3 (typeOf (.ref a)) cls := fun A Q E s k q => wpAny_typeOf_ref (k _ _ he3) (hz3.1.symm ▸ q)
        have LM := PySem.W.exm_one (M := model X.prog X.w) J3.kIn LT hb1
        have tst : ∀ {Q : Value → Shared → Prop} {E : Value → Shared → Prop}, Q c { z' with heap := g3 } → wpAny (model X.prog X.w) (X.A.mark (some (.ref a))) (eval (.Name x q1) X.env) Q E { z' with heap := g3 } := fun {Q E} y => by
          rcases hc with ⟨hg, hdb, hm | ⟨hm, hv, hnn⟩⟩
          · exact ld_glob (X := X.suite a ((a, o3) :: (X.pn ++ pins))) S3 hg hm y hdb
          · exact ld_blt (X := X.suite a ((a, o3) :: (X.pn ++ pins))) S3 hg hm hv y hnn hdb
        refine tst (LM.here ?_)
        cases b with
        | false => exact ih (no rfl)
        | true =>
          refine codeAny_handlers_suite_as (HandSPX.lands_againZ fl3 fun g4 fl4 up4 => ?_)
          have J4 : Inv X pins τ G { z' with heap := g4 } := J.landed nb fl4.1 ((up.trans up3).trans up4) hos hag
          obtain ⟨o4, v4, he4, hz4, hd4⟩ := fl4.there
          refine store_ok (X := X.suite a ((a, o4) :: (X.pn ++ pins))) (v := .ref a) (J4.suite he4 hd4 na nL nF) hnd hni hlo rfl (fun s5 S5 => ?_) (.inr hnl)
          refine wpAny_mono ((hsu a o4 cls d (X.pn ++ pins) hz4 ⟨_, hd4⟩).run [] s5 _ G _ S5 (yes rfl a na)) (fun fl z6 hsp => ?_) (fun _ _ y => y.elim)
          have over : ∀ {τ6 : L2.St} {G6 : Hp} {R : Shared → Prop}, Inv (X.suite a ((a, o4) :: (X.pn ++ pins))) [] τ6 G6 z6 → (∀ z7, Inv X pins (τ6.set i none) G6 z7 → R z7) →
              wpAny (model X.prog X.w) X.A (do bindName X.env n .none; unbindBehindTheSuite X.env n q2) (fun _ z7 => R z7) X.xe z6 := fun S6 hq => gone_ok (S6.unsuite kk) hnd hni hnl hq
          cases fl with
          | next => obtain ⟨τ6, G6, S6, q6⟩ := hsp; exact over S6 fun z7 J7 => ⟨_, _, J7, q6⟩
          | brk => obtain ⟨τ6, G6, S6, q6⟩ := hsp; exact over S6 fun z7 J7 => ⟨_, _, J7, q6⟩
          | cont => obtain ⟨τ6, G6, S6, q6⟩ := hsp; exact over S6 fun z7 J7 => ⟨_, _, J7, q6⟩
          | ret u => obtain ⟨v6, τ6, G6, S6, r6, q6⟩ := hsp; exact over S6 fun z7 J7 => ⟨_, _, _, J7, r6, q6⟩
    exact go hh wch
  · cases fl with
    | next => obtain ⟨τ, G, J', q⟩ := hsp; exact wpAny_execs_nil ⟨τ, G, J'.ofTry kk, q⟩
    | brk => obtain ⟨τ, G, J', q⟩ := hsp; exact ⟨τ, G, J'.ofTry kk, q⟩
    | cont => obtain ⟨τ, G, J', q⟩ := hsp; exact ⟨τ, G, J'.ofTry kk, q⟩
    | ret u => obtain ⟨v, τ, G, J', r, q⟩ := hsp; exact ⟨v, τ, G, J'.ofTry kk, r, q⟩
end
/-! ### what a law with lambdas knows of the heap: the bag at b, the tables T, these lists -/
/-- all that is no list stays -/
def NL (H H' : Hp) : Prop := ∀ a o, H a = some o → (∀ xs, o ≠ .lst xs) → H' a = some o
theorem tabs_nl {T : List (Addr × Str)} {H H' : Hp} (t : LamX.Tabs T H) (h : NL H H') : LamX.Tabs T H' := fun p hp => by
  obtain ⟨ps, h1, h2, h3⟩ := t p hp
  refine ⟨ps, h _ _ h1 (fun xs z => by cases z), h2, fun pos cv hc => ?_⟩
  obtain ⟨c, e1, e2⟩ := h3 pos cv hc
  exact ⟨c, e1, h _ _ e2 (fun xs z => by unfold LamX.CodeO at z; cases z)⟩
structure ST (b : Addr × Addr) (T : List (Addr × Str)) (H : Hp) (L : List (Addr × List V)) : Prop where
  bag : Bag b H
  nb : ∀ p ∈ L, p.1 ≠ b.1 ∧ p.1 ≠ b.2
  kn : ∀ p ∈ L, H p.1 = some (.lst p.2)
  tab : LamX.Tabs T H
section
variable {b : Addr × Addr} {T : List (Addr × Str)} {p : Addr} {H H' : Hp} {L L' : List (Addr × List V)} {o o' : List V}
theorem ST.same (h : ST b T H L) (s : Same H H') : ST b T H' L := ⟨h.bag.same s, h.nb, fun q hq => s _ _ (h.kn q hq), h.tab.ext s⟩
theorem ST.mv (h : ST b T H L) (m : Mv b.1 H H') (g : Bag b H') : ST b T H' L := ⟨g, h.nb, fun q hq => m _ _ (h.nb q hq).1 (h.kn q hq), tabs_nl h.tab (fun a o e n => m a o (fun z => by
  obtain ⟨_, _, _, _, _, h1, _⟩ := h.bag
  rw [z, h1] at e
  exact n _ (Option.some.inj e).symm) e)⟩
theorem ST.add (h : ST b T H L) (n : p ≠ b.1) (n2 : p ≠ b.2) (e : H p = some (.lst o)) : ST b T H ((p, o) :: L) :=
  ⟨h.bag, fun q hq => (List.mem_cons.mp hq).elim (fun z => by rw [z]; exact ⟨n, n2⟩) (h.nb q), fun q hq => (List.mem_cons.mp hq).elim (fun z => by rw [z]; exact e) (h.kn q), h.tab⟩
theorem ST.new (h : ST b T H L) (n : H p = none) : ST b T (upd H p (.lst o)) ((p, o) :: L) := (h.same (same_upd n)).add (h.bag.ne n) (h.bag.ne2 n) upd_same
theorem ST.newS (h : ST b T H L) (s : Same H H') (n : H p = none) (e : H' p = some (.lst o)) : ST b T H' ((p, o) :: L) := (h.same s).add (h.bag.ne n) (h.bag.ne2 n) e
theorem ST.newM (h : ST b T H L) (m : Mv b.1 H H') (g : Bag b H') (n : H p = none) (e : H' p = some (.lst o)) : ST b T H' ((p, o) :: L) := (h.mv m g).add (h.bag.ne n) (h.bag.ne2 n) e
theorem ST.sub (h : ST b T H L) (hs : ∀ q ∈ L', q ∈ L) : ST b T H L' := ⟨h.bag, fun q hq => h.nb q (hs q hq), fun q hq => h.kn q (hs q hq), h.tab⟩
theorem ST.get (h : ST b T H L) (hm : (p, o) ∈ L) : H p = some (.lst o) := h.kn _ hm
theorem ST.ne (h : ST b T H L) (hm : (p, o) ∈ L) : p ≠ b.1 := (h.nb _ hm).1
theorem ST.put (h : ST b T H ((p, o) :: L)) (hd : ∀ q ∈ L, q.1 ≠ p) : ST b T (upd H p (.lst o')) ((p, o') :: L) :=
  ⟨h.bag.upd (h.nb _ (.head _)).1 (h.nb _ (.head _)).2, fun q hq => (List.mem_cons.mp hq).elim (fun z => by rw [z]; exact h.nb (p, o) (.head L)) (fun hq => h.nb q (.tail _ hq)),
    fun q hq => (List.mem_cons.mp hq).elim (fun z => by rw [z]; exact upd_same) (fun hq => by rw [upd_ne (hd q hq)]; exact h.kn q (.tail _ hq)), tabs_nl h.tab (fun a u e n => by
      have e2 := h.kn (p, o) (.head _)
      rw [upd_ne (fun z => by rw [z, e2] at e; exact n _ (Option.some.inj e).symm)]
      exact e)⟩
theorem ST.apart (h : ST b T H L) (n : H p = none) : ∀ q ∈ L, q.1 ≠ p := fun q hq => ne_of_none (h.kn q hq) n
theorem ST.nil (g : Bag b H) (t : LamX.Tabs T H) : ST b T H [] := ⟨g, (fun _ h => absurd h List.not_mem_nil), (fun _ h => absurd h List.not_mem_nil), t⟩
theorem ST.extN (h : ST b T H L) (e : LamX.ExtN H H') (t : LamX.Tabs T H') : ST b T H' L := by
  refine ⟨?_, h.nb, fun q hq => e _ _ (h.kn q hq) (fun ps z => by cases z), t⟩
  obtain ⟨ns, i, r, x, c, h1, h2, h3⟩ := h.bag
  exact ⟨ns, i, r, x, c, e _ _ h1 (fun ps z => by cases z), e _ _ h2 (fun ps z => by cases z), h3⟩
end
/-! ### takes, where the slots are as many as the names -/
theorem takes_len {X : Cx} {W : WX} (tk : Takes X W) : Takes X (fun cls d σ H => σ.length = X.N.length → W cls d σ H) := fun u s' x => by
  obtain ⟨a, B, sI, pins, σ, H, cls, d, e, I, nb, up, sky, na, os, ag, w⟩ := x
  exact tk u s' ⟨a, B, sI, pins, σ, H, cls, d, e, I, nb, up, sky, na, os, ag, w I.len⟩
/-- what the law's at makes of a lambda that is refused by one of these classes -/
def TAt (cs : List (Addr × Str)) : (XK → Hp → VK → Prop) → Hp → VK → Prop := fun tl H Q =>
  tl (fun cls d H' => ∃ e ∈ cs, cls = .ref e.1 ∧ ∃ (dd : Addr) (v : V), d = some dd ∧ H' dd = some (.xd [(("at" : Str), v), (("word" : Str), .str e.2)]) ∧ ∀ p, H' p = none → Q (.ref p) (upd H' p (.lst [.str e.2, v]))) H (fun _ _ => False)
/-- a class of refusals with a place -/
structure AtC (K : PySem.W.Frag) (mg : Str → Option Value) (nm : Str) (C : Addr) : Prop where
  gC : mg nm = some (.ref C)
  xf : XfC K C
  no : PySem.W.findIn K (.ref C) "at" = some none
theorem set_get {σ : L2.St} {i : Nat} {v : Option V} (h : i < σ.length) : (σ.set i v)[i]? = some v := by
  rw [List.getElem?_set_self h]
/-! ### a law that hands lambdas to a def -/
def LamTo (X : Cx) (T : List (Addr × Str)) (nm : Str) (TT : (XK → Hp → VK → Prop) → Hp → VK → Prop) : Prop :=
  ∀ {params : Arguments} {body : Expr} {scope : Scope} {t : XK → TE} {p lpos pos : Pos} {k : Nat}, Room (k + 2) X.A → LamX.LamS X.env.scope scope → defaultsOf params X.env = ([], []) →
    (∀ (q : Str) (cl : List (Str × Addr)) (pm cv ctv : Value), bindArgs (PySem.W.kla_fn "<lambda>" q params body scope cl pm cv ctv) ⟨[], []⟩ = pure []) →
    (∀ (A : Around) (outer : List Env) (s : Shared) (H : Hp) (E : XK) (f c' : Addr), Room k (A.deeper (LamX.lamEnv X scope s.heap.objs.size f c')) → PE (LamX.lamCx X A outer s H E scope f c') body (t E)) →
    PE X (.Call (.Name nm p) [.Lambda params body scope lpos] [] pos) (LamX.tLam T TT t)
theorem okL {P : Program} {w : World} {K : PySem.W.Frag} {mg : Str → Option Value} {base : Heap} {x qual : Str} {st : Stmt} {f c : Addr} {N ps : List Str} {k : Nat} {sp : Sp} {oc : Value} {od an : Option Addr} {osl : Array (Option Value)} {kV doc pm ct : Value}
    (lk : K.lookup f = some ⟨oc, od, .func (PySem.W.fnOf x qual (defArgs st) (defBody st) (defScope st) .none kV doc pm an (.ref c) ct), osl⟩) (hcd : PySem.W.codeIn K (.ref c) qual = true) (S : FnScope N ps (defScope st)) (len : ∀ vs H Q E, sp vs H Q E → vs.length = ps.length)
    (hbody : ∀ (A : Around) (outer : List Env) (s : Shared) (H : Hp) (vs : List V) (Q : VK) (E : XK), Room k (A.deeper (envOfC qual (defScope st) s.heap.objs.size f (.ref c))) → sp vs H Q E →
      ∃ t, PSs (cxOf CX0 P w K mg base N qual (defScope st) f (.ref c) A outer s H E).nox (defBody st) t ∧ t { nx := fun _ H' => Q .non H', rt := Q } (L2.start N vs) H) :
    FnOk P w K mg base CX0 (k + 1) f (PySem.W.fnOf x qual (defArgs st) (defBody st) (defScope st) .none kV doc pm an (.ref c) ct) ps sp := by
  refine fn_of lk hcd S len fun A outer s H vs Q E hr hsp => ?_
  obtain ⟨t, h, q⟩ := hbody A outer s H vs Q E hr hsp
  exact ⟨t, h.nox, q⟩
/-! ### a class of refusals without a value -/
def spIni0 (K : PySem.W.Frag) (C : Addr) (nm : Str) : Sp := fun vs H Q _ => ∃ (a : Addr), vs = [.ref a] ∧ H a = some (exo a C none) ∧ ∀ d, H d = none → d ≠ a → Q .non (upd (upd H d (exd d [(("word" : Str), .str nm)])) a (exo a C (some d)))
section
variable {X : Cx} {k : Nat} {nm : Str} {C : Addr} {sp : Sp} {p pos : Pos}
theorem pmk_c0 (x : XcOk X.prog X.w X.K X.mg X.base k nm C sp) (hr : Room (k + 1) X.A) (hg : Gl X nm) (hdb : (nm == ("__debug__" : Str)) = false := by decide) : PMk X (.Call (.Name nm p) [] [] pos) (tMkO C sp [] tNil) := by
  obtain ⟨fI, fd, ps, T, iC, tI, F1, hb, hm⟩ := x
  intro pins s σ H Q I h
  obtain ⟨nm', q, N, bs, bm, sn, sub, ab, col, dd, k0, k1, k2, k3, k5, hC, hbm⟩ := T.cls
  refine wpAny_Call_Name_kw (ld_glob I hg hm ?_ hdb)
  refine PySem.W.callWith_K0 I.kIn T.kC ?_
  show wpAny _ _ (call (.ref C) []) _ _ _
  have q1 : ∀ a, H a = none → sp (.ref a :: ([] ++ [])) (upd H a (exo a C none)) _ _ := h.2
  obtain ⟨hp, g, dr, tk, os⟩ := s
  have hsz : hp.objs.size ≤ hp.objs.size + 1 := Nat.le_succ _
  have hq := q1 (hp.objs.size + 1) (I.hok.fresh hsz)
  have kk : ∀ b o, hp.get? b = some o → ((hp.push (PySem.W.kdv_tup [])).push (PySem.HandSPX.excO C hp.objs.size)).get? b = some o := fun b o e => Heap.get?_push_of_some _ (Heap.get?_push_of_some _ e)
  have hget : ((hp.push (PySem.W.kdv_tup [])).push (PySem.HandSPX.excO C hp.objs.size)).get? (hp.objs.size + 1) = some (PySem.HandSPX.excO C hp.objs.size) := by heap_get
  have I2 : Inv X pins σ (upd H (hp.objs.size + 1) (exo (hp.objs.size + 1) C none)) ⟨(hp.push (PySem.W.kdv_tup [])).push (PySem.HandSPX.excO C hp.objs.size), g, dr, tk, os⟩ :=
    I.laid (t' := tk) (a := hp.objs.size + 1) (o := exo (hp.objs.size + 1) C none) (h' := (hp.push (PySem.W.kdv_tup [])).push (PySem.HandSPX.excO C hp.objs.size)) kk hsz (exo_ok hget)
  have r2 : Vals [V.ref (hp.objs.size + 1)] [Value.ref (hp.objs.size + 1)] := .cons rfl .nil
  have hl : ([Value.ref (hp.objs.size + 1)] ++ []).length = ps.length := (F1.len _ _ _ _ hq)
  refine wpAny_call (PySem.HandSPX.call_own F.excBase_ValueError (fun Y => PySem.HandSPX.refsVE_contains Y bm hbm) (I.kIn _ _ hC) (PySem.W.looks_findIn I.kIn iC) (fun self => PySem.W.bind_fn I.kIn self tI) (Nat.zero_le _)
    (codeAny_mono (F1.run _ X.stack _ _ ⟨[Value.ref (hp.objs.size + 1)], []⟩ [Value.ref (hp.objs.size + 1)] _ _ (fun _ _ _ => False) (hr.make C [] []) (I2.env0.make C [] []) (hb _ [Value.ref (hp.objs.size + 1)] I2.kIn hl) r2 hq) fun r s' hq' => ?_))
  cases r with
  | error er => exact (show False from hq').elim
  | ok fl =>
    cases fl with
    | ret u =>
      obtain ⟨v, H2, os2, bare2, un2, hok2, rv, ev, d, fs, ea, ed, hd1, q2⟩ := hq'
      subst ev
      obtain ⟨h2, g2, d2, t2, os'⟩ := s'
      exact ⟨rv, mk_end (raises_own T.exC T.tyC) I hsz kk un2 hok2 os2 bare2 ea ed hd1 q2⟩
    | next => exact False.elim hq'
    | brk => exact False.elim hq'
    | cont => exact False.elim hq'
end
theorem mk_inner0 {K : PySem.W.Frag} {C : Addr} {nm : Str} {H1 : Hp} {Q : XK}
    (q : ∀ H' d, Same H1 H' → H1 d = none → H' d = some (.xd [(("word" : Str), .str nm)]) → Q (.ref C) (some d) H') :
    ([] : List V).length ≤ 1000 ∧ ∀ a, H1 a = none → spIni0 K C nm (.ref a :: (([] : List V) ++ [])) (upd H1 a (exo a C none))
      (fun v H2 => v = .non ∧ ∃ (d : Addr) (fs : List (Str × V)), H2 a = some (exo a C (some d)) ∧ H2 d = some (exd d fs) ∧ H1 d = none ∧ Q (.ref C) (some d) (upd (del H2 a) d (.xd fs))) (fun _ _ _ => False) := by
  refine ⟨Nat.zero_le _, fun a na => ⟨a, rfl, upd_same, fun d nd da => ⟨rfl, d, [(("word" : Str), .str nm)], upd_same, ?_, ?_, ?_⟩⟩⟩
  · rw [upd_ne da, upd_same]
  · rw [upd_ne da] at nd
    exact nd
  · rw [upd_ne da] at nd
    refine q _ d (fun b o h => ?_) nd upd_same
    have hb : b ≠ d := ne_of_none h nd
    have hba : b ≠ a := ne_of_none h na
    rw [upd_ne hb, del_ne hba, upd_ne hba, upd_ne hb, upd_ne hba]
    exact h
/-- what the law's tried makes of a lambda: told, or refused by the class at C, whose word it tells -/
def TTried (C : Addr) (nm : Str) : (XK → Hp → VK → Prop) → Hp → VK → Prop := fun tl H Q =>
  tl (fun cls d H' => cls = .ref C ∧ ∃ (dd : Addr) (fs : List (Str × V)), d = some dd ∧ H' dd = some (.xd fs) ∧ fs.lookup ("word" : Str) = some (.str nm) ∧ ∀ p, H' p = none → Q (.ref p) (upd H' p (.tup [.str "refused", .str nm]))) H
    (fun v H1 => ([V.str "told", v] : List V).length ≤ sizeLine ∧ ∀ p, H1 p = none → Q (.ref p) (upd H1 p (.tup [.str "told", v])))
/-! ### a def called by keywords alone -/
def gK {α : Type} (perm : List α → List α) : List α → List α → List α
  | [], ws => perm ws
  | _ :: _, _ => []
section
variable {X : Cx} {CX : CXT} {k : Nat} {f : Addr} {fd : FuncData} {ps ks : List Str} {sp : Sp} {E : XK} {x : Str} {p pos : Pos} {kws : List Keyword} {tk : TA} {g : List Value → List Value → List Value} {gV : List V → List V → List V}
theorem pe_callK0 (F : FnOk X.prog X.w X.K X.mg X.base CX k f fd ps sp) (hr : Room k X.A) (hg : Gl X x) (hm : X.mg x = some (.ref f)) (hk : PySem.W.keepIn X.K (.ref f) = true) (hb : KBinds X.K fd ps ks g gV) (hx : Passes CX X E) (hkw : PK X kws tk)
    (hall : ((backToKw pos (keywordEach kws X.env)).all fun x => x.1.isSome) = true := by rfl) (hks : (backToKw pos (keywordEach kws X.env)).filterMap (·.1) = ks := by rfl) (hdb : (x == ("__debug__" : Str)) = false := by decide)
    (hpl : ((backTo pos (starEach [] X.env)).any (·.1) || (backToKw pos (keywordEach kws X.env)).any fun x => x.1.isNone) = false := by rfl) : PE X (.Call (.Name x p) [] kws pos) (tCallK sp gV E tNil tk) := by
  refine ⟨fun pins s σ H Q I h => wpAny_Call_Name_kw (ld_glob I hg hm ?_ hdb)⟩
  refine PySem.W.callWith_KW0 (I.ok.mod.kin) hk hall (thn (hkw.run pos pins s σ H (fun zs H2 => sp (gV [] zs) H2 Q E) I h) fun ws s2 x => ?_) hpl
  obtain ⟨zs, H2, I2, rz, q2⟩ := x
  refine ⟨I2.kIn, ?_⟩
  rw [hks]
  exact run_fnk F hr hb hx I2 .nil rz q2
end
def CalK (P : Program) (w : World) (K : PySem.W.Frag) (mg : Str → Option Value) (base : Heap) (k : Nat) (nm : Str) (ps ks : List Str) (gV : List V → List V → List V) (sp : Sp) : Prop :=
  ∃ (f : Addr) (fd : FuncData) (g : List Value → List Value → List Value), FnOk P w K mg base (L2.CX P w) k f fd ps sp ∧ mg nm = some (.ref f) ∧ PySem.W.keepIn K (.ref f) = true ∧ KBinds K fd ps ks g gV
theorem CalK.mono {P : Program} {w : World} {K : PySem.W.Frag} {mg : Str → Option Value} {base : Heap} {j k : Nat} {nm : Str} {ps ks : List Str} {gV : List V → List V → List V} {sp : Sp} (c : CalK P w K mg base j nm ps ks gV sp) (h : j ≤ k) : CalK P w K mg base k nm ps ks gV sp := by
  obtain ⟨f, fd, g, a, b, d, e⟩ := c
  exact ⟨f, fd, g, a.mono h, b, d, e⟩
section
variable {X : Cx} {k : Nat} {ps ks : List Str} {sp : Sp} {nm : Str} {p pos : Pos} {kws : List Keyword} {tk : TA} {gV : List V → List V → List V}
theorem pe_callKF (c : CalK X.prog X.w X.K X.mg X.base k nm ps ks gV sp) (hr : Room k X.A) (hg : Gl X nm) (hkw : PK X kws tk)
    (hall : ((backToKw pos (keywordEach kws X.env)).all fun x => x.1.isSome) = true := by rfl) (hks : (backToKw pos (keywordEach kws X.env)).filterMap (·.1) = ks := by rfl) (hdb : (nm == ("__debug__" : Str)) = false := by decide)
    (hpl : ((backTo pos (starEach [] X.env)).any (·.1) || (backToKw pos (keywordEach kws X.env)).any fun x => x.1.isNone) = false := by rfl) : PE X (.Call (.Name nm p) [] kws pos) (tCallK sp gV E0 tNil tk) := by
  obtain ⟨f, fd, g, a, b, d, e⟩ := c
  exact pe_callK0 a hr hg b d e passL hkw hall hks hdb hpl
end
def two {α : Type} : List α → List α
  | [a, b] => [b, a]
  | _ => []
theorem kb_one {K : PySem.W.Frag} {x qual y : Str} {st : Stmt} {f : Addr} {fd : FuncData} (F : Fun K x qual st f fd) (h : ∀ (kV doc pm : Value) (an : Option Addr) (cdv ct : Value) (u : Value), bindArgs (PySem.W.fnOf x qual (defArgs st) (defBody st) (defScope st) .none kV doc pm an cdv ct) ⟨[], [(y, u)]⟩ = pure [(y, u)]) :
    KBinds K fd [y] [y] (gK id) (gK id) := by
  refine ⟨fun s us ws X hl M A E Q q => ?_, fun {vs us zs ws} r rz => ?_⟩
  · obtain ⟨oc, od, kV, doc, pm, an, cdv, ct, osl, rfl, _⟩ := F.ex
    cases us with
    | cons _ _ => exact absurd hl (by show 0 ≠ 1; decide)
    | nil =>
      match ws, hl with
      | [u], _ =>
        show wpAny M A (bindArgs _ ⟨[], [(y, u)]⟩) Q E s
        rw [h]
        exact wpAny_pure q
  · cases r with
    | nil => exact rz
    | cons _ _ => exact .nil
theorem kb_two {K : PySem.W.Frag} {x qual y z : Str} {st : Stmt} {f : Addr} {fd : FuncData} (F : Fun K x qual st f fd) (h : ∀ (kV doc pm : Value) (an : Option Addr) (cdv ct : Value) (u v : Value), bindArgs (PySem.W.fnOf x qual (defArgs st) (defBody st) (defScope st) .none kV doc pm an cdv ct) ⟨[], [(z, u), (y, v)]⟩ = pure [(y, v), (z, u)]) :
    KBinds K fd [y, z] [z, y] (gK two) (gK two) := by
  refine ⟨fun s us ws X hl M A E Q q => ?_, fun {vs us zs ws} r rz => ?_⟩
  · obtain ⟨oc, od, kV, doc, pm, an, cdv, ct, osl, rfl, _⟩ := F.ex
    cases us with
    | cons _ _ => exact absurd hl (by show 0 ≠ 2; decide)
    | nil =>
      match ws, hl, q with
      | [], hl, q => exact absurd hl (by show 0 ≠ 2; decide)
      | [_], hl, q => exact absurd hl (by show 0 ≠ 2; decide)
      | [u, v], _, q =>
        show wpAny M A (bindArgs _ ⟨[], [(z, u), (y, v)]⟩) Q E s
        rw [h]
        exact wpAny_pure q
      | _ :: _ :: _ :: _, hl, q => exact absurd hl (by show 0 ≠ 2; decide)
  · cases r with
    | cons _ _ => exact .nil
    | nil =>
      cases rz with
      | nil => exact .nil
      | cons a r => cases r with
        | nil => exact .nil
        | cons b r => cases r with
          | nil => exact .cons b (.cons a .nil)
          | cons _ _ => exact .nil
/-- what the law's most makes of a lambda that is refused by the class at C -/
def TMost (C : Addr) (nm : Str) : (XK → Hp → VK → Prop) → Hp → VK → Prop := fun tl H Q =>
  tl (fun cls d H' => cls = .ref C ∧ ∃ (dd : Addr) (v : V), d = some dd ∧ H' dd = some (.xd [(("most" : Str), v), (("word" : Str), .str nm)]) ∧ ∀ p, H' p = none → Q (.ref p) (upd H' p (.lst [.str nm, v]))) H (fun _ _ => False)
end WB
namespace WB
open PySem PySem.Spec PyProof.Rows L2
/-! ### lambdas that are kept in a list -/
abbrev lamO (X : Cx) (params : Arguments) (body : Expr) (scope : Scope) (pm : Value) (c' : Addr) (ctv : Value) : Obj := PySem.W.kla_obj "<lambda>" (X.env.qual ++ "<lambda>") params body scope (cloFrom X.env.cells scope.names []) pm c' ctv
section
variable {X : Cx} {pins : List (Addr × Obj)} {σ : L2.St} {H : Hp} {s : Shared}
theorem inv_pin (I : Inv X pins σ H s) (hst : X.stack = X.env :: X.outer) (hfm : X.env.frame = some X.env.locals) {f : Addr} {o : Obj} (hf : s.heap.get? f = some o) (hn : H f = none) (hfr : f ∉ frs X.stack) (hd : ∀ v, o.data ≠ .cell v) : Inv X (pins ++ [(f, o)]) σ H s := by
  have nL : f ≠ X.env.locals := fun y => hfr (List.mem_filterMap.mpr ⟨X.env, by rw [hst]; exact List.mem_cons_self, hfm.trans (congrArg some y.symm)⟩)
  have nF : f ∉ X.fs := fun hm => by
    obtain ⟨e, he, y⟩ := List.mem_filterMap.mp hm
    exact hfr (List.mem_filterMap.mpr ⟨e, by rw [hst]; exact List.mem_cons_of_mem _ he, y⟩)
  refine { I with pin := fun p hp => ?_ }
  rcases List.mem_append.mp hp with h | h
  · exact I.pin p (List.mem_append_left _ h)
  rcases List.mem_append.mp h with h | h
  · exact I.pin p (List.mem_append_right _ h)
  · rw [List.mem_singleton.mp h]
    exact ⟨hf, hn, nL, nF, hd⟩
theorem inv_unpin {l : List (Addr × Obj)} (I : Inv X (pins ++ l) σ H s) : Inv X pins σ H s := by
  refine { I with pin := fun p hp => I.pin p ?_ }
  rcases List.mem_append.mp hp with h | h
  · exact List.mem_append_left _ h
  · exact List.mem_append_right _ (List.mem_append_left _ h)
end
section
variable {X : Cx} {T : List (Addr × Str)} {c P : Addr} {params : Arguments} {body : Expr} {scope : Scope} {lpos lp py pos : Pos} {y : Str} {i : Nat} {rest : List Stmt} {u : Addr → Addr → TS}
theorem sp_back {X : Cx} {pins l : List (Addr × Obj)} {D : Ends} {fl : Flow} {s : Shared} (kk : Cx.Ok X) (h : SP (X.tr (X.pn ++ (pins ++ l)) X.xe) [] D fl s) : SP X pins D fl s := by
  cases fl with
  | next => obtain ⟨τ, G, J, q⟩ := h; exact ⟨τ, G, inv_unpin (J.ofTry kk), q⟩
  | brk => obtain ⟨τ, G, J, q⟩ := h; exact ⟨τ, G, inv_unpin (J.ofTry kk), q⟩
  | cont => obtain ⟨τ, G, J, q⟩ := h; exact ⟨τ, G, inv_unpin (J.ofTry kk), q⟩
  | ret u => obtain ⟨v, τ, G, J, r, q⟩ := h; exact ⟨v, τ, G, inv_unpin (J.ofTry kk), r, q⟩
/-- xs = [lambda: e] -/
theorem pss_lamset {q : Str} (hq : X.env.qual ++ "<lambda>" = q) (hst : X.stack = X.env :: X.outer) (hfm : X.env.frame = some X.env.locals) (hN : X.N.Nodup) (hi : X.N[i]? = some y) (hy : Loc X.env.scope y) (TB : LamX.TabB X.base X.mg c P) (hcode : X.env.code = .ref c) (hmT : (P, X.env.qual ++ "<lambda>") ∈ T)
    (hu : ∀ p ∈ T, p.1 = P → p.2 = X.env.qual ++ "<lambda>") (L : LamX.LamS X.env.scope scope) (hdef : defaultsOf params X.env = ([], []))
    (hrest : ∀ (f c' : Addr) (pm ctv : Value) (pn' : List (Addr × Obj)), f ∉ frs X.stack → (f, lamO X params body scope pm c' ctv) ∈ pn' → (∀ p ∈ X.pn, p ∈ pn') → PSs (X.tr pn' X.xe) rest (u f c'))
    (hs : swapsWith (.List [.Lambda params body scope lpos] lp) (some (.Name y py)) pos.line X.env = pure false := by rfl) (hl : X.fn y = true ∨ X.env.scope.names.lookup y = some .local := by first | exact .inr rfl | exact .inl rfl) :
    PSs X (.Assign [.Name y py] (.List [.Lambda params body scope lpos] lp) pos :: rest)
      (fun D σ H => LamX.Tabs T H ∧ ∀ (f c' : Addr) (H1 : Hp), LamX.ExtN H H1 → LamX.Tabs T H1 → H1 f = none → H1 c' = some (LamX.CodeO c' q) → ∀ p, H1 p = none → u f c' D (σ.set i (some (.ref p))) (upd H1 p (.lst [.ref f]))) := by
  refine ⟨fun pins s σ H D I h => ?_⟩
  subst hq
  obtain ⟨hT, h⟩ := h
  have kk := I.ok
  refine wpAny_execs_cons (wpAny_Assign_Name (wpAny_List_spliced ?_) hs)
  show wpAny _ _ (spliced [(false, _)]) _ _ _
  refine Calls.spliced_cons (LamX.lam_make2 I TB hcode hmT hu hT hdef (L.has I.ok) fun f c' pm ctv H1 s' I1 eN T1 hf hfn hfr hco => Calls.spliced_nil ⟨(by show 1 ≤ sizeLine; decide), ?_⟩)
  have I2 := inv_pin I1 hst hfm hf hfn hfr (fun v z => by cases z)
  have hfresh := I2.hok.fresh (Nat.le_refl s'.heap.objs.size)
  have I3 : Inv X (pins ++ [(f, lamO X params body scope pm c' ctv)]) σ (upd H1 s'.heap.objs.size (.lst [.ref f])) { s' with heap := s'.heap.push { cls := .type "list", data := .seq (List.toArray [Value.ref f]) } } :=
    I2.laid (t' := s'.toks) (fun b w e => Heap.get?_push_of_some _ e) (Nat.le_refl _) ⟨(by show 1 ≤ sizeLine; decide), [Value.ref f], 0, .cons rfl .nil, Heap.get?_push_size s'.heap rfl⟩
  refine store_ok (v := .ref s'.heap.objs.size) I3 hN hi hy rfl (fun s2 I4 => ?_) hl
  have kr := (hrest f c' pm ctv (X.pn ++ (pins ++ [(f, lamO X params body scope pm c' ctv)])) hfr (List.mem_append_right _ (List.mem_append_right _ (.head _))) (fun p hp => List.mem_append_left _ hp)).run [] s2 _ _ D (I4.toTry X.xe) (h f c' H1 eN T1 hfn hco _ hfresh)
  exact wpAny_mono kr (fun fl z hsp => sp_back kk hsp) (fun _ _ y => y)
variable {p1 p2 p3 p4 : Pos}
/-- xs.append(lambda: e) -/
theorem pss_lamapp {q : Str} (hq : X.env.qual ++ "<lambda>" = q) (hst : X.stack = X.env :: X.outer) (hfm : X.env.frame = some X.env.locals) (hv : PE X (.Name y p1) (tVar i)) (TB : LamX.TabB X.base X.mg c P) (hcode : X.env.code = .ref c) (hmT : (P, X.env.qual ++ "<lambda>") ∈ T)
    (hu : ∀ p ∈ T, p.1 = P → p.2 = X.env.qual ++ "<lambda>") (L : LamX.LamS X.env.scope scope) (hdef : defaultsOf params X.env = ([], []))
    (hrest : ∀ (f c' : Addr) (pm ctv : Value) (pn' : List (Addr × Obj)), f ∉ frs X.stack → (f, lamO X params body scope pm c' ctv) ∈ pn' → (∀ p ∈ X.pn, p ∈ pn') → PSs (X.tr pn' X.xe) rest (u f c'))
    (hbase : attributeBase (.Name y p1) "append" X.env (eval (.Name y p1) X.env) = eval (.Name y p1) X.env := by rfl) (hline : (p2.endLine == p3.line) = true := by rfl)
    (hs : swapsWith (.Call (.Attribute (.Name y p1) "append" p2) [.Lambda params body scope lpos] [] p3) none p4.line X.env = pure false := by rfl) :
    PSs X (.Expr (.Call (.Attribute (.Name y p1) "append" p2) [.Lambda params body scope lpos] [] p3) p4 :: rest)
      (fun D σ H => LamX.Tabs T H ∧ ∃ p xs, σ[i]? = some (some (.ref p)) ∧ H p = some (.lst xs) ∧ xs.length < sizeLine ∧ ∀ (f c' : Addr) (H1 : Hp), LamX.ExtN H H1 → LamX.Tabs T H1 → H1 f = none → H1 c' = some (LamX.CodeO c' q) → u f c' D σ (upd H1 p (.lst (xs ++ [.ref f])))) := by
  refine ⟨fun pins s σ H D I h => ?_⟩
  subst hq
  obtain ⟨hT, p, xs, hσ, hp, hz, h⟩ := h
  have kk := I.ok
  refine wpAny_execs_cons (wpAny_Expr_any ?_ I.quiet hs)
  refine wpAny_Call_method_late (trees := [(false, _)]) hbase (by rfl) hline rfl (thn (hv.run pins s σ H (fun x H1 => x = .ref p ∧ H1 = H) I ⟨_, hσ, rfl, rfl⟩) fun v s1 x => ?_)
  obtain ⟨x, H1, I1, r1, rfl, rfl⟩ := x
  obtain ⟨h1, h2⟩ := tyV_is (T := "list") I1 r1 (.inl ⟨rfl, xs, SqL.of hp⟩)
  refine ⟨"list", "list.append", PySem.F.plainAttrs_list, PySem.F.slot_list_append, PySem.F.type_list_append, h1, h2, ?_⟩
  refine Calls.callWith_builtin (by rfl) (Calls.evalArgs_plain ?_)
  refine Calls.spliced_cons (LamX.lam_make2 I1 TB hcode hmT hu hT hdef (L.has I1.ok) fun f c' pm ctv H2 s' I2 eN T2 hf hfn hfr hco => Calls.spliced_nil ?_)
  have I3 := inv_pin I2 hst hfm hf hfn hfr (fun v z => by cases z)
  have hp2 := eN _ _ hp (fun ps z => by cases z)
  refine thn (mt_append (X := X) (pins ++ [(f, lamO X params body scope pm c' ctv)]) s' σ H2 (.ref p) [.ref f] v [Value.ref f] (fun v H' => H' = upd H2 p (.lst (xs ++ [.ref f]))) I3 r1 (.cons rfl .nil) ⟨p, xs, .ref f, rfl, rfl, hp2, hz, rfl⟩) fun w s2 x => ?_
  obtain ⟨w', H', I4, r4, rfl⟩ := x
  have kr := (hrest f c' pm ctv (X.pn ++ (pins ++ [(f, lamO X params body scope pm c' ctv)])) hfr (List.mem_append_right _ (List.mem_append_right _ (.head _))) (fun p hp => List.mem_append_left _ hp)).run [] s2 _ _ D (I4.toTry X.xe) (h f c' H2 eN T2 hfn hco)
  exact wpAny_mono kr (fun fl z hsp => sp_back kk hsp) (fun _ _ y => y)
end
section
variable {X : Cx} {TT : (XK → Hp → VK → Prop) → Hp → VK → Prop} {x a : Str} {g f c' : Addr} {k : Nat} {pg : Arguments} {bg : List Stmt} {sg : Scope} {dV kV doc pm cdv ct oc pm' ctv : Value} {an od : Option Addr} {osl : Array (Option Value)} {Ng : List Str}
  {params : Arguments} {body ea : Expr} {scope : Scope} {t : XK → TE} {p pos : Pos} {j : Nat}
/-- g(x), where x is a lambda that was kept -/
theorem pe_actname {q : Str} (hq : X.env.qual ++ "<lambda>" = q) (hpin : (f, lamO X params body scope pm' c' ctv) ∈ X.pn) (hfr : f ∉ frs X.stack) (hg : Gl X x) (hm : X.mg x = some (.ref g)) (hk : PySem.W.keepIn X.K (.ref g) = true) (lk : X.K.lookup g = some ⟨oc, od, .func (PySem.W.fnOf x x pg bg sg dV kV doc pm an cdv ct), osl⟩)
    (hcg : PySem.W.codeIn X.K cdv x = true) (hb : L2.Binds X.K (PySem.W.fnOf x x pg bg sg dV kV doc pm an cdv ct) [a] []) (Sg : FnScope Ng [a] sg) (hNg : Ng[0]? = some a) (hva : Vis sg a) (hG : LamX.GivesTo X Ng x sg g cdv bg a (X.env.qual ++ "<lambda>") TT)
    (hr : Room (k + 2) X.A) (L : LamX.LamS X.env.scope scope) (hbind : ∀ (q : Str) (cl : List (Str × Addr)) (pm cv ctv : Value), bindArgs (PySem.W.kla_fn "<lambda>" q params body scope cl pm cv ctv) ⟨[], []⟩ = pure [])
    (hbody : ∀ (A : Around) (outer : List Env) (s : Shared) (H : Hp) (E : XK) (f c' : Addr), Room k (A.deeper (LamX.lamEnv X scope s.heap.objs.size f c')) → PE (LamX.lamCx X A outer s H E scope f c') body (t E)) (ha : PE X ea (tVar j))
    (hdb : (x == ("__debug__" : Str)) = false := by decide) (hd : (a == ("__debug__" : Str)) = false := by decide) (hcd : (a == ("__classdict__" : Str)) = false := by decide)
    (he : starEach [ea] X.env = (false, eval ea X.env) :: starEach [] X.env := by rfl) (hpl : (backTo pos (starEach [] X.env)).any (·.1) = false := by rfl) :
    PE X (.Call (.Name x p) [ea] [] pos) (fun σ H Q => σ[j]? = some (some (.ref f)) ∧ H c' = some (LamX.CodeO c' q) ∧ TT (fun E H' Q' => t E σ H' Q') H Q) := by
  refine ⟨fun pins s σ H Q I h => wpAny_Call_Name_kw (ld_glob I hg hm (PySem.W.callWith_K I.ok.mod.kin hk ?_ he hpl) hdb)⟩
  subst hq
  obtain ⟨hσ, hco, hT⟩ := h
  refine thn ((pa_cons ha pa_nil he).run pos pins s σ H (fun vs H1 => vs = [.ref f] ∧ H1 = H) I ⟨_, hσ, rfl, rfl⟩) fun us s1 y => ?_
  obtain ⟨vs, H1, I1, r1, rfl, rfl⟩ := y
  obtain ⟨w, rfl, rw_⟩ := r1.one
  have rw2 : w = Value.ref f := rw_
  subst rw2
  refine ⟨I1.kIn, ?_⟩
  obtain ⟨hf, hfn, _⟩ := I1.pin _ (List.mem_append_left _ hpin)
  have rc := LamX.run_ofS (CX := C8.CX0) (E := C8.E0) (Q := Q) lk hcg Sg hr I1.env0 (hb s1 [Value.ref f] I1.kIn rfl) (show Vals [V.ref f] [Value.ref f] from .cons rfl .nil) rfl (fun hr' => by
    obtain ⟨t', ht', hq'⟩ := hG f c' s1 H1 Q (fun E H' Q' => t E σ H' Q') (fun W pn xe E p1 p2 tk hW => LamX.pe_act I1 L hf hfn hfr (hbind _ _ _ _ _) tk hW hr' (fun A outer s H hr2 => hbody A outer s H E f c' hr2) hNg hva hd hcd) hco hT
    exact ⟨t', ht'.nox, hq'⟩)
  refine wpAny_call (codeAny_mono rc fun r s2 hq => ?_)
  cases r with
  | error e => exact (show False from hq).elim
  | ok fl =>
    cases fl with
    | next => exact (show False from hq).elim
    | brk => exact (show False from hq).elim
    | cont => exact (show False from hq).elim
    | ret u => exact I1.after hq
theorem pe_or2 {X : Cx} {e : Expr} {t u : TE} (h1 : PE X e t) (h2 : PE X e u) : PE X e (fun σ H Q => t σ H Q ∨ u σ H Q) := ⟨fun pins s σ H Q I h => h.elim (fun h => h1.run pins s σ H Q I h) (fun h => h2.run pins s σ H Q I h)⟩
end
end WB
namespace WB
open PySem PySem.Spec PyProof.Rows L2
/-! ### objects: fields, methods, new ones -/
section
variable {X : Cx} (K : PySem.W.Frag) {e o value : Expr} {f : Str} {pos pos' tpos : Pos} {ta tv : TE} {op : Operator} {rd : V → V → Hp → VK → Prop}
theorem pe_fldK (h : X.K = K) (he : PE X e ta) (hb : attributeBase e f X.env (eval e X.env) = eval e X.env := by rfl) : PE X (.Attribute e f pos) (tFld K ta f) := by subst h; exact pe_fld he hb
theorem ps_fldK (h : X.K = K) (ho : PE X o ta) (hv : PE X value tv) (hs : swapsWith value (some (.Attribute o f pos')) pos.line X.env = pure false := by rfl) : PS X (.Assign [.Attribute o f pos'] value pos) (sFld K ta tv f) := by subst h; exact ps_fld ho hv hs
theorem ps_fldaugK (h : X.K = K) (ho : PE X o ta) (hv : PE X value tv) (hop : InOp X op rd) : PS X (.AugAssign (.Attribute o f tpos) op value pos) (sFldAug K ta tv rd f) := by subst h; exact ps_fldaug ho hv hop
def rTupK (K : PySem.W.Frag) : List V → Hp → VK → Prop := fun xs H Q => ∃ p ys, xs = [.ref p] ∧ ((SqL K H p ys ∧ ∀ l, H l = none → Q (.ref l) (upd H l (.tup ys))) ∨ (SqT K H p ys ∧ Q (.ref p) H))
theorem call_tupleK (h : X.K = K) : CallR X (.type "tuple") (rTupK K) := by subst h; exact call_tuple_of
end
/-- a method of the class at C -/
def CalM (CX : CXT) (P : Program) (w : World) (K : PySem.W.Frag) (mg : Str → Option Value) (base : Heap) (k : Nat) (C : Addr) (m : Str) (ps : List Str) (sp : Sp) : Prop :=
  ∃ (f : Addr) (fd : FuncData), Cls K C ∧ Meth K C m f ∧ FnOk P w K mg base CX k f fd ps sp ∧ Binds K fd ps []
theorem CalM.mono {CX : CXT} {P : Program} {w : World} {K : PySem.W.Frag} {mg : Str → Option Value} {base : Heap} {j k : Nat} {C : Addr} {m : Str} {ps : List Str} {sp : Sp} (c : CalM CX P w K mg base j C m ps sp) (h : j ≤ k) : CalM CX P w K mg base k C m ps sp := by
  obtain ⟨f, fd, a, b, d, e⟩ := c
  exact ⟨f, fd, a, b, d.mono h, e⟩
/-- new things of the class at C -/
def CalN (P : Program) (w : World) (K : PySem.W.Frag) (mg : Str → Option Value) (base : Heap) (k : Nat) (nm : Str) (C : Addr) (ps : List Str) (sp : Sp) : Prop :=
  ∃ (f : Addr) (fd : FuncData), Mk K C f ∧ FnOk P w K mg base CX0 k f fd ps sp ∧ mg nm = some (.ref C) ∧ Binds K fd ps []
theorem CalN.mono {P : Program} {w : World} {K : PySem.W.Frag} {mg : Str → Option Value} {base : Heap} {j k : Nat} {nm : Str} {C : Addr} {ps : List Str} {sp : Sp} (c : CalN P w K mg base j nm C ps sp) (h : j ≤ k) : CalN P w K mg base k nm C ps sp := by
  obtain ⟨f, fd, a, b, d, e⟩ := c
  exact ⟨f, fd, a, b.mono h, d, e⟩
section
variable {X : Cx} {k : Nat} {C : Addr} {m nm : Str} {ps : List Str} {sp : Sp} {E : XK} {pos apos p : Pos} {e o : Expr} {es : List Expr} {ta : TE} {t : TA} {pl : Sem Bool}
theorem pe_methC (ho : PE X o ta) (c : CalM CX0 X.prog X.w X.K X.mg X.base k C m ps sp) (hr : Room k X.A) (ha : PA X (e :: es) t) (hs : starEach (e :: es) X.env = (false, eval e X.env) :: starEach es X.env := by rfl) (hpl : (backTo pos (starEach es X.env)).any (·.1) = false := by rfl)
    (hc : eval (.Call (.Attribute o m apos) (e :: es) [] pos) X.env = (do
      let ov ← eval o X.env
      standAt apos.atName
      let (f, first) ← holding [ov] (getMethod ov m pl)
      callWith pos f first (backTo pos (starEach (e :: es) X.env)) (backToKw pos (keywordEach [] X.env))) := by rfl) : PE X (.Call (.Attribute o m apos) (e :: es) [] pos) (tMeth C m sp [] E0 ta t) := by
  obtain ⟨f, fd, a, b, d, g⟩ := c
  exact pe_meth ho a b d hr g .nil pass0 ha hs hpl hc
theorem pe_methC0 (ho : PE X o ta) (c : CalM CX0 X.prog X.w X.K X.mg X.base k C m ps sp) (hr : Room k X.A)
    (hc : eval (.Call (.Attribute o m apos) [] [] pos) X.env = (do
      let ov ← eval o X.env
      standAt apos.atName
      let (f, first) ← holding [ov] (getMethod ov m pl)
      callWith pos f first (backTo pos (starEach [] X.env)) (backToKw pos (keywordEach [] X.env))) := by rfl) : PE X (.Call (.Attribute o m apos) [] [] pos) (tMeth C m sp [] E0 ta tNil) := by
  obtain ⟨f, fd, a, b, d, g⟩ := c
  exact pe_meth0 ho a b d hr g .nil pass0 hc
/-- a method that may let an exception out, where it lets out none -/
theorem pe_methF (ho : PE X o ta) (c : CalM (L2.CX X.prog X.w) X.prog X.w X.K X.mg X.base k C m ps sp) (hr : Room k X.A) (ha : PA X (e :: es) t) (hs : starEach (e :: es) X.env = (false, eval e X.env) :: starEach es X.env := by rfl) (hpl : (backTo pos (starEach es X.env)).any (·.1) = false := by rfl)
    (hc : eval (.Call (.Attribute o m apos) (e :: es) [] pos) X.env = (do
      let ov ← eval o X.env
      standAt apos.atName
      let (f, first) ← holding [ov] (getMethod ov m pl)
      callWith pos f first (backTo pos (starEach (e :: es) X.env)) (backToKw pos (keywordEach [] X.env))) := by rfl) : PE X (.Call (.Attribute o m apos) (e :: es) [] pos) (tMeth C m sp [] E0 ta t) := by
  obtain ⟨f, fd, a, b, d, g⟩ := c
  exact pe_meth ho a b d hr g .nil passL ha hs hpl hc
theorem pe_methP (ho : PE X o ta) (c : CalM (L2.CX X.prog X.w) X.prog X.w X.K X.mg X.base k C m ps sp) (hr : Room k X.A) (hx : Passes (L2.CX X.prog X.w) X E) (ha : PA X (e :: es) t) (hs : starEach (e :: es) X.env = (false, eval e X.env) :: starEach es X.env := by rfl) (hpl : (backTo pos (starEach es X.env)).any (·.1) = false := by rfl)
    (hc : eval (.Call (.Attribute o m apos) (e :: es) [] pos) X.env = (do
      let ov ← eval o X.env
      standAt apos.atName
      let (f, first) ← holding [ov] (getMethod ov m pl)
      callWith pos f first (backTo pos (starEach (e :: es) X.env)) (backToKw pos (keywordEach [] X.env))) := by rfl) : PE X (.Call (.Attribute o m apos) (e :: es) [] pos) (tMeth C m sp [] E ta t) := by
  obtain ⟨f, fd, a, b, d, g⟩ := c
  exact pe_meth ho a b d hr g .nil hx ha hs hpl hc
theorem pe_makeC0 (c : CalN X.prog X.w X.K X.mg X.base k nm C ps sp) (hr : Room (k + 1) X.A) (hg : Gl X nm) (hdb : (nm == ("__debug__" : Str)) = false := by decide) : PE X (.Call (.Name nm p) [] [] pos) (tMake C sp [] E0 tNil) := by
  obtain ⟨f, fd, a, b, d, g⟩ := c
  exact pe_make0 a b hr hg d g .nil pass0 hdb
end
/-! ### heaps that keep their lists -/
/-- lists, tuples and what is held still stay -/
def Lk (H H' : Hp) : Prop := ∀ a o, H a = some o → (∃ xs, o = .lst xs) ∨ (∃ xs, o = .tup xs) ∨ (∃ u v, o = .frz u v) → H' a = some o
section
variable {K : PySem.W.Frag}
theorem lk_l {H H' : Hp} {a : Addr} {xs : List V} (e : Lk H H') (h : SqL K H a xs) : SqL K H' a xs := by
  rcases h with (h | ⟨o, h⟩) | h
  · exact .inl (.inl (e _ _ h (.inl ⟨_, rfl⟩)))
  · exact .inl (.inr ⟨o, e _ _ h (.inr (.inr ⟨_, _, rfl⟩))⟩)
  · exact .inr h
theorem lk_t {H H' : Hp} {a : Addr} {xs : List V} (e : Lk H H') (h : SqT K H a xs) : SqT K H' a xs := by
  rcases h with (h | ⟨o, h⟩) | h
  · exact .inl (.inl (e _ _ h (.inr (.inl ⟨_, rfl⟩))))
  · exact .inl (.inr ⟨o, e _ _ h (.inr (.inr ⟨_, _, rfl⟩))⟩)
  · exact .inr h
mutual
theorem dp_lk {H H' : Hp} (e : Lk H H') : ∀ {d : PyData} {x : V}, Dp K H x d → Dp K H' x d
  | _, _, .non => .non
  | _, _, .bl b => .bl b
  | _, _, .int i => .int i
  | _, _, .str s => .str s
  | _, _, .lst hs ha => .lst (lk_l e hs) (dpa_lk e ha)
  | _, _, .tup hs ha => .tup (lk_t e hs) (dpa_lk e ha)
theorem dpa_lk {H H' : Hp} (e : Lk H H') : ∀ {ds : List PyData} {xs : List V}, DpAll K H xs ds → DpAll K H' xs ds
  | _, _, .nil => .nil
  | _, _, .cons h t => .cons (dp_lk e h) (dpa_lk e t)
end
theorem lk_mv {b : Addr} {H H' : Hp} (m : Mv b H H') (h : ∀ o, H b = some o → ¬ ((∃ xs, o = .lst xs) ∨ (∃ xs, o = .tup xs) ∨ (∃ u v, o = .frz u v))) : Lk H H' := fun a o e k => m a o (fun z => by subst z; exact h o e k) e
theorem lk_same {H H' : Hp} (s : Same H H') : Lk H H' := fun a o e _ => s a o e
end
end WB
namespace WB
open PySem PySem.Spec PyProof.Rows L2
/-! ### things that stand apart in the heap -/
/-- all but what stands at F stays, and nothing vanishes -/
structure MvF (F : List Addr) (H H' : Hp) : Prop where
  kp : ∀ a o, a ∉ F → H a = some o → H' a = some o
  al : ∀ a, H' a = none → H a = none
theorem al_same {H H' : Hp} (s : Same H H') : ∀ a, H' a = none → H a = none := fun _ h => s.free h
theorem al_upd {H H' : Hp} {p : Addr} {o : HO} (s : ∀ a, H' a = none → H a = none) : ∀ a, upd H' p o a = none → H a = none := fun a h => by
  by_cases z : a = p
  · rw [z, upd_same] at h
    cases h
  · rw [upd_ne z] at h
    exact s a h
theorem al_mv {H H' : Hp} {p : Addr} {o : HO} (m : Mv p H H') (e : H' p = some o) : ∀ a, H' a = none → H a = none := fun a h => by
  by_cases z : a = p
  · rw [z, e] at h
    cases h
  · exact m.none z h
section
variable {F : List Addr} {H H' H1 H2 : Hp}
theorem MvF.refl (F : List Addr) (H : Hp) : MvF F H H := ⟨fun _ _ _ h => h, fun _ h => h⟩
theorem MvF.of (s : Same H H') : MvF F H H' := ⟨fun a o _ h => s a o h, al_same s⟩
theorem MvF.mv {p : Addr} {o : HO} (m : Mv p H H') (e : H' p = some o) (hp : p ∈ F) : MvF F H H' := ⟨fun a u n h => m a u (fun z => n (z ▸ hp)) h, al_mv m e⟩
theorem MvF.trans (m : MvF F H H1) (m' : MvF F H1 H2) : MvF F H H2 := ⟨fun a o n h => m'.kp a o n (m.kp a o n h), fun a h => m.al a (m'.al a h)⟩
theorem MvF.upd {p : Addr} {o : HO} (m : MvF F H H') (hp : p ∈ F) : MvF F H (L2.upd H' p o) := ⟨fun a u n h => by rw [upd_ne (fun z : a = p => n (by rw [z]; exact hp))]; exact m.kp a u n h, al_upd m.al⟩
theorem MvF.wide {G : List Addr} (m : MvF F H H') (h : ∀ a ∈ F, a ∈ G) : MvF G H H' := ⟨fun a o n e => m.kp a o (fun z => n (h a z)) e, m.al⟩
/-- where the second one's places are the first one's, or new -/
theorem MvF.trans2 {G : List Addr} (m : MvF F H H1) (m' : MvF G H1 H2) (hg : ∀ a ∈ G, a ∈ F ∨ H a = none) : MvF F H H2 := by
  refine ⟨fun a o n e => m'.kp a o (fun z => ?_) (m.kp a o n e), fun a h => m.al a (m'.al a h)⟩
  rcases hg a z with y | y
  · exact n y
  · rw [y] at e
    cases e
theorem MvF.same (m : MvF F H H') (s : Same H' H1) : MvF F H H1 := m.trans (.of s)
theorem MvF.new (m : MvF F H H') {p : Addr} {o : HO} (n : H' p = none) : MvF F H (L2.upd H' p o) := m.same (same_upd n)
theorem MvF.free (m : MvF F H H') {p : Addr} (h : H' p = none) : H p = none := m.al p h
theorem MvF.toSame (m : MvF [] H H') : Same H H' := fun a o h => m.kp a o List.not_mem_nil h
end
/-- no table of code, no thing of the machine's own -/
def plain : HO → Prop
  | .tbl _ => False
  | .ext _ => False
  | _ => True
structure Th where
  ft : List Addr
  P : Hp → Prop
  loc : ∀ H H' : Hp, (∀ a ∈ ft, ∀ o, H a = some o → H' a = some o) → P H → P H'
  al : ∀ H, P H → ∀ a ∈ ft, ∃ o, H a = some o ∧ plain o
/-- these things stand apart, and the tables of code are as they were -/
structure Hs (T : List (Addr × Str)) (Ts : List Th) (H : Hp) : Prop where
  all : ∀ (i : Nat) (T : Th), Ts[i]? = some T → T.P H
  sep : ∀ (i j : Nat) (x y : Th), i ≠ j → Ts[i]? = some x → Ts[j]? = some y → ∀ a ∈ x.ft, a ∉ y.ft
  tab : LamX.Tabs T H
theorem Th.live (T : Th) {H : Hp} (h : T.P H) {a : Addr} (ha : a ∈ T.ft) : H a ≠ none := by
  obtain ⟨o, e, _⟩ := T.al H h a ha
  rw [e]
  exact fun z => nomatch z
theorem tabs_keep {T : List (Addr × Str)} {H H' : Hp} (t : LamX.Tabs T H) (h : ∀ a o, H a = some o → ¬ plain o → H' a = some o) : LamX.Tabs T H' := fun p hp => by
  obtain ⟨ps, h1, h2, h3⟩ := t p hp
  refine ⟨ps, h _ _ h1 (fun z => z), h2, fun pos cv hc => ?_⟩
  obtain ⟨c, e1, e2⟩ := h3 pos cv hc
  exact ⟨c, e1, h _ _ e2 (fun z => z)⟩
section
variable {T0 : List (Addr × Str)} {Ts Ts' : List Th} {T T' N : Th} {H H' : Hp}
theorem Hs.nil (t : LamX.Tabs T0 H) : Hs T0 [] H := ⟨fun i T h => (by cases h), fun i j x y _ h => (by cases h), t⟩
theorem Hs.nil0 : Hs [] [] H := .nil (fun p hp => absurd hp List.not_mem_nil)
theorem Hs.get (h : Hs T0 Ts H) (i : Nat) (hi : Ts[i]? = some T) : T.P H := h.all i T hi
theorem Hs.same (h : Hs T0 Ts H) (s : Same H H') : Hs T0 Ts H' := ⟨fun i T hi => T.loc H H' (fun a _ o e => s a o e) (h.all i T hi), h.sep, h.tab.ext s⟩
/-- a lambda was made -/
theorem Hs.extN (h : Hs T0 Ts H) (e : LamX.ExtN H H') (t : LamX.Tabs T0 H') : Hs T0 Ts H' := ⟨fun i T hi => T.loc H H' (fun a ha o q => e a o q (fun ps z => by
  obtain ⟨o', e1, e2⟩ := T.al H (h.all i T hi) a ha
  rw [e1] at q
  cases q
  rw [z] at e2
  exact e2)) (h.all i T hi), h.sep, t⟩
theorem Hs.ne (h : Hs T0 Ts H) (i j : Nat) {x y : Th} (hi : Ts[i]? = some x) (hj : Ts[j]? = some y) {a b : Addr} (ha : a ∈ x.ft) (hb : b ∈ y.ft) (n : i ≠ j := by decide) : a ≠ b := fun z => h.sep i j x y n hi hj a ha (z ▸ hb)
theorem Hs.keep (h : Hs T0 Ts H) {i j : Nat} {x : Th} {F : List Addr} (hi : Ts[i]? = some T) (hj : Ts[j]? = some x) (n : j ≠ i) (m : MvF F H H') (hF : ∀ a ∈ F, a ∈ T.ft ∨ H a = none) : x.P H' := by
  refine x.loc H H' (fun a ha o e => m.kp a o (fun z => ?_) e) (h.all j x hj)
  rcases hF a z with y | y
  · exact h.sep j i x T n hj hi a ha y
  · rw [y] at e
    cases e
theorem Hs.op {F : List Addr} (h : Hs T0 Ts H) (i : Nat) (hi : Ts[i]? = some T) (m : MvF F H H') (hF : ∀ a ∈ F, a ∈ T.ft ∨ H a = none) (hp : T'.P H') (hf : ∀ a ∈ T'.ft, a ∈ T.ft ∨ H a = none) : Hs T0 (Ts.set i T') H' := by
  have hil : i < Ts.length := (List.getElem?_eq_some_iff.mp hi).1
  have new : ∀ (j : Nat) (y : Th), j ≠ i → Ts[j]? = some y → ∀ a ∈ T'.ft, a ∉ y.ft := fun j y n hj a ha z => by
    rcases hf a ha with q | q
    · exact h.sep i j T y n.symm hi hj a q z
    · exact y.live (h.all j y hj) z q
  refine ⟨fun j x hj => ?_, fun j k x y n hj hk => ?_, tabs_keep h.tab fun a o e np => m.kp a o (fun z => ?_) e⟩
  · rw [List.getElem?_set] at hj
    by_cases z : i = j
    · rw [if_pos z, if_pos (z ▸ hil)] at hj
      cases hj
      exact hp
    · rw [if_neg z] at hj
      exact h.keep hi hj (fun q => z q.symm) m hF
  · rw [List.getElem?_set] at hj hk
    by_cases z : i = j
    · rw [if_pos z, if_pos (z ▸ hil)] at hj
      rw [if_neg (fun q => n (z.symm.trans q))] at hk
      cases hj
      exact new k y (fun q => n (z.symm.trans q.symm)) hk
    · rw [if_neg z] at hj
      by_cases z2 : i = k
      · rw [if_pos z2, if_pos (z2 ▸ hil)] at hk
        cases hk
        exact fun a ha hb => new j x (fun q => z q.symm) hj a hb ha
      · rw [if_neg z2] at hk
        exact h.sep j k x y n hj hk
  · rcases hF a z with y | y
    · obtain ⟨o', e1, e2⟩ := T.al H (h.all i T hi) a y
      rw [e1] at e
      cases e
      exact np e2
    · rw [y] at e
      cases e
theorem Hs.cons (h : Hs T0 Ts H) (hp : T.P H) (hf : ∀ (j : Nat) (y : Th), Ts[j]? = some y → ∀ a ∈ T.ft, a ∉ y.ft) : Hs T0 (T :: Ts) H := by
  refine ⟨fun j x hj => ?_, fun j k x y n hj hk => ?_, h.tab⟩
  · cases j with
    | zero => cases hj; exact hp
    | succ j => exact h.all j x hj
  · cases j with
    | zero =>
      cases hj
      cases k with
      | zero => exact absurd rfl n
      | succ k => exact hf k y hk
    | succ j =>
      cases k with
      | zero =>
        cases hk
        exact fun a ha hb => hf j x hj a hb ha
      | succ k => exact h.sep j k x y (fun q => n (congrArg (· + 1) q)) hj hk
theorem Hs.new (h : Hs T0 Ts H) (s : Same H H') (hp : T.P H') (hf : ∀ a ∈ T.ft, H a = none) : Hs T0 (T :: Ts) H' :=
  (h.same s).cons hp fun j y hj a ha hb => y.live (h.all j y hj) hb (hf a ha)
/-- a thing changes, and a new one comes -/
theorem Hs.opNew {F : List Addr} (h : Hs T0 Ts H) (i : Nat) (hi : Ts[i]? = some T) (m : MvF F H H') (hF : ∀ a ∈ F, a ∈ T.ft ∨ H a = none) (hp : T'.P H') (hf : ∀ a ∈ T'.ft, a ∈ T.ft ∨ H a = none) (hn : N.P H') (hnf : ∀ a ∈ N.ft, H a = none ∧ a ∉ T'.ft) : Hs T0 (N :: Ts.set i T') H' := by
  refine (h.op i hi m hF hp hf).cons hn fun j y hj a ha hb => ?_
  rw [List.getElem?_set] at hj
  by_cases z : i = j
  · rw [if_pos z, if_pos (z ▸ (List.getElem?_eq_some_iff.mp hi).1)] at hj
    cases hj
    exact (hnf a ha).2 hb
  · rw [if_neg z] at hj
    exact y.live (h.all j y hj) hb (hnf a ha).1
/-- these places of the list, in this order -/
def pickTs (Ts : List Th) : List Nat → List Th
  | [] => []
  | i :: r => match Ts[i]? with
    | some x => x :: pickTs Ts r
    | none => pickTs Ts r
theorem mem_pick : ∀ {is : List Nat} {k : Nat} {x : Th}, (pickTs Ts is)[k]? = some x → ∃ i ∈ is, Ts[i]? = some x
  | [], k, x, h => by cases h
  | i :: r, k, x, h => by
    unfold pickTs at h
    cases e : Ts[i]? with
    | none =>
      rw [e] at h
      obtain ⟨j, hj, q⟩ := mem_pick h
      exact ⟨j, .tail _ hj, q⟩
    | some y =>
      rw [e] at h
      cases k with
      | zero => cases h; exact ⟨i, .head _, e⟩
      | succ k =>
        obtain ⟨j, hj, q⟩ := mem_pick (k := k) h
        exact ⟨j, .tail _ hj, q⟩
theorem Hs.sel (h : Hs T0 Ts H) : ∀ (is : List Nat), is.Nodup → Hs T0 (pickTs Ts is) H
  | [], _ => .nil h.tab
  | i :: r, hn => by
    have hn := List.nodup_cons.mp hn
    have t := h.sel r hn.2
    unfold pickTs
    cases e : Ts[i]? with
    | none => exact t
    | some x =>
      refine t.cons (h.all i x e) fun j y hj => ?_
      obtain ⟨k, hk, q⟩ := mem_pick hj
      exact h.sep i k x y (fun z => hn.1 (z ▸ hk)) e q
theorem Hs.tail {x : Th} (h : Hs T0 (x :: Ts) H) : Hs T0 Ts H := ⟨fun i T hi => h.all (i + 1) T hi, fun i j x y n hi hj => h.sep (i + 1) (j + 1) x y (by omega) hi hj, h.tab⟩
theorem Hs.head {x : Th} (h : Hs T0 (x :: Ts) H) : x.P H := h.all 0 x rfl
theorem Hs.apart {x y : Th} (h : Hs T0 (x :: Ts) H) (hy : y ∈ Ts) : ∀ a ∈ x.ft, a ∉ y.ft := by
  obtain ⟨j, hj⟩ := List.getElem?_of_mem hy
  exact h.sep 0 (j + 1) x y (by omega) rfl hj
theorem Hs.swap {x y : Th} (h : Hs T0 (x :: y :: Ts) H) : Hs T0 (y :: x :: Ts) H :=
  (h.tail.tail.cons h.head fun j z hj => h.apart (.tail _ (List.mem_of_getElem? hj))).cons h.tail.head fun j z hj a ha hb => by
    rcases List.mem_cons.mp (List.mem_of_getElem? hj) with rfl | hm
    · exact h.apart (.head _) a hb ha
    · exact h.tail.apart hm a ha hb
theorem Hs.perm (p : Ts.Perm Ts') : ∀ {H : Hp}, Hs T0 Ts H → Hs T0 Ts' H := by
  induction p with
  | nil => exact fun h => h
  | cons x q ih => exact fun h => (ih h.tail).cons h.head fun j y hj => h.apart (q.mem_iff.mpr (List.mem_of_getElem? hj))
  | swap x y l => exact fun h => h.swap
  | trans _ _ ih1 ih2 => exact fun h => ih2 (ih1 h)
/-- two things seen as one -/
theorem Hs.merge {A B C : Th} (h : Hs T0 (A :: B :: Ts) H) (hp : C.P H) (hf : ∀ a ∈ C.ft, a ∈ A.ft ∨ a ∈ B.ft) : Hs T0 (C :: Ts) H :=
  h.tail.tail.cons hp fun j y hj a ha hb => (hf a ha).elim (fun z => h.apart (.tail _ (List.mem_of_getElem? hj)) a z hb) (fun z => h.tail.apart (List.mem_of_getElem? hj) a z hb)
theorem Hs.drop1 {x y : Th} (h : Hs T0 (x :: y :: Ts) H) : Hs T0 (x :: Ts) H := h.swap.tail
theorem Hs.drop2 {x y z : Th} (h : Hs T0 (x :: y :: z :: Ts) H) : Hs T0 (x :: y :: Ts) H := h.tail.drop1.cons h.head fun j u hj => by
  rcases List.mem_cons.mp (List.mem_of_getElem? hj) with rfl | hm
  · exact h.apart (.head _)
  · exact h.apart (.tail _ (.tail _ hm))
theorem Hs.drop3 {x y z u : Th} (h : Hs T0 (x :: y :: z :: u :: Ts) H) : Hs T0 (x :: y :: z :: Ts) H := h.tail.drop2.cons h.head fun j v hj => by
  rcases List.mem_cons.mp (List.mem_of_getElem? hj) with rfl | hm
  · exact h.apart (.head _)
  rcases List.mem_cons.mp hm with rfl | hm
  · exact h.apart (.tail _ (.head _))
  · exact h.apart (.tail _ (.tail _ (.tail _ hm)))
end
/-! ### the commonest things -/
/-- what stands at a -/
def tO (a : Addr) (o : HO) : Th := ⟨[a], fun H => H a = some o ∧ plain o, fun H H' k h => ⟨k a (.head _) o h.1, h.2⟩, fun H h b hb => by rw [List.mem_singleton.mp hb]; exact ⟨o, h⟩⟩
abbrev tL (a : Addr) (xs : List V) : Th := tO a (.lst xs)
theorem Bag.al {b : Addr × Addr} {H : Hp} (g : Bag b H) : H b.1 ≠ none ∧ H b.2 ≠ none := by
  obtain ⟨ns, i, r, x, c, h1, h2, _⟩ := g
  exact ⟨(by rw [h1]; exact fun z => nomatch z), (by rw [h2]; exact fun z => nomatch z)⟩
def tB (b : Addr × Addr) : Th := ⟨[b.1, b.2], Bag b, fun H H' k h => by
  obtain ⟨ns, i, r, x, c, h1, h2, h3⟩ := h
  exact ⟨ns, i, r, x, c, k _ (.head _) _ h1, k _ (.tail _ (.head _)) _ h2, h3⟩, fun H h a ha => by
  obtain ⟨ns, i, r, x, c, h1, h2, h3⟩ := h
  rcases List.mem_cons.mp ha with rfl | ha
  · exact ⟨_, h1, trivial⟩
  · rw [List.mem_singleton.mp ha]
    exact ⟨_, h2, trivial⟩⟩
theorem in1 {a p : Addr} (h : a ∈ [p]) : a = p := List.mem_singleton.mp h
section
variable {T0 : List (Addr × Str)} {b : Addr × Addr} {Ts : List Th} {H H' : Hp} {p : Addr} {o o' : HO}
theorem Hs.bag (h : Hs T0 (tB b :: Ts) H) : Bag b H := h.get 0 rfl
theorem mvf_bag (m : Mv b.1 H H') (g : Bag b H') : MvF [b.1, b.2] H H' := by
  obtain ⟨ns, i, r, x, c, h1, h2, h3⟩ := g
  exact .mv m h1 (.head _)
theorem Hs.mv (h : Hs T0 (tB b :: Ts) H) (m : Mv b.1 H H') (g : Bag b H') : Hs T0 (tB b :: Ts) H' := h.op (T := tB b) (T' := tB b) 0 rfl (mvf_bag m g) (fun a ha => .inl ha) g (fun a ha => .inl ha)
/-- a draw that tells a new thing -/
theorem Hs.newM (h : Hs T0 (tB b :: Ts) H) (m : Mv b.1 H H') (g : Bag b H') (n : H p = none) (e : H' p = some o) (pl : plain o := by exact trivial) : Hs T0 (tB b :: tO p o :: Ts) H' := by
  have h2 : Hs T0 (tO p o :: tB b :: Ts) H' := (h.opNew (T := tB b) (T' := tB b) (N := tO p o) 0 rfl (mvf_bag m g) (fun a ha => .inl ha) g (fun a ha => .inl ha) ⟨e, pl⟩ (fun a ha => by
    rw [in1 ha]
    refine ⟨n, fun z => ?_⟩
    rcases List.mem_cons.mp z with z | z
    · exact (h.bag.al.1) (z ▸ n)
    · exact (h.bag.al.2) (in1 z ▸ n)))
  exact h2.swap
/-- a new thing at the head -/
theorem Hs.newH (h : Hs T0 Ts H) (s : Same H H') (n : H p = none) (e : H' p = some o) (pl : plain o := by exact trivial) : Hs T0 (tO p o :: Ts) H' := h.new (T := tO p o) s ⟨e, pl⟩ (fun a ha => by rw [in1 ha]; exact n)
theorem Hs.newHU (h : Hs T0 Ts H) (n : H p = none) (pl : plain o := by exact trivial) : Hs T0 (tO p o :: Ts) (upd H p o) := h.newH (same_upd n) n upd_same pl
/-- a new thing, put behind the bag -/
theorem Hs.newB (h : Hs T0 (tB b :: Ts) H) (s : Same H H') (n : H p = none) (e : H' p = some o) (pl : plain o := by exact trivial) : Hs T0 (tB b :: tO p o :: Ts) H' := (h.newH s n e pl).swap
theorem Hs.newU (h : Hs T0 (tB b :: Ts) H) (n : H p = none) (pl : plain o := by exact trivial) : Hs T0 (tB b :: tO p o :: Ts) (upd H p o) := h.newB (same_upd n) n upd_same pl
theorem Hs.put (h : Hs T0 Ts H) (i : Nat) (hi : Ts[i]? = some (tO p o)) (pl : plain o' := by exact trivial) : Hs T0 (Ts.set i (tO p o')) (upd H p o') :=
  h.op i hi (F := [p]) ((MvF.refl [p] H).upd (.head _)) (fun a ha => .inl ha) ⟨upd_same, pl⟩ (fun a ha => .inl ha)
theorem Hs.at (h : Hs T0 Ts H) (i : Nat) (hi : Ts[i]? = some (tO p o)) : H p = some o := (h.get i hi).1
end
/-! ### groups: several things seen as one -/
theorem sep_flat {Ts : List Th} {H : Hp} (h : Hs [] Ts H) : ∀ a ∈ Ts.flatMap (·.ft), ∃ o, H a = some o ∧ plain o := fun a ha => by
  obtain ⟨T, hT, ha⟩ := List.mem_flatMap.mp ha
  obtain ⟨i, hi⟩ := List.getElem?_of_mem hT
  exact T.al H (h.all i T hi) a ha
def tG (Ts : List Th) : Th := ⟨Ts.flatMap (·.ft), fun H => Hs [] Ts H, fun H H' k h => ⟨fun i T hi => T.loc H H' (fun a ha => k a (List.mem_flatMap.mpr ⟨T, List.mem_of_getElem? hi, ha⟩)) (h.all i T hi), h.sep, fun p hp => absurd hp List.not_mem_nil⟩, fun H h a ha => sep_flat h a ha⟩
section
variable {T0 : List (Addr × Str)} {Ts Gs : List Th} {H : Hp}
theorem Hs.tabs0 (h : Hs T0 Ts H) : Hs [] Ts H := ⟨h.all, h.sep, fun p hp => absurd hp List.not_mem_nil⟩
theorem Hs.app : ∀ {As : List Th}, Hs [] As H → Hs T0 Ts H → (∀ x ∈ As, ∀ y ∈ Ts, ∀ a ∈ x.ft, a ∉ y.ft) → Hs T0 (As ++ Ts) H
  | [], _, h, _ => h
  | A :: As, g, h, d => (Hs.app g.tail h (fun x hx => d x (.tail _ hx))).cons g.head fun j y hj a ha hb => by
    rcases List.mem_append.mp (List.mem_of_getElem? hj) with hm | hm
    · exact g.apart hm a ha hb
    · exact d A (.head _) y hm a ha hb
theorem Hs.left : ∀ {As : List Th}, Hs T0 (As ++ Ts) H → Hs [] As H
  | [], _ => .nil (fun p hp => absurd hp List.not_mem_nil)
  | A :: As, h => (Hs.left (As := As) h.tail).cons h.head fun j y hj => h.apart (List.mem_append_left _ (List.mem_of_getElem? hj))
theorem Hs.right : ∀ {As : List Th}, Hs T0 (As ++ Ts) H → Hs T0 Ts H
  | [], h => h
  | _ :: As, h => Hs.right (As := As) h.tail
theorem Hs.cross : ∀ {As : List Th}, Hs T0 (As ++ Ts) H → ∀ x ∈ As, ∀ y ∈ Ts, ∀ a ∈ x.ft, a ∉ y.ft
  | A :: As, h, x, hx, y, hy => by
    rcases List.mem_cons.mp hx with rfl | hx
    · exact h.apart (List.mem_append_right _ hy)
    · exact Hs.cross (As := As) h.tail x hx y hy
theorem Hs.ungroup (h : Hs T0 (tG Ts :: Gs) H) : Hs T0 (Ts ++ Gs) H := Hs.app h.head h.tail (fun x hx y hy a ha hb => h.apart hy a (List.mem_flatMap.mpr ⟨x, hx, ha⟩) hb)
theorem Hs.group (h : Hs T0 (Ts ++ Gs) H) : Hs T0 (tG Ts :: Gs) H := h.right.cons h.left fun j y hj a ha hb => by
  obtain ⟨x, hx, ha⟩ := List.mem_flatMap.mp ha
  exact h.cross x hx y (List.mem_of_getElem? hj) a ha hb
end
section
variable {α : Type} {T0 : List (Addr × Str)} {As : List Th} {Y : List α} {f : α → Th} {w : Nat} {y y' : α} {H : Hp}
theorem perm_at : ∀ {Y : List α} {w : Nat} {y : α}, Y[w]? = some y → (y :: Y.eraseIdx w).Perm Y
  | x :: Y, 0, y, h => by cases h; exact .refl _
  | x :: Y, w + 1, y, h => (List.Perm.swap x y _).trans (.cons x (perm_at (Y := Y) (w := w) h))
theorem erase_set : ∀ (Y : List α) (w : Nat) (y : α), (Y.set w y).eraseIdx w = Y.eraseIdx w
  | [], _, _ => rfl
  | x :: Y, 0, y => rfl
  | x :: Y, w + 1, y => congrArg (x :: ·) (erase_set Y w y)
/-- the w-th one to the head -/
theorem Hs.front (h : Hs T0 (As ++ Y.map f) H) (hy : Y[w]? = some y) : Hs T0 (f y :: (As ++ (Y.eraseIdx w).map f)) H := by
  refine h.perm (List.Perm.trans ?_ List.perm_middle)
  exact .append_left As ((perm_at hy).map f).symm
theorem Hs.back (h : Hs T0 (f y' :: (As ++ (Y.eraseIdx w).map f)) H) (hw : w < Y.length) : Hs T0 (As ++ (Y.set w y').map f) H := by
  have hy : (Y.set w y')[w]? = some y' := by rw [List.getElem?_set, if_pos rfl, if_pos hw]
  have := perm_at hy
  rw [erase_set] at this
  refine h.perm (List.Perm.trans List.perm_middle.symm ?_)
  exact .append_left As (this.map f)
end
end WB
namespace WB
open PySem PySem.Spec PyProof.Rows L2
section
variable {X : Cx} (K : PySem.W.Frag)
theorem cr_sumK (h : X.K = K) (hc : X.calm = true) : CallR X (.builtin "sum") (rSum K) := by subst h; exact cr_sum hc
theorem cr_minK (h : X.K = K) (hc : X.calm = true) : CallR X (.builtin "min") (rMin K) := by subst h; exact cr_min hc
theorem cr_maxK (h : X.K = K) (hc : X.calm = true) : CallR X (.builtin "max") (rMax K) := by subst h; exact cr_max hc
end
/-! ### while, by an invariant and a measure -/
def wN (Pv : L2.St → Hp → Prop) (μ : L2.St → Hp → Nat) (m : Nat) : L2.St → Hp → Prop := fun σ H => Pv σ H ∧ μ σ H < m
theorem wN_ok {Pv : L2.St → Hp → Prop} {μ : L2.St → Hp → Nat} {m : Nat} : ∀ σ' H', wN Pv μ m σ' H' → ∃ m', m' < m ∧ m' = μ σ' H' ∧ Pv σ' H' := fun _ _ h => ⟨_, h.2, rfl, h.1⟩
theorem while_w {c : TT} {tb : TS} {D : Ends} {σ : L2.St} {H : Hp} (Pv : L2.St → Hp → Prop) (μ : L2.St → Hp → Nat) (h0 : Pv σ H)
    (hs : ∀ σ H, Pv σ H → c σ H fun b H1 => if b = true then ∃ N : L2.St → Hp → Prop, (∀ σ' H', N σ' H' → ∃ m', m' < μ σ H ∧ m' = μ σ' H' ∧ Pv σ' H') ∧ tb { D with nx := N, ct := N, bk := D.nx } σ H1 else D.nx σ H1) : tWhile c tb D σ H := by
  refine ⟨fun m σ H => m = μ σ H ∧ Pv σ H, ⟨_, rfl, h0⟩, ?_⟩
  rintro m σ H ⟨rfl, p⟩
  exact hs σ H p
/-! ### defs with keyword-only parameters: n written by place, keywords named ks; gV puts them in the parameters' order -/
def CalW (P : Program) (w : World) (K : PySem.W.Frag) (mg : Str → Option Value) (base : Heap) (k : Nat) (nm : Str) (ps : List Str) (n : Nat) (ks : List Str) (gV : List V → List V → List V) (sp : Sp) : Prop :=
  ∃ (f : Addr) (fd : FuncData) (g : List Value → List Value → List Value), FnOk P w K mg base (L2.CX P w) k f fd ps sp ∧ mg nm = some (.ref f) ∧ PySem.W.keepIn K (.ref f) = true ∧ KBn K fd ps n ks g gV
theorem CalW.mono {P : Program} {w : World} {K : PySem.W.Frag} {mg : Str → Option Value} {base : Heap} {j k n : Nat} {nm : Str} {ps ks : List Str} {gV : List V → List V → List V} {sp : Sp} (c : CalW P w K mg base j nm ps n ks gV sp) (h : j ≤ k) : CalW P w K mg base k nm ps n ks gV sp := by
  obtain ⟨f, fd, g, a, b, d, e⟩ := c
  exact ⟨f, fd, g, a.mono h, b, d, e⟩
/-- with the keyword-only ones left out: dvs their values -/
def CalD (P : Program) (w : World) (K : PySem.W.Frag) (mg : Str → Option Value) (base : Heap) (k : Nat) (nm : Str) (ps : List Str) (dvs : List V) (sp : Sp) : Prop :=
  ∃ (f : Addr) (fd : FuncData) (ds : List Value), FnOk P w K mg base (L2.CX P w) k f fd ps sp ∧ mg nm = some (.ref f) ∧ PySem.W.keepIn K (.ref f) = true ∧ Binds K fd ps ds ∧ Vals dvs ds
theorem CalD.mono {P : Program} {w : World} {K : PySem.W.Frag} {mg : Str → Option Value} {base : Heap} {j k : Nat} {nm : Str} {ps : List Str} {dvs : List V} {sp : Sp} (c : CalD P w K mg base j nm ps dvs sp) (h : j ≤ k) : CalD P w K mg base k nm ps dvs sp := by
  obtain ⟨f, fd, g, a, b, d, e⟩ := c
  exact ⟨f, fd, g, a.mono h, b, d, e⟩
/-- new things of the class at C, by keywords -/
def CalNW (P : Program) (w : World) (K : PySem.W.Frag) (mg : Str → Option Value) (base : Heap) (k : Nat) (nm : Str) (C : Addr) (ps ks : List Str) (gV : List V → List V → List V) (sp : Sp) : Prop :=
  ∃ (f : Addr) (fd : FuncData) (g : List Value → List Value → List Value), Mk K C f ∧ FnOk P w K mg base (L2.CX P w) k f fd ps sp ∧ mg nm = some (.ref C) ∧ KBn K fd ps 1 ks g gV
theorem CalNW.mono {P : Program} {w : World} {K : PySem.W.Frag} {mg : Str → Option Value} {base : Heap} {j k : Nat} {nm : Str} {C : Addr} {ps ks : List Str} {gV : List V → List V → List V} {sp : Sp} (c : CalNW P w K mg base j nm C ps ks gV sp) (h : j ≤ k) : CalNW P w K mg base k nm C ps ks gV sp := by
  obtain ⟨f, fd, g, a, b, d, e⟩ := c
  exact ⟨f, fd, g, a, b.mono h, d, e⟩
/-- and with the keyword-only ones left out -/
def CalND (P : Program) (w : World) (K : PySem.W.Frag) (mg : Str → Option Value) (base : Heap) (k : Nat) (nm : Str) (C : Addr) (ps : List Str) (dvs : List V) (sp : Sp) : Prop :=
  ∃ (f : Addr) (fd : FuncData) (ds : List Value), Mk K C f ∧ FnOk P w K mg base (L2.CX P w) k f fd ps sp ∧ mg nm = some (.ref C) ∧ Binds K fd ps ds ∧ Vals dvs ds
theorem CalND.mono {P : Program} {w : World} {K : PySem.W.Frag} {mg : Str → Option Value} {base : Heap} {j k : Nat} {nm : Str} {C : Addr} {ps : List Str} {dvs : List V} {sp : Sp} (c : CalND P w K mg base j nm C ps dvs sp) (h : j ≤ k) : CalND P w K mg base k nm C ps dvs sp := by
  obtain ⟨f, fd, g, a, b, d, e⟩ := c
  exact ⟨f, fd, g, a, b.mono h, d, e⟩
section
variable {X : Cx} {k n : Nat} {C : Addr} {ps ks : List Str} {sp : Sp} {E : XK} {nm : Str} {p pos : Pos} {e : Expr} {es : List Expr} {kws : List Keyword} {t tk : TA} {gV : List V → List V → List V} {dvs : List V}
theorem pe_callW (c : CalW X.prog X.w X.K X.mg X.base k nm ps n ks gV sp) (hr : Room k X.A) (hx : Passes (L2.CX X.prog X.w) X E) (hg : Gl X nm) (ha : PA X (e :: es) t) (hkw : PK X kws tk)
    (hall : (backToKw pos (keywordEach kws X.env)).all (·.1.isSome) = true := by rfl) (hks : (backToKw pos (keywordEach kws X.env)).filterMap (·.1) = ks := by rfl)
    (hdb : (nm == ("__debug__" : Str)) = false := by decide) (he : starEach (e :: es) X.env = (false, eval e X.env) :: starEach es X.env := by rfl)
    (hpl : ((backTo pos (starEach (e :: es) X.env)).any (·.1) || (backToKw pos (keywordEach kws X.env)).any (·.1.isNone)) = false := by rfl) :
    PE X (.Call (.Name nm p) (e :: es) kws pos) (tCallN n ks.length sp gV E t tk) := by
  obtain ⟨f, fd, g, a, b, d, q⟩ := c
  exact pe_callN a hr hg b d q hx ha hkw hall hks hdb he hpl
theorem pe_callWF (c : CalW X.prog X.w X.K X.mg X.base k nm ps n ks gV sp) (hr : Room k X.A) (hg : Gl X nm) (ha : PA X (e :: es) t) (hkw : PK X kws tk)
    (hall : (backToKw pos (keywordEach kws X.env)).all (·.1.isSome) = true := by rfl) (hks : (backToKw pos (keywordEach kws X.env)).filterMap (·.1) = ks := by rfl)
    (hdb : (nm == ("__debug__" : Str)) = false := by decide) (he : starEach (e :: es) X.env = (false, eval e X.env) :: starEach es X.env := by rfl)
    (hpl : ((backTo pos (starEach (e :: es) X.env)).any (·.1) || (backToKw pos (keywordEach kws X.env)).any (·.1.isNone)) = false := by rfl) :
    PE X (.Call (.Name nm p) (e :: es) kws pos) (tCallN n ks.length sp gV E0 t tk) := pe_callW c hr passL hg ha hkw hall hks hdb he hpl
/-- keywords alone -/
theorem pe_callW0 (c : CalW X.prog X.w X.K X.mg X.base k nm ps 0 ks gV sp) (hr : Room k X.A) (hx : Passes (L2.CX X.prog X.w) X E) (hg : Gl X nm) (hkw : PK X kws tk)
    (hall : (backToKw pos (keywordEach kws X.env)).all (·.1.isSome) = true := by rfl) (hks : (backToKw pos (keywordEach kws X.env)).filterMap (·.1) = ks := by rfl) (hdb : (nm == ("__debug__" : Str)) = false := by decide)
    (hpl : ((backTo pos (starEach [] X.env)).any (·.1) || (backToKw pos (keywordEach kws X.env)).any (·.1.isNone)) = false := by rfl) :
    PE X (.Call (.Name nm p) [] kws pos) (tCallN 0 ks.length sp gV E tNil tk) := by
  obtain ⟨f, fd, g, a, b, d, hb⟩ := c
  refine ⟨fun pins s σ H Q I h => wpAny_Call_Name_kw (ld_glob I hg b ?_ hdb)⟩
  refine PySem.W.callWith_KW0 (I.ok.mod.kin) d hall (thn (hkw.run pos pins s σ H _ I h) fun ws s2 x => ?_) hpl
  obtain ⟨zs, H2, I2, rz, l1, l2, q2⟩ := x
  refine ⟨I2.kIn, ?_⟩
  rw [hks]
  exact run_fnN (us := []) (vs := []) a hr hb hx I2 .nil rz rfl l2 q2
theorem pe_callW0F (c : CalW X.prog X.w X.K X.mg X.base k nm ps 0 ks gV sp) (hr : Room k X.A) (hg : Gl X nm) (hkw : PK X kws tk)
    (hall : (backToKw pos (keywordEach kws X.env)).all (·.1.isSome) = true := by rfl) (hks : (backToKw pos (keywordEach kws X.env)).filterMap (·.1) = ks := by rfl) (hdb : (nm == ("__debug__" : Str)) = false := by decide)
    (hpl : ((backTo pos (starEach [] X.env)).any (·.1) || (backToKw pos (keywordEach kws X.env)).any (·.1.isNone)) = false := by rfl) :
    PE X (.Call (.Name nm p) [] kws pos) (tCallN 0 ks.length sp gV E0 tNil tk) := pe_callW0 c hr passL hg hkw hall hks hdb hpl
/-- the keyword-only ones left out -/
theorem pe_callD (c : CalD X.prog X.w X.K X.mg X.base k nm ps dvs sp) (hr : Room k X.A) (hx : Passes (L2.CX X.prog X.w) X E) (hg : Gl X nm) (ha : PA X (e :: es) t) (hdb : (nm == ("__debug__" : Str)) = false := by decide)
    (he : starEach (e :: es) X.env = (false, eval e X.env) :: starEach es X.env := by rfl) (hpl : (backTo pos (starEach es X.env)).any (·.1) = false := by rfl) :
    PE X (.Call (.Name nm p) (e :: es) [] pos) (tCall sp dvs E t) := by
  obtain ⟨f, fd, ds, a, b, d, q, v⟩ := c
  exact pe_call a hr hg b d q v hx ha hdb he hpl
theorem pe_callDF (c : CalD X.prog X.w X.K X.mg X.base k nm ps dvs sp) (hr : Room k X.A) (hg : Gl X nm) (ha : PA X (e :: es) t) (hdb : (nm == ("__debug__" : Str)) = false := by decide)
    (he : starEach (e :: es) X.env = (false, eval e X.env) :: starEach es X.env := by rfl) (hpl : (backTo pos (starEach es X.env)).any (·.1) = false := by rfl) :
    PE X (.Call (.Name nm p) (e :: es) [] pos) (tCall sp dvs E0 t) := pe_callD c hr passL hg ha hdb he hpl
theorem pe_callD0F (c : CalD X.prog X.w X.K X.mg X.base k nm ps dvs sp) (hr : Room k X.A) (hg : Gl X nm) (hdb : (nm == ("__debug__" : Str)) = false := by decide) :
    PE X (.Call (.Name nm p) [] [] pos) (tCall sp dvs E0 tNil) := by
  obtain ⟨f, fd, ds, a, b, d, q, v⟩ := c
  exact pe_call0 a hr hg b d q v passL hdb
theorem pe_makeW (c : CalNW X.prog X.w X.K X.mg X.base k nm C ps ks gV sp) (hr : Room (k + 1) X.A) (hx : Passes (L2.CX X.prog X.w) X E) (hg : Gl X nm) (hkw : PK X kws tk)
    (hall : (backToKw pos (keywordEach kws X.env)).all (·.1.isSome) = true := by rfl) (hks : (backToKw pos (keywordEach kws X.env)).filterMap (·.1) = ks := by rfl) (hdb : (nm == ("__debug__" : Str)) = false := by decide)
    (hpl : ((backTo pos (starEach [] X.env)).any (·.1) || (backToKw pos (keywordEach kws X.env)).any (·.1.isNone)) = false := by rfl) :
    PE X (.Call (.Name nm p) [] kws pos) (tMakeK C 0 ks.length sp gV E tNil tk) := by
  obtain ⟨f, fd, g, a, b, d, hb⟩ := c
  exact pe_makeK0 a b hr hg d hb hx hkw hall hks hdb hpl
theorem pe_makeWF (c : CalNW X.prog X.w X.K X.mg X.base k nm C ps ks gV sp) (hr : Room (k + 1) X.A) (hg : Gl X nm) (hkw : PK X kws tk)
    (hall : (backToKw pos (keywordEach kws X.env)).all (·.1.isSome) = true := by rfl) (hks : (backToKw pos (keywordEach kws X.env)).filterMap (·.1) = ks := by rfl) (hdb : (nm == ("__debug__" : Str)) = false := by decide)
    (hpl : ((backTo pos (starEach [] X.env)).any (·.1) || (backToKw pos (keywordEach kws X.env)).any (·.1.isNone)) = false := by rfl) :
    PE X (.Call (.Name nm p) [] kws pos) (tMakeK C 0 ks.length sp gV E0 tNil tk) := pe_makeW c hr passL hg hkw hall hks hdb hpl
theorem pe_makeDF (c : CalND X.prog X.w X.K X.mg X.base k nm C ps dvs sp) (hr : Room (k + 1) X.A) (hg : Gl X nm) (hdb : (nm == ("__debug__" : Str)) = false := by decide) :
    PE X (.Call (.Name nm p) [] [] pos) (tMake C sp dvs E0 tNil) := by
  obtain ⟨f, fd, ds, a, b, d, hb, v⟩ := c
  exact pe_make0 a b hr hg d hb v passL hdb
end
/-! ### defs as values, called out of a list -/
def tGl (mg : Str → Option Value) (nm : Str) : TE := fun _ H Q => ∀ f, mg nm = some (.ref f) → Q (.ref f) H
def tCall2 (mg : Str → Option Value) (nm1 nm2 : Str) (sp1 sp2 : Sp) (tf : TE) (t : TA) : TE := fun σ H Q => tf σ H fun y H1 => ∃ f, y = .ref f ∧ ((mg nm1 = some (.ref f) ∧ t σ H1 fun vs H2 => sp1 (vs ++ []) H2 Q E0) ∨ (mg nm2 = some (.ref f) ∧ t σ H1 fun vs H2 => sp2 (vs ++ []) H2 Q E0))
section
variable {X : Cx} {k : Nat} {nm nm1 nm2 : Str} {ps ps1 ps2 : List Str} {sp sp1 sp2 : Sp} {fe e : Expr} {es : List Expr} {tf : TE} {t : TA} {p pos : Pos}
theorem pe_gl (c : Cal X.prog X.w X.K X.mg X.base k nm ps sp) (mg : Str → Option Value) (hm : X.mg = mg) (hg : Gl X nm) (hdb : (nm == ("__debug__" : Str)) = false := by decide) : PE X (.Name nm p) (tGl mg nm) := by
  subst hm
  obtain ⟨f, fd, a, b, d, g⟩ := c
  refine ⟨fun pins s σ H Q I h => ?_⟩
  exact (pe_glob (v := .ref f) (pos := p) hg b rfl hdb).run pins s σ H Q I (h f b)
theorem pe_call2 (c1 : Cal X.prog X.w X.K X.mg X.base k nm1 ps1 sp1) (c2 : Cal X.prog X.w X.K X.mg X.base k nm2 ps2 sp2) (mg : Str → Option Value) (hm : X.mg = mg) (hf : PE X fe tf) (hr : Room k X.A) (ha : PA X (e :: es) t)
    (ht : eval (.Call fe (e :: es) [] pos) X.env = (do callWith pos (← eval fe X.env) [] (backTo pos (starEach (e :: es) X.env)) (backToKw pos (keywordEach [] X.env))) := by rfl)
    (he : starEach (e :: es) X.env = (false, eval e X.env) :: starEach es X.env := by rfl) (hpl : (backTo pos (starEach es X.env)).any (·.1) = false := by rfl) : PE X (.Call fe (e :: es) [] pos) (tCall2 mg nm1 nm2 sp1 sp2 tf t) := by
  subst hm
  obtain ⟨f1, fd1, a1, b1, d1, g1⟩ := c1
  obtain ⟨f2, fd2, a2, b2, d2, g2⟩ := c2
  refine ⟨fun pins s σ H Q I h => ?_⟩
  refine Call_ (thn (hf.run pins s σ H _ I h) fun u s1 ⟨y, H1, I1, ry, f, ey, q⟩ => ?_) ht
  subst ey
  obtain rfl : u = Value.ref f := ry
  rcases q with ⟨m, q⟩ | ⟨m, q⟩
  · obtain rfl : f1 = f := by
      rw [b1] at m
      cases m
      rfl
    refine PySem.W.callWith_K (h₀ := X.base) I.ok.mod.kin d1 (thn (ha.run pos pins s1 σ _ _ I1 q) fun us s2 ⟨vs, H2, I2, r, q⟩ => ⟨I2.kIn, ?_⟩) he hpl
    exact run_fn a1 hr g1 .nil pass0 I2 r q
  · obtain rfl : f2 = f := by
      rw [b2] at m
      cases m
      rfl
    refine PySem.W.callWith_K (h₀ := X.base) I.ok.mod.kin d2 (thn (ha.run pos pins s1 σ _ _ I1 q) fun us s2 ⟨vs, H2, I2, r, q⟩ => ⟨I2.kIn, ?_⟩) he hpl
    exact run_fn a2 hr g2 .nil pass0 I2 r q
end
section
variable {K : PySem.W.Frag} {x qual y : Str} {params : Arguments} {body : List Stmt} {scope : Scope} {kws : List (Str × V)} {f : Addr} {fd : FuncData} {ps : List Str} {v : V}
theorem kbn_app (F : FunD K x qual params body scope [] kws f fd) (n : Nat) (ks : List Str) (hk : kws ≠ [])
    (h : ∀ (D : Addr) (doc pm : Value) (an : Option Addr) (cdv ct : Value) (us ws : List Value), us.length = n → ws.length = ks.length → bindArgs (PySem.W.fnOf x qual params body scope .none (.ref D) doc pm an cdv ct) ⟨us, ks.zip ws⟩ = pure (ps.zip (us ++ ws))) :
    ∃ g, KBn K fd ps n ks g (fun vs zs => vs ++ zs) := by
  obtain ⟨mv, h⟩ := F.kbinds0 (ps := ps) n ks [] (fun {α} us mv ws => us ++ ws) hk (fun q hq => by cases hq) (fun r1 _ r3 => r1.append r3) (fun D doc pm an cdv ct us mv ws l1 l2 l3 => by
    have : mv = [] := List.eq_nil_of_length_eq_zero l2
    subst this
    exact h D doc pm an cdv ct us ws l1 l3)
  exact ⟨_, h⟩
/-- two keywords, in the other order -/
theorem kbn_two (F : FunD K x qual params body scope [] kws f fd) (ks : List Str) (hk : kws ≠ []) (h2 : ks.length = 2)
    (h : ∀ (D : Addr) (doc pm : Value) (an : Option Addr) (cdv ct : Value) (u v : Value), bindArgs (PySem.W.fnOf x qual params body scope .none (.ref D) doc pm an cdv ct) ⟨[], ks.zip [u, v]⟩ = pure (ps.zip [v, u])) :
    ∃ g, KBn K fd ps 0 ks g (fun vs zs => vs ++ two zs) := by
  obtain ⟨mv, h⟩ := F.kbinds0 (ps := ps) 0 ks [] (fun {α} us mv ws => us ++ two ws) hk (fun q hq => by cases hq) (fun r1 _ r3 => r1.append (by
    cases r3 with
    | nil => exact .nil
    | cons a r => cases r with
      | nil => exact .nil
      | cons b r => cases r with
        | nil => exact .cons b (.cons a .nil)
        | cons _ _ => exact .nil)) (fun D doc pm an cdv ct us mv ws l1 l2 l3 => by
    have : mv = [] := List.eq_nil_of_length_eq_zero l2
    subst this
    have : us = [] := List.eq_nil_of_length_eq_zero l1
    subst this
    rw [h2] at l3
    match ws, l3 with
    | [u, v], _ => exact h D doc pm an cdv ct u v)
  exact ⟨_, h⟩
theorem dfl_one (F : FunD K x qual params body scope [] [(y, v)] f fd) (n : Nat) (hn : n + 1 = ps.length)
    (h : ∀ (D : Addr) (doc pm : Value) (an : Option Addr) (cdv ct : Value) (us : List Value) (u : Value), us.length = n → KwChain D [(y, u)] (bindArgs (PySem.W.fnOf x qual params body scope .none (.ref D) doc pm an cdv ct) ⟨us, []⟩) (ps.zip (us ++ [u]))) :
    ∃ ds, Vals [v] ds ∧ Binds K fd ps ds := F.binds0 n (by intro z; cases z) hn (fun D doc pm an cdv ct us ks l1 l2 => by
  match ks, l2 with
  | [u], _ => exact h D doc pm an cdv ct us u l1)
theorem funD_one {oc : Value} {od an : Option Addr} {dc pm cd ct : Value} {sl : Array (Option Value)} {D : Addr} {u : Value} (l : K.lookup f = some ⟨oc, od, .func (PySem.W.fnOf x qual params body scope .none (.ref D) dc pm an cd ct), sl⟩) (c : PySem.W.codeIn K cd qual = true) (k : PySem.W.keepIn K (.ref f) = true)
    (n : PySem.W.nsIn K D y = some (some u)) (r : RelV v u) : FunD K x qual params body scope [] [(y, v)] f (PySem.W.fnOf x qual params body scope .none (.ref D) dc pm an cd ct) :=
  ⟨⟨_, _, _, _, _, _, _, _, _, _, rfl, l, c, .inl ⟨rfl, rfl⟩, .inr ⟨D, rfl, fun q hq => by rw [List.mem_singleton.mp hq]; exact ⟨u, n, r⟩⟩⟩, k⟩
end
end WB
namespace WB
open PySem PySem.Spec PyProof.Rows L2
/-! ### many things of one kind, as one -/
section
variable {α : Type} {T0 : List (Addr × Str)} {Ts : List Th} {Y : List α} {f : α → Th} {i j : Nat} {y y' z : α} {H H' : Hp} {N : Th}
theorem mem_tG {a : Addr} : a ∈ (tG (Y.map f)).ft ↔ ∃ y ∈ Y, a ∈ (f y).ft := by
  show a ∈ (Y.map f).flatMap (·.ft) ↔ _
  rw [List.mem_flatMap]
  constructor
  · rintro ⟨T, hT, ha⟩
    obtain ⟨y, hy, rfl⟩ := List.mem_map.mp hT
    exact ⟨y, hy, ha⟩
  · rintro ⟨y, hy, ha⟩
    exact ⟨f y, List.mem_map.mpr ⟨y, hy, rfl⟩, ha⟩
theorem map_at (hj : Y[j]? = some y) : (Y.map f)[j]? = some (f y) := by
  rw [List.getElem?_map, hj]
  rfl
theorem Hs.gget (h : Hs T0 Ts H) (i : Nat) (hi : Ts[i]? = some (tG (Y.map f))) (hj : Y[j]? = some y) : (f y).P H := by
  have g : Hs [] (Y.map f) H := h.get i hi
  exact g.get j (map_at hj)
theorem gset_ft (hj : Y[j]? = some y) (hf : ∀ a ∈ (f y').ft, a ∈ (f y).ft ∨ H a = none) : ∀ a ∈ (tG ((Y.set j y').map f)).ft, a ∈ (tG (Y.map f)).ft ∨ H a = none := fun a ha => by
  obtain ⟨z, hz, ha⟩ := mem_tG.mp ha
  rcases List.mem_or_eq_of_mem_set hz with q | q
  · exact .inl (mem_tG.mpr ⟨z, q, ha⟩)
  · rw [q] at ha
    exact (hf a ha).imp (fun x => mem_tG.mpr ⟨y, List.mem_of_getElem? hj, x⟩) id
theorem gset_P {F : List Addr} (g : Hs [] (Y.map f) H) (hj : Y[j]? = some y) (m : MvF F H H') (hF : ∀ a ∈ F, a ∈ (f y).ft ∨ H a = none) (hp : (f y').P H') (hf : ∀ a ∈ (f y').ft, a ∈ (f y).ft ∨ H a = none) : (tG ((Y.set j y').map f)).P H' := by
  have := g.op (T' := f y') j (map_at hj) m hF hp hf
  rw [← List.map_set] at this
  exact this
theorem Hs.gset {F : List Addr} (h : Hs T0 Ts H) (i : Nat) (hi : Ts[i]? = some (tG (Y.map f))) (hj : Y[j]? = some y) (m : MvF F H H') (hF : ∀ a ∈ F, a ∈ (f y).ft ∨ H a = none) (hp : (f y').P H') (hf : ∀ a ∈ (f y').ft, a ∈ (f y).ft ∨ H a = none) : Hs T0 (Ts.set i (tG ((Y.set j y').map f))) H' :=
  h.op i hi m (fun a ha => (hF a ha).imp (fun x => mem_tG.mpr ⟨y, List.mem_of_getElem? hj, x⟩) id) (gset_P (h.get i hi) hj m hF hp hf) (gset_ft hj hf)
/-- the j-th changes, and a new one comes -/
theorem Hs.gsetN {F : List Addr} (h : Hs T0 Ts H) (i : Nat) (hi : Ts[i]? = some (tG (Y.map f))) (hj : Y[j]? = some y) (m : MvF F H H') (hF : ∀ a ∈ F, a ∈ (f y).ft ∨ H a = none) (hp : (f y').P H') (hf : ∀ a ∈ (f y').ft, a ∈ (f y).ft ∨ H a = none)
    (hn : N.P H') (hnf : ∀ a ∈ N.ft, H a = none ∧ a ∉ (f y').ft) : Hs T0 (N :: Ts.set i (tG ((Y.set j y').map f))) H' := by
  refine h.opNew i hi m (fun a ha => (hF a ha).imp (fun x => mem_tG.mpr ⟨y, List.mem_of_getElem? hj, x⟩) id) (gset_P (h.get i hi) hj m hF hp hf) (gset_ft hj hf) hn (fun a ha => ⟨(hnf a ha).1, fun q => ?_⟩)
  obtain ⟨z, hz, hz2⟩ := mem_tG.mp q
  rcases List.mem_or_eq_of_mem_set hz with q | q
  · have g : Hs [] (Y.map f) H := h.get i hi
    obtain ⟨k, hk⟩ := List.getElem?_of_mem q
    exact (f z).live (g.get k (map_at hk)) hz2 (hnf a ha).1
  · rw [q] at hz2
    exact (hnf a ha).2 hz2
theorem Hs.gadd (h : Hs T0 (f z :: tG (Y.map f) :: Ts) H) : Hs T0 (tG ((Y ++ [z]).map f) :: Ts) H := by
  have h1 := h.swap.ungroup
  rw [show Y.map f ++ f z :: Ts = (Y ++ [z]).map f ++ Ts by simp] at h1
  exact h1.group
theorem Hs.gnil (h : Hs T0 Ts H) : Hs T0 (tG (([] : List α).map f) :: Ts) H := Hs.group (Ts := []) h
end
theorem map_set_same {α β : Type} {f : α → β} {Y : List α} {w : Nat} {x x' : α} (h : Y[w]? = some x) (e : f x' = f x) : (Y.set w x').map f = Y.map f := by
  rw [List.map_set, e]
  apply List.ext_getElem?
  intro i
  rw [List.getElem?_set]
  by_cases z : w = i
  · subst z
    rw [if_pos rfl, List.getElem?_map, h, List.length_map, if_pos (List.getElem?_eq_some_iff.mp h).1]
    rfl
  · rw [if_neg z]
theorem const_by {v : V} {i : Nat} {u : TS} {D : Ends} {σ : L2.St} {H : Hp} (h : u D (σ.set i (some v)) H) : tSeq (tAsg (tC v) (gName i)) u D σ H := h
theorem getElem?_ex {α : Type} {l : List α} {i : Nat} (h : i < l.length) : ∃ x, l[i]? = some x := ⟨_, List.getElem?_eq_getElem h⟩
end WB
namespace WB
open PySem PySem.Spec PyProof.Rows L2
/-! ### tuples of ints, ordered -/
def tupD (t : List Int) : PyData := .tuple (t.map PyData.int)
/-- the first difference decides -/
def lexB : List Int → List Int → Bool
  | [], [] => false
  | [], _ :: _ => true
  | _ :: _, [] => false
  | x :: xs, y :: ys => if x = y then lexB xs ys else decide (x < y)
theorem lexB_eq : ∀ xs ys : List Int, PySem.W.listLt xs ys = lexB xs ys
  | [], [] => rfl
  | [], _ :: _ => rfl
  | _ :: _, [] => rfl
  | x :: xs, y :: ys => by
    unfold PySem.W.listLt lexB
    rw [lexB_eq xs ys]
    rfl
theorem dataLt_tup (s t : List Int) : PySem.W.dataLt (tupD s) (tupD t) = lexB s t := by
  have h := PySem.W.DatumOrd.lt_eq (α := PySem.W.Tup Int) ⟨s⟩ ⟨t⟩
  rw [← lexB_eq]
  exact h
def minT (x : List Int) (r : List (List Int)) : List Int := r.foldl (fun a y => if lexB y a = true then y else a) x
theorem minD_tup : ∀ (r : List (List Int)) (x : List Int), PySem.W.minD (tupD x) (r.map tupD) = tupD (minT x r)
  | [], x => rfl
  | y :: r, x => by
    show (r.map tupD).foldl _ (if PySem.W.dataLt (tupD y) (tupD x) = true then tupD y else tupD x) = tupD (r.foldl _ (if lexB y x = true then y else x))
    rw [dataLt_tup]
    cases lexB y x with
    | true => exact minD_tup r y
    | false => exact minD_tup r x
theorem alike_tup (s t : List Int) : PySem.W.alike (tupD s) (tupD t) = true := PySem.W.DatumOrd.alike (α := PySem.W.Tup Int) ⟨s⟩ ⟨t⟩
theorem depth_tups : ∀ ts : List (List Int), PyData.depthAll (ts.map tupD) ≤ 1
  | [] => Nat.zero_le _
  | t :: ts => by
    show max (PyData.depthAll (t.map PyData.int) + 1) (PyData.depthAll (ts.map tupD)) ≤ 1
    rw [depth_ints]
    exact Nat.max_le.mpr ⟨Nat.le_refl _, depth_tups ts⟩
section
variable {K : PySem.W.Frag}
theorem dpa_at {H : Hp} : ∀ {xs : List V} {ds : List PyData} {i : Nat} {x : V}, DpAll K H xs ds → xs[i]? = some x → ∃ d, ds[i]? = some d ∧ Dp K H x d
  | _, _, _, _, .nil, e => by simp at e
  | _, _, 0, _, .cons h _, e => by simp at e; subst e; exact ⟨_, rfl, h⟩
  | _, _, i + 1, x, .cons _ t, e => by
    obtain ⟨d, h1, h2⟩ := dpa_at (i := i) (x := x) t (by simpa using e)
    exact ⟨d, by simpa using h1, h2⟩
theorem dpa_int_inv {H : Hp} : ∀ {t : List Int} {xs : List V}, DpAll K H xs (t.map PyData.int) → xs = t.map V.int
  | [], _, .nil => rfl
  | _ :: _, _, .cons h r => by
    cases h
    rw [dpa_int_inv r]
    rfl
theorem dp_tup_inv {H : Hp} {v : V} {t : List Int} (h : Dp K H v (tupD t)) : ∃ p, v = .ref p ∧ SqT K H p (t.map V.int) := by
  cases h with
  | tup hs ha => exact ⟨_, rfl, by rw [← dpa_int_inv ha]; exact hs⟩
theorem dp_tup {H : Hp} {p : Addr} {t : List Int} (h : SqT K H p (t.map V.int)) : Dp K H (.ref p) (tupD t) := .tup h (dpa_ints t)
end
theorem tupD_inj {s t : List Int} (h : tupD s = tupD t) : s = t := by
  have h1 : s.map PyData.int = t.map PyData.int := PyData.tuple.inj h
  exact List.map_inj_right (fun _ _ e => PyData.int.inj e) |>.mp h1
/-- min of a list of tuples of ints: one of them, whose numbers are the least -/
def rMinT (K : PySem.W.Frag) : List V → Hp → VK → Prop := fun vs H Q => ∃ (a : Addr) (xs : List V) (x : List Int) (r : List (List Int)), vs = [.ref a] ∧ SqL K H a xs ∧ DpAll K H xs ((x :: r).map tupD) ∧ ∀ (i : Nat) (p : Addr), xs[i]? = some (.ref p) → (x :: r)[i]? = some (minT x r) → SqT K H p ((minT x r).map V.int) → Q (.ref p) H
theorem vals_at {xs : List V} {us : List Value} (h : Vals xs us) : ∀ {i : Nat} {u : Value}, us[i]? = some u → ∃ x, xs[i]? = some x ∧ RelV x u := by
  induction h with
  | nil => intro i u e; simp at e
  | cons a r ih =>
    intro i u e
    cases i with
    | zero => simp at e; subst e; exact ⟨_, rfl, a⟩
    | succ i =>
      obtain ⟨x, h1, h2⟩ := ih (i := i) (u := u) (by simpa using e)
      exact ⟨x, by simpa using h1, h2⟩
section
variable {X : Cx}
theorem cr_minT (hu : X.A.units + 64 < cLine) (hc : X.calm = true) : CallR X (.builtin "min") (rMinT X.K) := by
  intro pins s σ H vs us Q I r h
  obtain ⟨a, xs, x, rs, rfl, hs, hd, q⟩ := h
  obtain ⟨its, rv, hl, _⟩ := I.list hs
  rw [Vals.ref1 r]
  obtain ⟨as, hr⟩ := Dp.readsAll I _ _ _ hd rv
  have hdep := depth_tups (x :: rs)
  refine PySem.W.min_list_data (vs := its.toArray) (x := tupD x) (xs := rs.map tupD) (I.ok.hd hc) hl.isList hr ⟨?_, ?_⟩ ?_ fun i v h' tk bs hi hv hk => ?_
  · intro y hy z hz
    obtain ⟨t1, _, rfl⟩ := List.mem_map.mp (show y ∈ (x :: rs).map tupD from hy)
    obtain ⟨t2, _, rfl⟩ := List.mem_map.mp (show z ∈ (x :: rs).map tupD from hz)
    exact alike_tup t1 t2
  · intro y hy
    obtain ⟨t1, _, rfl⟩ := List.mem_map.mp (show y ∈ (x :: rs).map tupD from hy)
    exact fun z => by cases z
  · have e : PyData.depthAll (tupD x :: rs.map tupD) ≤ 1 := hdep
    omega
  · rw [minD_tup] at hv
    obtain ⟨xv, h1, h2⟩ := vals_at rv (i := i) (u := v) (by simpa using hi)
    obtain ⟨d, e1, e2⟩ := dpa_at hd h1
    obtain ⟨cs, hv2⟩ := Dp.reads I d xv v e2 h2
    have e3 := (reads_det (h := s.heap) (h' := h') (fun b o e _ => hk b o e) hv2 hv).1
    rw [← e3] at e1 e2
    obtain ⟨p, rfl, hp⟩ := dp_tup_inv e2
    have e4 : (x :: rs)[i]? = some (minT x rs) := by
      rw [List.getElem?_map] at e1
      cases e5 : (x :: rs)[i]? with
      | none => rw [e5] at e1; cases e1
      | some t =>
        rw [e5] at e1
        rw [tupD_inj (Option.some.inj e1)]
    exact ⟨.ref p, H, I.kept hk, h2, q i p h1 e4 hp⟩
theorem cr_minTK (K : PySem.W.Frag) (h : X.K = K) (hu : X.A.units + 64 < cLine) (hc : X.calm = true) : CallR X (.builtin "min") (rMinT K) := by subst h; exact cr_minT hu hc
end
end WB
namespace WB
open PySem PySem.Spec PyProof.Rows L2
theorem mt_lcountK {X : Cx} (K : PySem.W.Frag) (h : X.K = K) : MtR X "list.count" (rCntI K) := by subst h; exact mt_lcount
theorem eq_t {a b : Int} (e : decide (V.int a = V.int b) = true) : a = b := V.int.inj (of_decide_eq_true e)
theorem eq_f {a b : Int} (e : ¬ decide (V.int a = V.int b) = true) : a ≠ b := fun z => e (decide_eq_true (congrArg V.int z))
theorem ne_t {a b : Int} (e : (!decide (V.int a = V.int b)) = true) : a ≠ b := fun z => by
  rw [decide_eq_true (congrArg V.int z)] at e
  cases e
theorem ne_f {a b : Int} (e : ¬ (!decide (V.int a = V.int b)) = true) : a = b := by
  by_cases z : a = b
  · exact z
  · exact absurd (by rw [decide_eq_false (fun y => z (V.int.inj y))]; rfl) e
end WB
namespace WB
open PySem PySem.Spec PyProof.Rows L2
/-! ### zip of two sequences, each a list (true) or a tuple (false) -/
def SqK (K : PySem.W.Frag) : Bool → Hp → Addr → List V → Prop
  | true, H, a, xs => SqL K H a xs
  | false, H, a, xs => SqT K H a xs
def KIt : Bool → Heap → Addr → Addr → Nat → Prop
  | true, h, it, a, i => h.IsListIter it a i
  | false, h, it, a, i => h.IsTupleIter it a i
def KSeq : Bool → Heap → Addr → Array Value → Prop
  | true, h, a, vs => h.IsList a vs
  | false, h, a, vs => h.IsTuple a vs
def kItO : Bool → Addr → Obj
  | true, a => { cls := .type "list_iterator", data := .fields #[.ref a, .int 0 0] }
  | false, a => { cls := .type "tuple_iterator", data := .fields #[.ref a, .int 0 0] }
theorem draws_k {P : Program} {w : World} {A : Around} (k : Bool) (hh : A.handled = none) (it l : Addr) (hne : l ≠ it) (vs : Array Value) :
    Draws P w A it [it, l] vs.size (fun i v => vs[i]? = some v) (fun i h => KIt k h it l i ∧ KSeq k h l vs) := by
  cases k with
  | true => exact Draws.list hh it l hne vs
  | false => exact Draws.tuple hh it l hne vs
theorem begins_k (k : Bool) (l : Addr) (vs : Array Value) : Begins (.ref l) (kItO k l) (fun h => KSeq k h l vs) := by
  cases k with
  | true => exact begins_list l vs
  | false => exact begins_tuple l vs
theorem kit_at {k : Bool} {h h' : Heap} {it a : Addr} {i : Nat} (x : KIt k h it a i) (e : ∀ o, h.get? it = some o → h'.get? it = some o) : KIt k h' it a i := by
  cases k with
  | true => exact Heap.IsListIter.at x e
  | false => exact Heap.IsTupleIter.at x e
theorem kit_obj {k : Bool} {h : Heap} {it a : Addr} {i : Nat} (x : KIt k h it a i) : ∃ o, h.get? it = some o ∧ ∀ v, o.data ≠ .cell v := by
  cases k with
  | true =>
    obtain ⟨o, e, _, d⟩ := x
    exact ⟨o, e, fun v q => by rw [d] at q; cases q⟩
  | false =>
    obtain ⟨o, e, _, d⟩ := x
    exact ⟨o, e, fun v q => by rw [d] at q; cases q⟩
theorem kit_new {k : Bool} {h : Heap} {it a : Addr} (e : h.get? it = some (kItO k a)) : KIt k h it a 0 := by
  cases k with
  | true => exact ⟨_, e, rfl, rfl⟩
  | false => exact ⟨_, e, rfl, rfl⟩
section
variable {X : Cx} {pins : List (Addr × Obj)} {σ : L2.St} {H : Hp} {s : Shared} {k : Bool} {a : Addr} {xs ys : List V}
theorem SqK.read (I : Inv X pins σ H s) (h : SqK X.K k H a xs) : ∃ its : List Value, Vals xs its ∧ KSeq k s.heap a its.toArray ∧ a < s.heap.objs.size := by
  cases k with
  | true =>
    obtain ⟨its, r, p, _⟩ := I.list h
    exact ⟨its, r, p.isList, p.lt⟩
  | false =>
    obtain ⟨its, r, p, _⟩ := I.tuple h
    obtain ⟨o, e, _⟩ := id p
    exact ⟨its, r, p, Heap.lt_size e⟩
theorem SqK.inj (I : Inv X pins σ H s) (h : SqK X.K k H a xs) (h' : SqK X.K k H a ys) : xs = ys := by
  cases k with
  | true => exact I.list_inj h h'
  | false => exact I.tuple_inj h h'
end
theorem SqK.same {K : PySem.W.Frag} {k : Bool} {H H' : Hp} {a : Addr} {xs : List V} (e : Same H H') (h : SqK K k H a xs) : SqK K k H' a xs := by
  cases k with
  | true => exact e.seq h
  | false => exact same_t e h
def Itz2 (K : PySem.W.Frag) (k1 k2 : Bool) (a b : Addr) : It where
  go i H := ∃ (xs ys : List V) (x y : V), SqK K k1 H a xs ∧ SqK K k2 H b ys ∧ xs[i]? = some x ∧ ys[i]? = some y
  yld i H v H' := ∃ (T : Addr) (x y : V), v = .ref T ∧ H T = none ∧ H' = upd H T (.tup [x, y]) ∧ (∀ l, SqK K k1 H a l → l[i]? = some x) ∧ ∀ l, SqK K k2 H b l → l[i]? = some y
  stop i H := ∃ (xs ys : List V), SqK K k1 H a xs ∧ SqK K k2 H b ys ∧ i ≤ xs.length ∧ i ≤ ys.length ∧ (i = xs.length ∨ i = ys.length)
theorem of5 {c z TI TO i1 i2 : Addr} (h : c ∈ [z, TI, TO, i1, i2]) : c = z ∨ c = TI ∨ c = TO ∨ c = i1 ∨ c = i2 := by simpa using h
theorem turn_z2 {P : Program} {w : World} {K : PySem.W.Frag} {elts : List Expr} {kk : Nat} {tpos : Pos} {k1 k2 : Bool} {a b z TI TO i1 i2 : Addr} (S : ZipSep2 z TI TO i1 i2 [i1, a] [i2, b]) (n1 : a ≠ i1) (n2 : b ≠ i2) :
    Turn P w K (.Tuple elts kk tpos) (Itz2 K k1 k2 a b) [z, TI, TO, i1, i2] z (fun i h => IsZip h z TI TO .none ∧ IsTupOf2 h TI (.ref i1) (.ref i2) ∧ (∃ x y, IsTupOf2 h TO x y) ∧ KIt k1 h i1 a i ∧ KIt k2 h i2 b i) where
  mem := .head _
  obj := by
    rintro i h ⟨hz, hI, ⟨x, y, hO⟩, h1, h2⟩ c hc
    rcases of5 hc with rfl | rfl | rfl | rfl | rfl
    · exact ⟨_, hz, fun v q => nomatch q⟩
    · exact ⟨_, hI, fun v q => nomatch q⟩
    · exact ⟨_, hO, fun v q => nomatch q⟩
    · exact kit_obj h1
    · exact kit_obj h2
  keep := by
    rintro i h h' ⟨hz, hI, ⟨x, y, hO⟩, h1, h2⟩ kp
    exact ⟨kp z (by simp) _ hz, kp TI (by simp) _ hI, ⟨x, y, kp TO (by simp) _ hO⟩, kit_at h1 (fun o => kp i1 (by simp) o), kit_at h2 (fun o => kp i2 (by simp) o)⟩
  item := by
    intro X hP hw hK hc i pins s σ H E I hf st hg
    subst hP hw hK
    obtain ⟨hz, hI, ⟨x0, y0, hO⟩, h1, h2⟩ := st
    obtain ⟨xs, ys, x, y, qx, qy, ex, ey⟩ := hg
    obtain ⟨us, ru, pu, _⟩ := qx.read I
    obtain ⟨vs, rv, pv, _⟩ := qy.read I
    obtain ⟨u, hu, rxu⟩ := ru.get ex
    obtain ⟨v, hv, ryv⟩ := rv.get ey
    have lz : z < s.heap.objs.size := Heap.lt_size hz
    have hh : X.A.in1.handled = none := I.ok.hd hc
    refine wpAny_pyNext_zipD2_item S (draws_k k1 hh i1 a n1 us.toArray) (draws_k k2 hh i2 b n2 vs.toArray) hz hI hO ⟨h1, pu⟩ ⟨h2, pv⟩ (by simpa using (List.getElem?_eq_some_iff.mp hu).1) (by simpa using (List.getElem?_eq_some_iff.mp hv).1) fun u' v' h' tk hu' hv' z' O' t1 t2 hT hsz keep => ?_
    obtain rfl : u = u' := by
      have : us[i]? = some u' := by simpa using hu'
      rw [hu] at this
      exact Option.some.inj this
    obtain rfl : v = v' := by
      have : vs[i]? = some v' := by simpa using hv'
      rw [hv] at this
      exact Option.some.inj this
    refine ⟨_, rfl, wpAny_letOwnedTupleGo_zip (s := { s with heap := h', toks := tk }) z' fun h'' z'' sb => ?_⟩
    have hT2 : h''.get? s.heap.objs.size = some { cls := .type "tuple", data := .seq #[u, v] } := (sb.2 _ (Nat.ne_of_gt lz)).trans hT
    have J : Inv X pins σ (upd H s.heap.objs.size (.tup [x, y])) { s with heap := h'', toks := tk } :=
      I.turnedNew (ch := [z, TI, TO, i1, i2]) (fun c o nc q => by
        have m : ∀ d, d ∈ [z, TI, TO, i1, i2] → c ≠ d := fun d hd e => nc (e ▸ hd)
        rw [sb.2 c (m z (by simp))]
        exact keep c o (m z (by simp)) (m TO (by simp)) (m i1 (by simp)) (m i2 (by simp)) q) hf (Nat.le_refl _) ⟨by show 2 ≤ sizeLine; decide, [u, v], .cons rxu (.cons ryv .nil), _, hT2, rfl, _, rfl⟩
    refine ⟨.ref s.heap.objs.size, _, J, rfl, ⟨_, x, y, rfl, I.hok.fresh (Nat.le_refl _), rfl, fun l hl => by rw [hl.inj I qx]; exact ex, fun l hl => by rw [hl.inj I qy]; exact ey⟩, ⟨z'', ?_, ⟨u, v, ?_⟩, ?_, ?_⟩, fun c hcm => ?_⟩
    · exact (sb.2 _ S.TIz).trans (keep _ _ S.TIz S.TITO S.TIi1 S.TIi2 hI)
    · exact (sb.2 _ S.TOz).trans O'
    · exact kit_at t1.1 (fun o q => (sb.2 _ S.zi1.symm).trans q)
    · exact kit_at t2.1 (fun o q => (sb.2 _ S.zi2.symm).trans q)
    · have lt : c < s.heap.objs.size := by
        rcases of5 hcm with rfl | rfl | rfl | rfl | rfl
        · exact lz
        · exact Heap.lt_size hI
        · exact Heap.lt_size hO
        · obtain ⟨o, e, _⟩ := kit_obj h1
          exact Heap.lt_size e
        · obtain ⟨o, e, _⟩ := kit_obj h2
          exact Heap.lt_size e
      rw [upd_ne (Nat.ne_of_lt lt)]
      exact (hf c hcm).1
  done := by
    intro X hP hw hK hc i pins s σ H E I hf st hg
    subst hP hw hK
    obtain ⟨hz, hI, ⟨x0, y0, hO⟩, h1, h2⟩ := st
    obtain ⟨xs, ys, qx, qy, l1, l2, he⟩ := hg
    obtain ⟨us, ru, pu, _⟩ := qx.read I
    obtain ⟨vs, rv, pv, _⟩ := qy.read I
    have e1 := ru.length
    have e2 := rv.length
    have hh : X.A.in1.handled = none := I.ok.hd hc
    refine wpAny_pyNext_zipD2_end S (draws_k k1 hh i1 a n1 us.toArray) (draws_k k2 hh i2 b n2 vs.toArray) hz hI hO ⟨h1, pu⟩ ⟨h2, pv⟩ (by simp; omega) (by simp; omega) (by simp; omega) fun h' tk keep => ⟨rfl, ?_⟩
    exact I.turnedL (ch := [z, TI, TO, i1, i2]) (fun c o nc q => by
      have m : ∀ d, d ∈ [z, TI, TO, i1, i2] → c ≠ d := fun d hd e => nc (e ▸ hd)
      exact keep c o (m z (by simp)) (m TO (by simp)) (m i1 (by simp)) (m i2 (by simp)) q) hf
  self := fun A i s Q E st h => wpAny_pyIter_zip st.1 h
def iZip2 (K : PySem.W.Frag) (ta : TA) : TI := fun σ H R => ta σ H fun vs H1 => ∃ (a b : Addr) (k1 k2 : Bool) (xs ys : List V), vs = [.ref a, .ref b] ∧ SqK K k1 H1 a xs ∧ SqK K k2 H1 b ys ∧ R (Itz2 K k1 k2 a b) H1
theorem pi_zip2 {X : Cx} (K : PySem.W.Frag) (hKK : X.K = K) {e e2 : Expr} {ta : TA} {p pos tpos : Pos} {elts : List Expr} {kk : Nat} (hg : Gl X "zip") (hm : X.mg "zip" = none) (ha : PA X [e, e2] ta)
    (hs : starEach [e, e2] X.env = (false, eval e X.env) :: starEach [e2] X.env := by rfl) (hpl : (backTo pos (starEach [e2] X.env)).any (·.1) = false := by rfl) :
    PI X (.Tuple elts kk tpos) (.Call (.Name "zip" p) [e, e2] [] pos) (iZip2 K ta) := by
  subst hKK
  refine ⟨fun pins s σ H R I h => ?_⟩
  refine Call_ (ld_blt I hg hm PyProof.Rows.boot_zip (PyProof.Rows.callWith_type1 (thn (ha.run pos pins s σ H _ I h) fun us s1 y => ?_) hs hpl))
  obtain ⟨vs, H1, I1, r1, a, b, k1, k2, xs, ys, rfl, qx, qy, q⟩ := y
  cases r1 with
  | cons r rr =>
    cases rr with
    | cons r' rr =>
      cases rr
      cases r
      cases r'
      obtain ⟨us, ru, pu, la⟩ := qx.read I1
      obtain ⟨ws, rw_, pw, lb⟩ := qy.read I1
      refine zip_begins2 (begins_k k1 a us.toArray) (begins_k k2 b ws.toArray) pu pw fun h' hz hI hO g1 g2 hsz keep => wpAny_pyIter_zip hz ?_
      refine ⟨s1.heap.objs.size + 4, [s1.heap.objs.size + 4, s1.heap.objs.size + 2, s1.heap.objs.size + 3, s1.heap.objs.size, s1.heap.objs.size + 1], _, _, H1, rfl, I1.kept (t' := s1.toks) keep, turn_z2 (zip_sep2 (N := s1.heap.objs.size) (fp1 := [a]) (fp2 := [b]) (fun c hc => by rw [List.mem_singleton.mp hc]; exact la) (fun c hc => by rw [List.mem_singleton.mp hc]; exact lb)) (Nat.ne_of_lt la) (Nat.ne_of_lt (Nat.lt_succ_of_lt lb)), ⟨hz, hI, ⟨_, _, hO⟩, kit_new g1, kit_new g2⟩, fun c hc => ?_, q⟩
      have le : s1.heap.objs.size ≤ c := by
        rcases of5 hc with z | z | z | z | z
        · rw [z]; exact Nat.le_add_right _ _
        · rw [z]; exact Nat.le_add_right _ _
        · rw [z]; exact Nat.le_add_right _ _
        · rw [z]; exact Nat.le_refl _
        · rw [z]; exact Nat.le_add_right _ _
      exact I1.fpOk le (I1.hok.fresh le)
theorem walk_z2 {K : PySem.W.Frag} {k1 k2 : Bool} {a b : Addr} {xs ys : List V} {n : Nat} (hn : n = min xs.length ys.length) : Walk (Itz2 K k1 k2 a b) n (fun H => SqK K k1 H a xs ∧ SqK K k2 H b ys) (YPair (fun i => xs[i]?) (fun i => ys[i]?)) := by
  subst hn
  refine ⟨fun i _ hi q => ?_, fun _ q => ⟨xs, ys, q.1, q.2, by omega, by omega, by omega⟩, fun i H v H' _ q y => ?_⟩
  · obtain ⟨x, hx⟩ := getElem?_ex (show i < xs.length by omega)
    obtain ⟨y, hy⟩ := getElem?_ex (show i < ys.length by omega)
    exact ⟨xs, ys, x, y, q.1, q.2, hx, hy⟩
  · obtain ⟨T, x, z, h1, h2, h3, h4, h5⟩ := y
    exact ⟨T, x, z, h1, h2, h3, h4 xs q.1, h5 ys q.2⟩
/-! ### tuples that are cut, whole or in part -/
theorem sl_tupAK {X : Cx} (K : PySem.W.Frag) (h : X.K = K) : SlR X (rSlA K) := by subst h; exact sl_tupA
end WB
namespace WB
open PySem PySem.Spec PyProof.Rows L2
/-! ### things that stand apart, and tuples that are known (they may be shared: nothing changes them) -/
def noT : HO → Prop
  | .tup _ => False
  | .frz _ _ => False
  | _ => True
class NT (T : Th) : Prop where
  nt : ∀ H, T.P H → ∀ a ∈ T.ft, ∀ o, H a = some o → noT o
def TF (K : PySem.W.Frag) (L : List (Addr × List V)) (H : Hp) : Prop := ∀ p ∈ L, SqT K H p.1 p.2
section
variable {K : PySem.W.Frag} {L : List (Addr × List V)} {H H' : Hp} {F : List Addr} {a : Addr} {xs : List V}
theorem sqT_keep (kp : ∀ o, H a = some o → ¬ noT o → H' a = some o) (h : SqT K H a xs) : SqT K H' a xs := by
  rcases h with (h | ⟨o, h⟩) | h
  · exact .inl (.inl (kp _ h (fun z => z)))
  · exact .inl (.inr ⟨o, kp _ h (fun z => z)⟩)
  · exact .inr h
theorem sqT_mvf (m : MvF F H H') (hF : ∀ a ∈ F, ∀ o, H a = some o → noT o) (h : SqT K H a xs) : SqT K H' a xs := sqT_keep (fun o e n => m.kp a o (fun z => n (hF a z o e)) e) h
theorem TF.mvf (m : MvF F H H') (hF : ∀ a ∈ F, ∀ o, H a = some o → noT o) (t : TF K L H) : TF K L H' := fun p hp => sqT_mvf m hF (t p hp)
theorem TF.same (s : Same H H') (t : TF K L H) : TF K L H' := fun p hp => same_t s (t p hp)
end
instance (b : Addr × Addr) : NT (tB b) := ⟨fun H h a ha o e => by
  obtain ⟨ns, i, r, x, c, h1, h2, _⟩ := h
  rcases List.mem_cons.mp ha with rfl | ha
  · rw [h1] at e
    cases e
    trivial
  · rw [List.mem_singleton.mp ha, h2] at e
    cases e
    trivial⟩
instance (a : Addr) (xs : List V) : NT (tO a (.lst xs)) := ⟨fun H h b hb o e => by
  rw [in1 hb, h.1] at e
  cases e
  trivial⟩
instance {α : Type} (Y : List α) (f : α → Th) [i : ∀ y, NT (f y)] : NT (tG (Y.map f)) := ⟨fun H h a ha o e => by
  obtain ⟨y, hy, ha⟩ := mem_tG.mp ha
  obtain ⟨j, hj⟩ := List.getElem?_of_mem hy
  have g : Hs [] (Y.map f) H := h
  exact (i y).nt H (g.get j (map_at hj)) a ha o e⟩
structure Hw (K : PySem.W.Frag) (L : List (Addr × List V)) (T0 : List (Addr × Str)) (Ts : List Th) (H : Hp) : Prop where
  hs : Hs T0 Ts H
  tf : TF K L H
section
variable {K : PySem.W.Frag} {L L' : List (Addr × List V)} {T0 : List (Addr × Str)} {Ts : List Th} {T T' N : Th} {H H' : Hp} {a p : Addr} {xs : List V} {b : Addr × Addr} {o o' : HO}
theorem Hw.of (h : Hs T0 Ts H) : Hw K [] T0 Ts H := ⟨h, fun p hp => absurd hp List.not_mem_nil⟩
theorem Hw.get (h : Hw K L T0 Ts H) (i : Nat) (hi : Ts[i]? = some T) : T.P H := h.hs.get i hi
theorem Hw.at (h : Hw K L T0 Ts H) (i : Nat) (hi : Ts[i]? = some (tO p o)) : H p = some o := h.hs.at i hi
theorem Hw.tup (h : Hw K L T0 Ts H) (i : Nat) (hi : L[i]? = some (a, xs)) : SqT K H a xs := h.tf _ (List.mem_of_getElem? hi)
theorem Hw.same (h : Hw K L T0 Ts H) (s : Same H H') : Hw K L T0 Ts H' := ⟨h.hs.same s, h.tf.same s⟩
theorem Hw.know (h : Hw K L T0 Ts H) (t : SqT K H a xs) : Hw K ((a, xs) :: L) T0 Ts H := ⟨h.hs, fun p hp => (List.mem_cons.mp hp).elim (fun z => by rw [z]; exact t) (h.tf p)⟩
theorem Hw.selT (h : Hw K L T0 Ts H) (hs : ∀ q ∈ L', q ∈ L) : Hw K L' T0 Ts H := ⟨h.hs, fun p hp => h.tf p (hs p hp)⟩
theorem Hw.sel (h : Hw K L T0 Ts H) (is : List Nat) (hn : is.Nodup) : Hw K L T0 (pickTs Ts is) H := ⟨h.hs.sel is hn, h.tf⟩
theorem Hw.bag (h : Hw K L T0 (tB b :: Ts) H) : Bag b H := h.hs.bag
theorem Hw.noF [NT T] {F : List Addr} (h : Hw K L T0 Ts H) (i : Nat) (hi : Ts[i]? = some T) (hF : ∀ a ∈ F, a ∈ T.ft ∨ H a = none) : ∀ a ∈ F, ∀ o, H a = some o → noT o := fun a ha o e => by
  rcases hF a ha with z | z
  · exact NT.nt H (h.hs.get i hi) a z o e
  · rw [z] at e
    cases e
theorem Hw.op [NT T] {F : List Addr} (h : Hw K L T0 Ts H) (i : Nat) (hi : Ts[i]? = some T) (m : MvF F H H') (hF : ∀ a ∈ F, a ∈ T.ft ∨ H a = none) (hp : T'.P H') (hf : ∀ a ∈ T'.ft, a ∈ T.ft ∨ H a = none) : Hw K L T0 (Ts.set i T') H' :=
  ⟨h.hs.op i hi m hF hp hf, h.tf.mvf m (h.noF i hi hF)⟩
theorem Hw.opNew [NT T] {F : List Addr} (h : Hw K L T0 Ts H) (i : Nat) (hi : Ts[i]? = some T) (m : MvF F H H') (hF : ∀ a ∈ F, a ∈ T.ft ∨ H a = none) (hp : T'.P H') (hf : ∀ a ∈ T'.ft, a ∈ T.ft ∨ H a = none) (hn : N.P H') (hnf : ∀ a ∈ N.ft, H a = none ∧ a ∉ T'.ft) : Hw K L T0 (N :: Ts.set i T') H' :=
  ⟨h.hs.opNew i hi m hF hp hf hn hnf, h.tf.mvf m (h.noF i hi hF)⟩
theorem Hw.mv (h : Hw K L T0 (tB b :: Ts) H) (m : Mv b.1 H H') (g : Bag b H') : Hw K L T0 (tB b :: Ts) H' :=
  h.op (T := tB b) (T' := tB b) 0 rfl (mvf_bag m g) (fun a ha => .inl ha) g (fun a ha => .inl ha)
theorem Hw.newM (h : Hw K L T0 (tB b :: Ts) H) (m : Mv b.1 H H') (g : Bag b H') (n : H p = none) (e : H' p = some o) (pl : plain o := by exact trivial) : Hw K L T0 (tB b :: tO p o :: Ts) H' :=
  ⟨h.hs.newM m g n e pl, h.tf.mvf (mvf_bag m g) (h.noF (T := tB b) 0 rfl (fun a ha => .inl ha))⟩
theorem Hw.newH (h : Hw K L T0 Ts H) (s : Same H H') (n : H p = none) (e : H' p = some o) (pl : plain o := by exact trivial) : Hw K L T0 (tO p o :: Ts) H' := ⟨h.hs.newH s n e pl, h.tf.same s⟩
theorem Hw.newHU (h : Hw K L T0 Ts H) (n : H p = none) (pl : plain o := by exact trivial) : Hw K L T0 (tO p o :: Ts) (upd H p o) := ⟨h.hs.newHU n pl, h.tf.same (same_upd n)⟩
theorem Hw.newU (h : Hw K L T0 (tB b :: Ts) H) (n : H p = none) (pl : plain o := by exact trivial) : Hw K L T0 (tB b :: tO p o :: Ts) (upd H p o) := ⟨h.hs.newU n pl, h.tf.same (same_upd n)⟩
theorem Hw.new (h : Hw K L T0 Ts H) (s : Same H H') (hp : T.P H') (hf : ∀ a ∈ T.ft, H a = none) : Hw K L T0 (T :: Ts) H' := ⟨h.hs.new s hp hf, h.tf.same s⟩
/-- a new tuple, known from now on -/
theorem Hw.newT (h : Hw K L T0 Ts H) (n : H p = none) : Hw K ((p, xs) :: L) T0 Ts (upd H p (.tup xs)) := (h.same (same_upd n)).know (SqT.of upd_same)
theorem Hw.put (h : Hw K L T0 Ts H) (i : Nat) {xs ys : List V} (hi : Ts[i]? = some (tL p xs)) : Hw K L T0 (Ts.set i (tL p ys)) (upd H p (.lst ys)) :=
  h.op (T := tL p xs) (T' := tL p ys) i hi (F := [p]) ((MvF.refl [p] H).upd (.head _)) (fun a ha => .inl ha) ⟨upd_same, trivial⟩ (fun a ha => .inl ha)
theorem Hw.merge {A B C : Th} (h : Hw K L T0 (A :: B :: Ts) H) (hp : C.P H) (hf : ∀ a ∈ C.ft, a ∈ A.ft ∨ a ∈ B.ft) : Hw K L T0 (C :: Ts) H := ⟨h.hs.merge hp hf, h.tf⟩
end
section
variable {α : Type} {K : PySem.W.Frag} {L : List (Addr × List V)} {T0 : List (Addr × Str)} {Ts : List Th} {Y : List α} {f : α → Th} {i j : Nat} {y y' z : α} {H H' : Hp} {N : Th}
theorem Hw.gget (h : Hw K L T0 Ts H) (i : Nat) (hi : Ts[i]? = some (tG (Y.map f))) (hj : Y[j]? = some y) : (f y).P H := h.hs.gget i hi hj
theorem Hw.gset [∀ y, NT (f y)] {F : List Addr} (h : Hw K L T0 Ts H) (i : Nat) (hi : Ts[i]? = some (tG (Y.map f))) (hj : Y[j]? = some y) (m : MvF F H H') (hF : ∀ a ∈ F, a ∈ (f y).ft ∨ H a = none) (hp : (f y').P H') (hf : ∀ a ∈ (f y').ft, a ∈ (f y).ft ∨ H a = none) : Hw K L T0 (Ts.set i (tG ((Y.set j y').map f))) H' :=
  ⟨h.hs.gset i hi hj m hF hp hf, h.tf.mvf m (h.noF (T := tG (Y.map f)) i hi (fun a ha => (hF a ha).imp (fun x => mem_tG.mpr ⟨y, List.mem_of_getElem? hj, x⟩) id))⟩
theorem Hw.gsetN [∀ y, NT (f y)] {F : List Addr} (h : Hw K L T0 Ts H) (i : Nat) (hi : Ts[i]? = some (tG (Y.map f))) (hj : Y[j]? = some y) (m : MvF F H H') (hF : ∀ a ∈ F, a ∈ (f y).ft ∨ H a = none) (hp : (f y').P H') (hf : ∀ a ∈ (f y').ft, a ∈ (f y).ft ∨ H a = none) (hn : N.P H') (hnf : ∀ a ∈ N.ft, H a = none ∧ a ∉ (f y').ft) : Hw K L T0 (N :: Ts.set i (tG ((Y.set j y').map f))) H' :=
  ⟨h.hs.gsetN i hi hj m hF hp hf hn hnf, h.tf.mvf m (h.noF (T := tG (Y.map f)) i hi (fun a ha => (hF a ha).imp (fun x => mem_tG.mpr ⟨y, List.mem_of_getElem? hj, x⟩) id))⟩
theorem Hw.gadd (h : Hw K L T0 (f z :: tG (Y.map f) :: Ts) H) : Hw K L T0 (tG ((Y ++ [z]).map f) :: Ts) H := ⟨h.hs.gadd, h.tf⟩
theorem Hw.gnil (h : Hw K L T0 Ts H) : Hw K L T0 (tG (([] : List α).map f) :: Ts) H := ⟨h.hs.gnil, h.tf⟩
end
theorem sqT_updI {K : PySem.W.Frag} {H : Hp} {r C dx t : Addr} {fs : List (Str × V)} {o : HO} {xs : List V} (e : H r = some (.ins C dx fs)) (h : SqT K H t xs) : SqT K (upd H r o) t xs := sqT_keep (fun u eu n => by
  rw [upd_ne (fun z => ?_)]
  · exact eu
  · rw [z, e] at eu
    cases eu
    exact n trivial) h
theorem sqK_updI {K : PySem.W.Frag} {H : Hp} {r C dx t : Addr} {fs : List (Str × V)} {o : HO} {k : Bool} {xs : List V} (e : H r = some (.ins C dx fs)) (h : SqK K k H t xs) : SqK K k (upd H r o) t xs := by
  cases k with
  | false => exact sqT_updI e h
  | true =>
    refine lk_l (lk_mv (b := r) (Mv.refl r H).upd ?_) h
    intro u eu
    rw [e] at eu
    cases eu
    rintro (⟨_, z⟩ | ⟨_, z⟩ | ⟨_, _, z⟩) <;> cases z
theorem ix_by {K : PySem.W.Frag} {k : Bool} {H : Hp} {a : Addr} {xs : List V} {i : Int} {v : V} {Q : VK} (h : SqK K k H a xs) (e : atI xs i = some v) (q : Q v H) : rIx K (.ref a) (.int i) H Q := by
  cases k with
  | true => exact .inl ⟨a, _, _, _, rfl, rfl, h, e, q⟩
  | false => exact .inr (.inl ⟨a, _, _, _, rfl, rfl, h, e, q⟩)
theorem SqK.or {K : PySem.W.Frag} {k : Bool} {H : Hp} {a : Addr} {xs : List V} (h : SqK K k H a xs) : SqL K H a xs ∨ SqT K H a xs := by
  cases k with
  | true => exact .inl h
  | false => exact .inr h
theorem made_none {H : Hp} {x dx l : Addr} {o o' : HO} (h : upd (upd H dx o') x o l = none) : H l = none := by
  by_cases z : l = x
  · rw [z, upd_same] at h
    cases h
  by_cases y : l = dx
  · rw [upd_ne z, y, upd_same] at h
    cases h
  rw [upd_ne z, upd_ne y] at h
  exact h
theorem made_same {H H2 : Hp} {x dx : Addr} {o o' : HO} (nx : H x = none) (ndx : H dx = none) (m : MvF [x] (upd (upd H dx o') x o) H2) : Same H H2 := fun a u e => by
  refine m.kp a u (fun z => ne_of_none e nx (in1 z)) ?_
  rw [upd_ne (ne_of_none e nx), upd_ne (ne_of_none e ndx)]
  exact e
/-! ### makers with arguments by place -/
def CalNX (P : Program) (w : World) (K : PySem.W.Frag) (mg : Str → Option Value) (base : Heap) (k : Nat) (nm : Str) (C : Addr) (ps : List Str) (sp : Sp) : Prop :=
  ∃ (f : Addr) (fd : FuncData), Mk K C f ∧ FnOk P w K mg base (L2.CX P w) k f fd ps sp ∧ mg nm = some (.ref C) ∧ Binds K fd ps []
theorem CalNX.mono {P : Program} {w : World} {K : PySem.W.Frag} {mg : Str → Option Value} {base : Heap} {j k : Nat} {nm : Str} {C : Addr} {ps : List Str} {sp : Sp} (c : CalNX P w K mg base j nm C ps sp) (h : j ≤ k) : CalNX P w K mg base k nm C ps sp := by
  obtain ⟨f, fd, a, b, d, e⟩ := c
  exact ⟨f, fd, a, b.mono h, d, e⟩
section
variable {X : Cx} {k : Nat} {C : Addr} {ps : List Str} {sp : Sp} {E : XK} {nm : Str} {p pos : Pos} {e : Expr} {es : List Expr} {t : TA}
theorem pe_makeX (c : CalNX X.prog X.w X.K X.mg X.base k nm C ps sp) (hr : Room (k + 1) X.A) (hx : Passes (L2.CX X.prog X.w) X E) (hg : Gl X nm) (ha : PA X (e :: es) t) (hdb : (nm == ("__debug__" : Str)) = false := by decide)
    (he : starEach (e :: es) X.env = (false, eval e X.env) :: starEach es X.env := by rfl) (hpl : (backTo pos (starEach es X.env)).any (·.1) = false := by rfl) : PE X (.Call (.Name nm p) (e :: es) [] pos) (tMake C sp [] E t) := by
  obtain ⟨f, fd, a, b, d, q⟩ := c
  exact pe_make a b hr hg d q .nil hx ha hdb he hpl
theorem pe_makeXF (c : CalNX X.prog X.w X.K X.mg X.base k nm C ps sp) (hr : Room (k + 1) X.A) (hg : Gl X nm) (ha : PA X (e :: es) t) (hdb : (nm == ("__debug__" : Str)) = false := by decide)
    (he : starEach (e :: es) X.env = (false, eval e X.env) :: starEach es X.env := by rfl) (hpl : (backTo pos (starEach es X.env)).any (·.1) = false := by rfl) : PE X (.Call (.Name nm p) (e :: es) [] pos) (tMake C sp [] E0 t) := pe_makeX c hr passL hg ha hdb he hpl
end
section
variable {X : Cx} (K : PySem.W.Frag)
def rSlAny (K : PySem.W.Frag) : V → Option Int → Option Int → Hp → VK → Prop := fun x lo hi H Q => rSlL K x lo hi H Q ∨ rSlA K x lo hi H Q
theorem sl_anyK (h : X.K = K) : SlR X (rSlAny K) := by
  subst h
  intro pins s σ H x v vl vu lo hi sl Q I rx hs pl pu h
  rcases h with h | h
  · exact sl_list pins s σ H x v vl vu lo hi sl Q I rx hs pl pu h
  · exact sl_tupA pins s σ H x v vl vu lo hi sl Q I rx hs pl pu h
end
end WB
namespace WB
open PySem PySem.Spec PyProof.Rows L2
/-! ### methods with keyword-only parameters: n by place behind the thing itself, keywords ks -/
def tMethN (C : Addr) (m : Str) (n j : Nat) (sp : Sp) (gV : List V → List V → List V) (E : XK) (ta : TE) (t tk : TA) : TE := fun σ H Q => ta σ H fun x H1 => ∃ (a dx : Addr) (fs : List (Str × V)), x = .ref a ∧ H1 a = some (.ins C dx fs) ∧ fs.lookup m = none ∧
  t σ H1 fun vs H2 => tk σ H2 fun zs H3 => vs.length = n ∧ zs.length = j ∧ sp (gV (.ref a :: vs) zs) H3 Q E
def CalMW (P : Program) (w : World) (K : PySem.W.Frag) (mg : Str → Option Value) (base : Heap) (k : Nat) (C : Addr) (m : Str) (ps : List Str) (n : Nat) (ks : List Str) (gV : List V → List V → List V) (sp : Sp) : Prop :=
  ∃ (f : Addr) (fd : FuncData) (g : List Value → List Value → List Value), Cls K C ∧ Meth K C m f ∧ FnOk P w K mg base (L2.CX P w) k f fd ps sp ∧ KBn K fd ps (n + 1) ks g gV
theorem CalMW.mono {P : Program} {w : World} {K : PySem.W.Frag} {mg : Str → Option Value} {base : Heap} {j k n : Nat} {C : Addr} {m : Str} {ps ks : List Str} {gV : List V → List V → List V} {sp : Sp} (c : CalMW P w K mg base j C m ps n ks gV sp) (h : j ≤ k) : CalMW P w K mg base k C m ps n ks gV sp := by
  obtain ⟨f, fd, g, a, b, d, e⟩ := c
  exact ⟨f, fd, g, a, b, d.mono h, e⟩
/-- the keyword-only ones left out -/
def CalMD (P : Program) (w : World) (K : PySem.W.Frag) (mg : Str → Option Value) (base : Heap) (k : Nat) (C : Addr) (m : Str) (ps : List Str) (dvs : List V) (sp : Sp) : Prop :=
  ∃ (f : Addr) (fd : FuncData) (ds : List Value), Cls K C ∧ Meth K C m f ∧ FnOk P w K mg base (L2.CX P w) k f fd ps sp ∧ Binds K fd ps ds ∧ Vals dvs ds
theorem CalMD.mono {P : Program} {w : World} {K : PySem.W.Frag} {mg : Str → Option Value} {base : Heap} {j k : Nat} {C : Addr} {m : Str} {ps : List Str} {dvs : List V} {sp : Sp} (c : CalMD P w K mg base j C m ps dvs sp) (h : j ≤ k) : CalMD P w K mg base k C m ps dvs sp := by
  obtain ⟨f, fd, g, a, b, d, e⟩ := c
  exact ⟨f, fd, g, a, b, d.mono h, e⟩
section
variable {X : Cx} {k n : Nat} {C : Addr} {m : Str} {ps ks : List Str} {sp : Sp} {E : XK} {pos apos : Pos} {e o : Expr} {es : List Expr} {kws : List Keyword} {ta : TE} {t tk : TA} {gV : List V → List V → List V} {dvs : List V} {pl : Sem Bool}
theorem pe_methW (ho : PE X o ta) (c : CalMW X.prog X.w X.K X.mg X.base k C m ps n ks gV sp) (hr : Room k X.A) (hx : Passes (L2.CX X.prog X.w) X E) (ha : PA X (e :: es) t) (hkw : PK X kws tk)
    (hall : (backToKw pos (keywordEach kws X.env)).all (·.1.isSome) = true := by rfl) (hks : (backToKw pos (keywordEach kws X.env)).filterMap (·.1) = ks := by rfl) (he : starEach (e :: es) X.env = (false, eval e X.env) :: starEach es X.env := by rfl)
    (hpl : ((backTo pos (starEach (e :: es) X.env)).any (·.1) || (backToKw pos (keywordEach kws X.env)).any (·.1.isNone)) = false := by rfl)
    (ht : eval (.Call (.Attribute o m apos) (e :: es) kws pos) X.env = (do
      let ov ← eval o X.env
      standAt apos.atName
      let (f, first) ← holding [ov] (getMethod ov m pl)
      callWith pos f first (backTo pos (starEach (e :: es) X.env)) (backToKw pos (keywordEach kws X.env))) := by rfl) :
    PE X (.Call (.Attribute o m apos) (e :: es) kws pos) (tMethN C m n ks.length sp gV E ta t tk) := by
  obtain ⟨f, fd, g, hc, hm, F, hb⟩ := c
  refine ⟨fun pins s σ H Q I h => ?_⟩
  refine PySem.W.methodCall_KW (pl := pl) (thn (ho.run pins s σ H _ I h) fun u s1 y => ?_) ht
  obtain ⟨x, H1, I1, rx, a, dx, fs, rfl, ea, l, q⟩ := y
  obtain rfl : u = Value.ref a := rx
  refine getmeth_ok I1 ea hc hm l ?_
  refine PySem.W.callWith_KW (first := [.ref a]) (h₀ := X.base) I.ok.mod.kin hm.kp hall (thn (ha.run pos pins s1 σ H1 _ I1 q) fun us s2 y => ?_) hpl he
  obtain ⟨vs, H2, I2, r, q2⟩ := y
  refine thn (hkw.run pos pins s2 σ H2 _ I2 q2) fun ws s3 y => ?_
  obtain ⟨zs, H3, I3, rz, l1, l2, q3⟩ := y
  refine ⟨I3.kIn, ?_⟩
  rw [hks]
  exact run_fnN (us := .ref a :: us) (vs := .ref a :: vs) F hr hb hx I3 (.cons rfl r) rz (congrArg (· + 1) l1) l2 q3
theorem pe_methWF (ho : PE X o ta) (c : CalMW X.prog X.w X.K X.mg X.base k C m ps n ks gV sp) (hr : Room k X.A) (ha : PA X (e :: es) t) (hkw : PK X kws tk)
    (hall : (backToKw pos (keywordEach kws X.env)).all (·.1.isSome) = true := by rfl) (hks : (backToKw pos (keywordEach kws X.env)).filterMap (·.1) = ks := by rfl) (he : starEach (e :: es) X.env = (false, eval e X.env) :: starEach es X.env := by rfl)
    (hpl : ((backTo pos (starEach (e :: es) X.env)).any (·.1) || (backToKw pos (keywordEach kws X.env)).any (·.1.isNone)) = false := by rfl)
    (ht : eval (.Call (.Attribute o m apos) (e :: es) kws pos) X.env = (do
      let ov ← eval o X.env
      standAt apos.atName
      let (f, first) ← holding [ov] (getMethod ov m pl)
      callWith pos f first (backTo pos (starEach (e :: es) X.env)) (backToKw pos (keywordEach kws X.env))) := by rfl) :
    PE X (.Call (.Attribute o m apos) (e :: es) kws pos) (tMethN C m n ks.length sp gV E0 ta t tk) := pe_methW ho c hr passL ha hkw hall hks he hpl ht
theorem pe_methD (ho : PE X o ta) (c : CalMD X.prog X.w X.K X.mg X.base k C m ps dvs sp) (hr : Room k X.A) (hx : Passes (L2.CX X.prog X.w) X E) (ha : PA X (e :: es) t) (hs : starEach (e :: es) X.env = (false, eval e X.env) :: starEach es X.env := by rfl) (hpl : (backTo pos (starEach es X.env)).any (·.1) = false := by rfl)
    (hc : eval (.Call (.Attribute o m apos) (e :: es) [] pos) X.env = (do
      let ov ← eval o X.env
      standAt apos.atName
      let (f, first) ← holding [ov] (getMethod ov m pl)
      callWith pos f first (backTo pos (starEach (e :: es) X.env)) (backToKw pos (keywordEach [] X.env))) := by rfl) : PE X (.Call (.Attribute o m apos) (e :: es) [] pos) (tMeth C m sp dvs E ta t) := by
  obtain ⟨f, fd, ds, a, b, d, g, v⟩ := c
  exact pe_meth ho a b d hr g v hx ha hs hpl hc
theorem pe_methDF (ho : PE X o ta) (c : CalMD X.prog X.w X.K X.mg X.base k C m ps dvs sp) (hr : Room k X.A) (ha : PA X (e :: es) t) (hs : starEach (e :: es) X.env = (false, eval e X.env) :: starEach es X.env := by rfl) (hpl : (backTo pos (starEach es X.env)).any (·.1) = false := by rfl)
    (hc : eval (.Call (.Attribute o m apos) (e :: es) [] pos) X.env = (do
      let ov ← eval o X.env
      standAt apos.atName
      let (f, first) ← holding [ov] (getMethod ov m pl)
      callWith pos f first (backTo pos (starEach (e :: es) X.env)) (backToKw pos (keywordEach [] X.env))) := by rfl) : PE X (.Call (.Attribute o m apos) (e :: es) [] pos) (tMeth C m sp dvs E0 ta t) := pe_methD ho c hr passL ha hs hpl hc
end
theorem pi_revAK {X : Cx} (K : PySem.W.Frag) (hKK : X.K = K) {tg e : Expr} {te : TE} {p pos : Pos} (hg : Gl X "reversed") (hm : X.mg "reversed" = none) (he : PE X e te) (hs : starEach [e] X.env = (false, eval e X.env) :: starEach [] X.env := by rfl) : PI X tg (.Call (.Name "reversed" p) [e] [] pos) (RT.iRevA K te) := by
  subst hKK
  exact RT.pi_revA hg hm he hs
theorem walk_revT {K : PySem.W.Frag} {a : Addr} {xs : List V} : Walk (RT.ItvT K a xs.length) xs.length (fun H => SqT K H a xs) (fun i H x H' => H' = H ∧ xs[xs.length - 1 - i]? = some x) := by
  refine ⟨fun i H hi q => ⟨hi, xs, ?_⟩, fun _ _ => Nat.le_refl _, fun i H x H' _ q y => ⟨y.1, y.2 xs q⟩⟩
  obtain ⟨x, hx⟩ := getElem?_ex (show xs.length - 1 - i < xs.length by omega)
  exact ⟨x, q, hx⟩
/-! ### how keywords are bound: ks as written, ms those that lack (their defaults), pm puts both in the parameters' order -/
section
variable {K : PySem.W.Frag} {x qual : Str} {params : Arguments} {body : List Stmt} {scope : Scope} {kws : List (Str × V)} {f : Addr} {fd : FuncData} {ps : List Str}
/-- the i-th of both rows, one behind the other -/
def pickL {α : Type} (l : List α) : List Nat → List α
  | [] => []
  | i :: r => match l[i]? with
    | some x => x :: pickL l r
    | none => pickL l r
theorem vals_pick {vs : List V} {us : List Value} (h : Vals vs us) : ∀ is : List Nat, Vals (pickL vs is) (pickL us is)
  | [] => .nil
  | i :: r => by
    unfold pickL
    cases e : us[i]? with
    | none =>
      have e2 : vs[i]? = none := by
        rw [List.getElem?_eq_none_iff] at e ⊢
        have := h.length
        omega
      rw [e2]
      exact vals_pick h r
    | some u =>
      obtain ⟨y, hy, ry⟩ := vals_at h e
      rw [hy]
      exact .cons ry (vals_pick h r)
theorem kbn_pick (F : FunD K x qual params body scope [] kws f fd) (n : Nat) (ks : List Str) (ms : List (Str × V)) (is : List Nat) (hk : kws ≠ []) (hms : ∀ q ∈ ms, q ∈ kws)
    (h : ∀ (D : Addr) (doc pm : Value) (an : Option Addr) (cdv ct : Value) (us mv ws : List Value), us.length = n → mv.length = ms.length → ws.length = ks.length →
      KwChain D ((ms.map (·.1)).zip mv) (bindArgs (PySem.W.fnOf x qual params body scope .none (.ref D) doc pm an cdv ct) ⟨us, ks.zip ws⟩) (ps.zip (us ++ pickL (ws ++ mv) is))) :
    ∃ g, KBn K fd ps n ks g (fun vs zs => vs ++ pickL (zs ++ ms.map (·.2)) is) := by
  obtain ⟨mv, hb⟩ := F.kbinds0 (ps := ps) n ks ms (fun {α} us mv ws => us ++ pickL (ws ++ mv) is) hk hms (fun r1 r2 r3 => r1.append (vals_pick (r3.append r2) is)) h
  exact ⟨_, hb⟩
end
end WB
namespace WB
open PySem PySem.Spec PyProof.Rows L2
/-! ### a comparison of two instances of one class by the class's own def, whatever it tells -/
def rOwnI (C : Addr) (sp : Sp) (E : XK) : R2 := fun x y H Q => ∃ a dx fs b dy gs, x = .ref a ∧ y = .ref b ∧ H a = some (.ins C dx fs) ∧ H b = some (.ins C dy gs) ∧ sp [x, y] H Q E
section
variable {X : Cx} {CX : CXT} {C g : Addr} {n : Nat} {sp : Sp} {E : XK}
theorem op_ownI {op : CmpOp} (hop : ∀ a b, compareOp op a b = richCompare op a b) (hs : PySem.W.findIn X.K (.ref C) (cmpInfo op).2.1 = some (some (.ref g))) (hf : PySem.W.isFn X.K (.ref g) = true) (F : FnR X.prog X.w X.K X.mg X.base CX n g sp)
    (hr : Room n X.A) (hx : Passes CX X E) : OpR X (compareOp op) (rOwnI C sp E) := by
  intro pins s σ H x y v u Q I rx ry h
  obtain ⟨a, dx, fs, b, dy, gs, rfl, rfl, ha, hb, q⟩ := h
  cases (show v = Value.ref a from rx)
  cases (show u = Value.ref b from ry)
  obtain ⟨mA, J, _⟩ := ins_get I.hok ha
  obtain ⟨mB, J', _⟩ := ins_get I.hok hb
  obtain ⟨od, J, _⟩ := J.look
  obtain ⟨od', J', _⟩ := J'.look
  obtain ⟨m, hF⟩ := I.fr
  rw [hop]
  refine PySem.W.cmp_K (op := op) (tb := .ref C) hr.units0 hF I.ok.mod.kin J J'.type (by simp [PySem.W.notFirst]) hs hf ?_
  refine wpAny_mono (wpAny_call (run_fnR (us := [.ref a, .ref b]) (vs := [.ref a, .ref b]) F hr hx I (.cons rfl (.cons rfl .nil)) q)) (fun w s' z => ?_) fun _ _ x => x
  obtain ⟨z', H', I', rz, qz⟩ := z
  exact SlX.cmpback rz ⟨z', H', I', rz, qz⟩
theorem op_eqI (hs : PySem.W.findIn X.K (.ref C) "__eq__" = some (some (.ref g))) (hf : PySem.W.isFn X.K (.ref g) = true) (F : FnR X.prog X.w X.K X.mg X.base CX n g sp) (hr : Room n X.A) (hx : Passes CX X E) : OpR X (compareOp .Eq) (rOwnI C sp E) :=
  op_ownI (fun _ _ => rfl) hs hf F hr hx
end
end WB
namespace WB
open PySem PySem.Spec PyProof.Rows L2 Builtin
section
variable {M : Model} {A : Around} {E : Value → Shared → Prop} {s : Shared} {K : PySem.W.Frag} {x C : Addr} {ox : Obj} {od : Option Obj}
theorem ifBound_objNe {args : List Value} {Q : Option Value → Shared → Prop} (X : K.In s.heap) (I : PySem.W.InstAt s.heap x ox C od) (hs : PySem.W.findIn K (.ref C) "__ne__" = some (some (.builtin "object.__ne__")))
    (h : wpAny M A (call (.builtin "object.__ne__") (.ref x :: args)) (fun v => Q (some v)) E s) : wpAny M A (callSpecialIfBound? (.ref x) "__ne__" args) Q E s := by
  simp only [callSpecialIfBound?, bindSpecialIfBound?]
  refine wpAny_holding (wpAny_bind (wpAny_bind (wpAny_bind (I.type.here ((PySem.W.looks_findIn X hs).here ?_)))))
  refine wpAny_bind (wpAny_askSetting (wpAny_ite ?_))
  have fin : wpAny M A (call (.builtin "object.__ne__") ([.ref x] ++ args) >>= fun v => pure (some v)) Q E s := wpAny_bind (wpAny_mono h (fun v s' h' => wpAny_pure h') fun _ _ h' => h')
  split
  · exact wpAny_bind (wpAny_of_eq (F.cmp_object.ne.bind _) (wpAny_pure (by exact fin)))
  · exact wpAny_tryCatch (wpAny_bind (wpAny_of_eq (F.cmp_object.ne.bind _) (wpAny_pure (by exact fin))))
end
section
variable {prog : Program} {w : World} {A : Around} {E : Value → Shared → Prop} {s : Shared} {K : PySem.W.Frag} {x b C f : Addr} {ox : Obj} {od : Option Obj}
theorem call_objNe {Q : Value → Shared → Prop} (hu : A.in1.units < cLine) (X : K.In s.heap) (I : PySem.W.InstAt s.heap x ox C od) (hm : PySem.W.mroIn K C (.type "object") = some true)
    (hs : PySem.W.findIn K (.ref C) "__eq__" = some (some (.ref f))) (hf : PySem.W.isFn K (.ref f) = true)
    (h : wpAny (model prog w) A.in1 (call (.ref f) [.ref x, .ref b]) (fun v s' => ∃ t, v = .bool t ∧ Q (.bool (!t)) s') E s) :
    wpAny (model prog w) A (call (.builtin "object.__ne__") [.ref x, .ref b]) Q E s := by
  refine wpAny_call (codeAny_call_builtin F.cmp_object.ne.plain F.cmpEntry_ne (PySem.W.check_slot F.cmpKind_ne F.cmpSplit_ne (I.type.andThen (PySem.W.looks_mroIn X hm)) (F.cmpArgs_ne _ _) ?_))
  unfold Builtin.«object.__ne__»
  repeat (first | with_reducible refine wpAny_cRoomFor hu ?_ | with_reducible refine PySem.W.ifBound_K X I hs hf (wpAny_mono h (fun v s' hv => ?_) fun _ _ e => e) | wp_step)
  obtain ⟨t, rfl, q⟩ := hv
  exact wpAny_bind (wpAny_truthy_bool (wpAny_pure q))
/-- != of two instances of a class with an own ==: it asks that, and turns the answer round -/
theorem ne_K {Q : Value → Shared → Prop} (hu : A.units < cLine) (hu1 : A.in1.units < cLine) (X : K.In s.heap) (I : PySem.W.InstAt s.heap x ox C od) (hb : PySem.W.Looks (model prog w) s.heap (typeOf (.ref b)) (.ref C))
    (hne : PySem.W.findIn K (.ref C) "__ne__" = some (some (.builtin "object.__ne__"))) (hm : PySem.W.mroIn K C (.type "object") = some true) (hs : PySem.W.findIn K (.ref C) "__eq__" = some (some (.ref f))) (hf : PySem.W.isFn K (.ref f) = true)
    (h : wpAny (model prog w) A.in1 (call (.ref f) [.ref x, .ref b]) (fun v s' => ∃ t, v = .bool t ∧ Q (.bool (!t)) s') E s) : wpAny (model prog w) A (richCompare .NotEq (.ref x) (.ref b)) Q E s := by
  have one : wpAny (model prog w) A (tryCompare (.ref x) (cmpInfo .NotEq).2.1 (.ref b)) (fun r s' => ∃ v, r = some v ∧ Q v s') E s := by
    unfold tryCompare
    refine wpAny_bind (ifBound_objNe X I hne (call_objNe hu1 X I hm hs hf (wpAny_mono h (fun v s' hv => ?_) fun _ _ e => e)))
    obtain ⟨t, rfl, q⟩ := hv
    exact ⟨t, rfl, wpAny_pure ⟨_, rfl, q⟩⟩
  unfold richCompare
  simp only [oneThing_ref]
  refine wpAny_holding (wpAny_bind (wpAny_cRoomFor hu ?_))
  refine wpAny_bind (I.type.here (wpAny_bind (hb.here ?_)))
  split
  · rename_i q
    simp at q
  · refine wpAny_bind (wpAny_pure ?_)
    simp only [Bool.false_eq_true, if_false]
    refine wpAny_bind (wpAny_mono one (fun r s' z => ?_) fun _ _ e => e)
    obtain ⟨v, rfl, hq⟩ := z
    exact wpAny_pure hq
end
def rNeI (C : Addr) (sp : Sp) (E : XK) : R2 := fun x y H Q => ∃ a dx fs b dy gs, x = .ref a ∧ y = .ref b ∧ H a = some (.ins C dx fs) ∧ H b = some (.ins C dy gs) ∧ sp [x, y] H (fun v H' => ∃ t, v = .bl t ∧ Q (.bl (!t)) H') E
section
variable {X : Cx} {CX : CXT} {C g : Addr} {n : Nat} {sp : Sp} {E : XK}
theorem op_neI (hne : PySem.W.findIn X.K (.ref C) "__ne__" = some (some (.builtin "object.__ne__"))) (hm : PySem.W.mroIn X.K C (.type "object") = some true) (hs : PySem.W.findIn X.K (.ref C) "__eq__" = some (some (.ref g))) (hf : PySem.W.isFn X.K (.ref g) = true)
    (F : FnR X.prog X.w X.K X.mg X.base CX n g sp) (hr : Room (n + 1) X.A) (hx : Passes CX X E) : OpR X (compareOp .NotEq) (rNeI C sp E) := by
  intro pins s σ H x y v u Q I rx ry h
  obtain ⟨a, dx, fs, b, dy, gs, rfl, rfl, ha, hb, q⟩ := h
  cases (show v = Value.ref a from rx)
  cases (show u = Value.ref b from ry)
  obtain ⟨mA, J, _⟩ := ins_get I.hok ha
  obtain ⟨mB, J', _⟩ := ins_get I.hok hb
  obtain ⟨od, J, _⟩ := J.look
  obtain ⟨od', J', _⟩ := J'.look
  have hr1 : Room n X.A.in1 := Room.in1 hr
  refine ne_K hr.units0 hr1.units0 I.kIn J J'.type hne hm hs hf (wpAny_mono (wpAny_call (SlX.run_at (us := [.ref a, .ref b]) (ws := [.ref a, .ref b]) F hr1 I.env0.in1 hx I (.cons rfl (.cons rfl .nil)) q)) (fun w s' z => ?_) fun _ _ x => x)
  obtain ⟨z', H', I', rz, t, rfl, qz⟩ := z
  cases (show w = Value.bool t from rz)
  exact ⟨t, rfl, .bl (!t), H', I', rfl, qz⟩
end
end WB
namespace WB
open PySem PySem.Spec PyProof.Rows L2
section
variable {X : Cx} (K : PySem.W.Frag)
theorem op_inDK (h : X.K = K) {k : Nat} (hr : Room k X.A) : OpR X (compareOp .In) (rInD K) := by subst h; exact op_inD (by have := hr.un; omega)
theorem op_notInDK (h : X.K = K) {k : Nat} (hr : Room k X.A) : OpR X (compareOp .NotIn) (rNotInD K) := by subst h; exact op_notInD (by have := hr.un; omega)
theorem mt_indexDK (h : X.K = K) {k : Nat} (hr : Room k X.A) : MtR X "list.index" (rIndexD K) := by subst h; exact mt_indexD (by have := hr.un; omega)
theorem op_catAK (h : X.K = K) : OpR X (binaryOp .Add) (rCatA K) := by subst h; exact op_catA
end
/-! ### list.extend of a tuple -/
theorem extend_tup (l : Addr) (items : Array Value) (n : Nat) (b : Addr) (items2 : Array Value) (n2 : Nat) (dd : Option Addr) (sl : Array (Option Value)) (hs0 : ¬(!items.isEmpty && Builtin.List.listTooLong (items.size + items2.size)) = true) (hs1 : items.size ≤ sizeLine) (hs2 : items.size + items2.size ≤ sizeLine + 1) :
    Meets (Builtin.«list.extend» ⟨[.ref l, .ref b], []⟩) (fun _ R s => s.heap.get? l = some { cls := .type "list", dict := none, data := .seq items n, slots := #[] } ∧ s.heap.get? b = some { cls := .type "tuple", dict := dd, data := .seq items2 n2, slots := sl } ∧ R (.ok (.ret Value.none)) { s with heap := s.heap.update l (Obj.mapSeq fun x => x ++ items2), toks := s.toks }) :=
  .of_wp fun prog w A R s h => by
    obtain ⟨hp, g, d, tk, os⟩ := s; obtain ⟨hl, hb, h⟩ := h; have f1 := AutoSeq1.idx_int; have f2 := AutoSeq1.sub_tuple_tuple; have f3 := AutoSeq1.sub_list_list; have f4 := AutoSeq1.sub_tuple_list; have f5 := AutoSeq1.sub_list_tuple;
    have hz' : (items ++ items2).size ≤ sizeLine + 1 := by rw [Array.size_append]; exact hs2
    wp_walk using (wpAny_updateSeq hl rfl (hz := hs1) (_hz' := hz')), AutoSeq1.wpAny_loadPart' hl, AutoSeq1.wpAny_loadPart' hb; exact ⟨_, rfl, h⟩
def rExtendT (K : PySem.W.Frag) : V → List V → Hp → VK → Prop := fun x vs H Q => ∃ l b xs zs, x = .ref l ∧ vs = [.ref b] ∧ H l = some (.lst xs) ∧ SqT K H b zs ∧ xs.length + zs.length ≤ sizeLine ∧ Q .non (upd H l (.lst (xs ++ zs)))
theorem mt_extendTK {X : Cx} (K : PySem.W.Frag) (hK : X.K = K) : MtM X "list.extend" (rExtendT K) := by
  subst hK
  intro pins s σ H x vs v us Q I rx rv h
  obtain ⟨l, b, xs, zs, rfl, rfl, hH, hB, hz, q⟩ := h
  cases rx
  obtain ⟨u, rfl, ru⟩ := rv.one
  cases ru
  obtain ⟨z, its, n, r, hl, e⟩ := I.lstM hH
  obtain ⟨its2, r2, ⟨o, ho, hc, n2, hd⟩, hz2⟩ := I.tuple hB
  obtain ⟨oc, odd, oda, osl⟩ := o
  cases hc
  cases hd
  have l1 := r.length
  have l2 := r2.length
  have hsz : its.toArray.size + its2.toArray.size ≤ sizeLine := by rw [List.size_toArray, List.size_toArray]; omega
  have hlong : ¬ (!its.toArray.isEmpty && Builtin.List.listTooLong (its.toArray.size + its2.toArray.size)) = true := by
    rw [notLongL hsz, Bool.and_false]
    exact Bool.false_ne_true
  refine call_meets F.slot_list_extend ⟨_, e, rfl⟩ F.entry_list_extend (F.args_list_extend_2 _ _)
    (extend_tup l its.toArray n b its2.toArray n2 odd osl hlong (by rw [List.size_toArray]; omega) (by omega)) ⟨e, ho, ?_⟩
  refine ⟨.non, _, I.lset (its' := its ++ its2) hH e (by simp) (r.append r2) ?_, rfl, q⟩
  rw [List.length_append]
  omega
/-- isinstance(x, C) of C's own instances -/
structure IsiC (K : PySem.W.Frag) (C : Addr) : Prop where
  c1 : PySem.W.findIn K (.ref C) "__class__" = some (some (.builtin "object.__class__"))
  c2 : PySem.W.specialIn K (.builtin "object.__class__") "__get__" = some (some (.builtin "getset_descriptor.__get__"))
  c3 : PySem.W.takesIn K (.builtin "object.__class__") = some true
  c4 : PySem.W.mroIn K C (.type "object") = some true
  kt : PySem.W.kitOne K (.ref C) (.ref C) = some true
theorem isi_own {K : PySem.W.Frag} {C r dx : Addr} {fs : List (Str × V)} {H : Hp} (i : IsiC K C) (c : Cls K C) (h : H r = some (.ins C dx fs)) : TyX K H (.ref r) (.ref C) := .base (.ins h c i.c1 i.c2 i.c3 i.c4)
/-- == and != of instances by the class's own == -/
def EqF (P : Program) (w : World) (K : PySem.W.Frag) (mg : Str → Option Value) (base : Heap) (k : Nat) (C : Addr) (sp : Sp) : Prop :=
  ∃ g, PySem.W.findIn K (.ref C) "__eq__" = some (some (.ref g)) ∧ PySem.W.isFn K (.ref g) = true ∧ FnR P w K mg base CX0 k g sp ∧ PySem.W.findIn K (.ref C) "__ne__" = some (some (.builtin "object.__ne__")) ∧ PySem.W.mroIn K C (.type "object") = some true
theorem EqF.mono {P : Program} {w : World} {K : PySem.W.Frag} {mg : Str → Option Value} {base : Heap} {j k : Nat} {C : Addr} {sp : Sp} (c : EqF P w K mg base j C sp) (h : j ≤ k) : EqF P w K mg base k C sp := by
  obtain ⟨g, a, b, d, e⟩ := c
  exact ⟨g, a, b, d.mono h, e⟩
section
variable {X : Cx} {C : Addr} {n : Nat} {sp : Sp}
theorem op_eqO (c : EqF X.prog X.w X.K X.mg X.base n C sp) (hr : Room n X.A) : OpR X (compareOp .Eq) (rOwnI C sp E0) := by
  obtain ⟨g, a, b, d, e⟩ := c
  exact op_eqI a b d hr pass0
theorem op_neO (c : EqF X.prog X.w X.K X.mg X.base n C sp) (hr : Room (n + 1) X.A) : OpR X (compareOp .NotEq) (rNeI C sp E0) := by
  obtain ⟨g, a, b, d, e, h⟩ := c
  exact op_neI e h a b d hr pass0
end
/-! ### len, repr, bool of an instance by the class's own defs -/
def OwnF (P : Program) (w : World) (K : PySem.W.Frag) (mg : Str → Option Value) (base : Heap) (k : Nat) (C : Addr) (m : Str) (sp : Sp) : Prop :=
  ∃ g, PySem.W.findIn K (.ref C) m = some (some (.ref g)) ∧ PySem.W.isFn K (.ref g) = true ∧ FnR P w K mg base CX0 k g sp
theorem OwnF.mono {P : Program} {w : World} {K : PySem.W.Frag} {mg : Str → Option Value} {base : Heap} {j k : Nat} {C : Addr} {m : Str} {sp : Sp} (c : OwnF P w K mg base j C m sp) (h : j ≤ k) : OwnF P w K mg base k C m sp := by
  obtain ⟨g, a, b, d⟩ := c
  exact ⟨g, a, b, d.mono h⟩
def rLenO (C : Addr) (sp : Sp) : List V → Hp → VK → Prop := fun xs H Q => ∃ a dx fs, xs = [V.ref a] ∧ H a = some (.ins C dx fs) ∧ sp [.ref a] H (fun v H' => ∃ n : Int, v = .int n ∧ 0 ≤ n ∧ n < 2 ^ 63 ∧ Q v H') E0
def rReprO (C : Addr) (sp : Sp) : List V → Hp → VK → Prop := fun xs H Q => ∃ a dx fs, xs = [V.ref a] ∧ H a = some (.ins C dx fs) ∧ sp [.ref a] H (fun v H' => ∃ n : Str, v = .str n ∧ Q v H') E0
def rBoolO (C : Addr) (sp : Sp) : List V → Hp → VK → Prop := fun xs H Q => ∃ a dx fs, xs = [V.ref a] ∧ H a = some (.ins C dx fs) ∧ sp [.ref a] H (fun v H' => ∃ n : Int, v = .int n ∧ 0 ≤ n ∧ n < 2 ^ 63 ∧ Q (.bl (n != 0)) H') E0
section
variable {X : Cx} {C : Addr} {n : Nat} {sp : Sp}
theorem call_lenO (c : OwnF X.prog X.w X.K X.mg X.base n C "__len__" sp) (hr : Room (n + 1) X.A) : CallR X (.builtin "len") (rLenO C sp) := by
  intro pins s σ H xs us Q I r h
  obtain ⟨a, dx, fs, rfl, ha, q⟩ := h
  obtain rfl := Vals.ref1 r
  obtain ⟨g, hs, hf, F⟩ := c
  obtain ⟨mA, J, _⟩ := ins_get I.hok ha
  obtain ⟨od, J, _⟩ := J.look
  obtain ⟨m, fr⟩ := I.fr
  have hr1 : Room n X.A.in1 := Room.in1 hr
  refine PySem.W.len_K fr I.ok.mod.kin J hs hf (wpAny_mono (wpAny_call (SlX.run_at (us := [.ref a]) (ws := [.ref a]) F hr1 I.env0.in1 pass0 I (.cons rfl .nil) q)) (fun v s' z => ?_) fun _ _ x => x)
  obtain ⟨z', H', I', rz, i, rfl, h0, h1, qz⟩ := z
  obtain ⟨t, rfl⟩ := (show ∃ t, v = Value.int i t from rz)
  exact ⟨⟨h0, h1⟩, .int i, H', I'.tok _, ⟨_, rfl⟩, qz⟩
theorem call_reprO (c : OwnF X.prog X.w X.K X.mg X.base n C "__repr__" sp) (hr : Room (n + 1) X.A) : CallR X (.builtin "repr") (rReprO C sp) := by
  intro pins s σ H xs us Q I r h
  obtain ⟨a, dx, fs, rfl, ha, q⟩ := h
  obtain rfl := Vals.ref1 r
  obtain ⟨g, hs, hf, F⟩ := c
  obtain ⟨mA, J, _⟩ := ins_get I.hok ha
  obtain ⟨od, J, _⟩ := J.look
  obtain ⟨m, fr⟩ := I.fr
  have hr1 : Room n X.A.in1 := Room.in1 hr
  refine PySem.W.repr_K hr1.units0 fr I.ok.mod.kin J hs hf (wpAny_mono (wpAny_call (SlX.run_at (us := [.ref a]) (ws := [.ref a]) F hr1 I.env0.in1 pass0 I (.cons rfl .nil) q)) (fun v s' z => ?_) fun _ _ x => x)
  obtain ⟨z', H', I', rz, i, rfl, qz⟩ := z
  obtain ⟨t, rfl⟩ := (show ∃ t, v = Value.str i t from rz)
  exact ⟨.str i, H', I', ⟨_, rfl⟩, qz⟩
end
section
variable {prog : Program} {w : World} {A : Around} {E : Value → Shared → Prop} {s : Shared} {K : PySem.W.Frag} {x C f : Addr} {ox : Obj} {od : Option Obj}
theorem len_bodyO {Q : Value → Shared → Prop} (X : K.In s.heap) (I : PySem.W.InstAt s.heap x ox C od) (hs : PySem.W.findIn K (.ref C) "__len__" = some (some (.ref f))) (hf : PySem.W.isFn K (.ref f) = true)
    (h : wpAny (model prog w) A (call (.ref f) [.ref x]) (PySem.W.LenBack Q) E s) : wpAny (model prog w) A (Builtin.«len» ⟨[.ref x], []⟩) (fun fin s' => ∃ r, fin = .done (.ret r) ∧ Q r s') E s := by
  unfold Builtin.«len»
  refine wpAny_bind (m := oneArg "len" _) (wpAny_pure ?_)
  refine wpAny_bind (m := callSpecial? (.ref x) (Str.ofString "__len__")) (PySem.W.special_fn X I hs (beq_iff_eq.mp hf) (wpAny_mono h (fun r s' hr => ?_) fun _ _ y => y))
  cases r <;> first | exact hr.elim | skip
  rename_i n u
  obtain ⟨⟨h0, h1⟩, hq⟩ := hr
  refine wpAny_bind (wpAny_holding (wpAny_pure ?_))
  refine wpAny_bind (wpAny_letGo ?_)
  show wpAny _ _ (if n < 0 then _ else _) _ _ _
  rw [if_neg (by omega)]
  show wpAny _ _ (if n ≥ 2 ^ 63 then _ else _) _ _ _
  rw [if_neg (by omega)]
  exact wpAny_bind (wpAny_mkInt (wpAny_pure ⟨_, rfl, hq⟩))
theorem truthyO {Q : Bool → Shared → Prop} (X : K.In s.heap) (I : PySem.W.InstAt s.heap x ox C od) (hb : PySem.W.findIn K (.ref C) "__bool__" = some none) (hs : PySem.W.findIn K (.ref C) "__len__" = some (some (.ref f))) (hf : PySem.W.isFn K (.ref f) = true)
    (h : wpAny (model prog w) A.in1 (call (.ref f) [.ref x]) (PySem.W.LenBack (fun v s' => ∃ n t, v = .int n t ∧ Q (n != 0) s')) E s) : wpAny (model prog w) A (truthy (.ref x)) Q E s := by
  have key : wpAny (model prog w) A (runValue (.builtin "len" ⟨[.ref x], []⟩)) (fun r s' => ∃ n t, r = .int n t ∧ Q (n != 0) s') E s := by
    refine wpAny_runValue (codeAny_builtin entry_len ?_)
    rw [Around.under_plainId plain_len _]
    exact wpAny_mono (len_bodyO (Q := fun r s' => ∃ n t, r = .int n t ∧ Q (n != 0) s') X I hs hf h) (fun fin s' h' => by obtain ⟨r, rfl, hq⟩ := h'; exact hq) fun _ _ e => e
  have hsp : ∀ {Q' : Option Value → Shared → Prop}, Q' (some (.ref f)) s → wpAny (model prog w) A (specialOf (.ref x) "__len__") Q' E s := fun q => by
    unfold specialOf
    exact wpAny_bind (I.type.here ((PySem.W.looks_findIn X hs).here q))
  have hno : ∀ {Q' : Option Value → Shared → Prop}, Q' none s → wpAny (model prog w) A (callSpecial? (.ref x) (Str.ofString "__bool__")) Q' E s := fun q => by
    unfold callSpecial? specialOf
    exact wpAny_bind (wpAny_bind (I.type.here ((PySem.W.looks_findIn X hb).here (wpAny_pure q))))
  unfold truthy
  first
    | refine wpAny_bind (hno ?_)
    | refine wpAny_bind (wpAny_pure (wpAny_bind (hno ?_)))
  first
    | refine wpAny_bind (hsp ?_)
    | refine wpAny_bind (wpAny_pure (wpAny_bind (hsp ?_)))
  first
    | exact wpAny_bind (wpAny_mono key (fun r s' h' => by obtain ⟨n, t, rfl, hq⟩ := h'; exact wpAny_pure hq) fun _ _ e => e)
    | exact wpAny_bind (wpAny_pure (wpAny_bind (wpAny_mono key (fun r s' h' => by obtain ⟨n, t, rfl, hq⟩ := h'; exact wpAny_pure hq) fun _ _ e => e)))
theorem meets_boolO (x : Addr) : MeetsIn prog w (Builtin.«bool.__new__» ⟨[.type "bool", .ref x], []⟩) (fun A R s => wpAny (model prog w) A.in1 (truthy (.ref x)) (fun b s' => R (.ok (.ret (.bool b))) s') (fun e s' => R (.error e) s') s) :=
  fun A R s hs => by
    obtain ⟨hp, g, d, tk, os⟩ := s
    have f1 := F.conv_sub_bool
    repeat (any_goals (first | assumption | (with_reducible refine wpAny_bind (wpAny_mono hs (fun b s' h => ?_) fun _ _ e => e)) | wp_step))
    all_goals first | exact ⟨_, rfl, h⟩ | exact h | skip
end
section
variable {X : Cx} {C : Addr} {n : Nat} {sp : Sp}
theorem call_boolO (hb : PySem.W.findIn X.K (.ref C) "__bool__" = some none) (c : OwnF X.prog X.w X.K X.mg X.base n C "__len__" sp) (hr : Room (n + 3) X.A) : CallR X (.type "bool") (rBoolO C sp) := by
  intro pins s σ H xs us Q I r h
  obtain ⟨a, dx, fs, rfl, ha, q⟩ := h
  obtain rfl := Vals.ref1 r
  obtain ⟨g, hs, hf, F⟩ := c
  obtain ⟨mA, J, _⟩ := ins_get I.hok ha
  obtain ⟨od, J, _⟩ := J.look
  have hr2 : Room n X.A.in1.in1.in1 := (show Room (n + 1) X.A.in1.in1 from (show Room (n + 2) X.A.in1 from Room.in1 hr).in1).in1
  refine callType_newIn PySem.F.called_bool PySem.F.newNe_bool (PySem.F.typeCall_bool_1 (.ref a)) (PySem.F.newCall_bool_1 (.ref a)) (fun obj => PySem.F.args_object_init_2 obj (.ref a)) PySem.F.entry_bool_new (meets_boolO a) ?_
  refine truthyO I.kIn J hb hs hf (wpAny_mono (wpAny_call (SlX.run_at (us := [.ref a]) (ws := [.ref a]) F hr2 I.env0.in1.in1.in1 pass0 I (.cons rfl .nil) q)) (fun v s' z => ?_) fun _ _ x => x)
  obtain ⟨z', H', I', rz, i, rfl, h0, h1, qz⟩ := z
  obtain ⟨t, rfl⟩ := (show ∃ t, v = Value.int i t from rz)
  exact ⟨⟨h0, h1⟩, i, _, rfl, rfl, .bl (i != 0), H', I'.tok _, rfl, qz⟩
end
end WB
namespace WB
open PySem PySem.Spec PyProof.Rows L2 Builtin
/-! ### == and != of an instance and something else -/
section
variable {prog : Program} {w : World} {A : Around} {E : Value → Shared → Prop} {s : Shared} {K : PySem.W.Frag} {x C f : Addr} {b tb : Value} {ox : Obj} {od : Option Obj}
theorem call_objNeY {Q : Value → Shared → Prop} (hu : A.in1.units < cLine) (X : K.In s.heap) (I : PySem.W.InstAt s.heap x ox C od) (hm : PySem.W.mroIn K C (.type "object") = some true)
    (hs : PySem.W.findIn K (.ref C) "__eq__" = some (some (.ref f))) (hf : PySem.W.isFn K (.ref f) = true)
    (h : wpAny (model prog w) A.in1 (call (.ref f) [.ref x, b]) (fun v s' => ∃ t, v = .bool t ∧ Q (.bool (!t)) s') E s) :
    wpAny (model prog w) A (call (.builtin "object.__ne__") [.ref x, b]) Q E s := by
  refine wpAny_call (codeAny_call_builtin F.cmp_object.ne.plain F.cmpEntry_ne (PySem.W.check_slot F.cmpKind_ne F.cmpSplit_ne (I.type.andThen (PySem.W.looks_mroIn X hm)) (F.cmpArgs_ne _ _) ?_))
  unfold Builtin.«object.__ne__»
  repeat (first | with_reducible refine wpAny_cRoomFor hu ?_ | with_reducible refine PySem.W.ifBound_K X I hs hf (wpAny_mono h (fun v s' hv => ?_) fun _ _ e => e) | wp_step)
  obtain ⟨t, rfl, q⟩ := hv
  exact wpAny_bind (wpAny_truthy_bool (wpAny_pure q))
theorem neY_K {Q : Value → Shared → Prop} (hu : A.units < cLine) (hu1 : A.in1.units < cLine) (X : K.In s.heap) (I : PySem.W.InstAt s.heap x ox C od) (hb : PySem.W.Looks (model prog w) s.heap (typeOf b) tb) (hn : PySem.W.notFirst K C tb = true)
    (hne : PySem.W.findIn K (.ref C) "__ne__" = some (some (.builtin "object.__ne__"))) (hm : PySem.W.mroIn K C (.type "object") = some true) (hs : PySem.W.findIn K (.ref C) "__eq__" = some (some (.ref f))) (hf : PySem.W.isFn K (.ref f) = true)
    (h : wpAny (model prog w) A.in1 (call (.ref f) [.ref x, b]) (fun v s' => ∃ t, v = .bool t ∧ Q (.bool (!t)) s') E s) : wpAny (model prog w) A (richCompare .NotEq (.ref x) b) Q E s := by
  have one : wpAny (model prog w) A (tryCompare (.ref x) (cmpInfo .NotEq).2.1 b) (fun r s' => ∃ v, r = some v ∧ Q v s') E s := by
    unfold tryCompare
    refine wpAny_bind (ifBound_objNe X I hne (call_objNeY hu1 X I hm hs hf (wpAny_mono h (fun v s' hv => ?_) fun _ _ e => e)))
    obtain ⟨t, rfl, q⟩ := hv
    exact ⟨t, rfl, wpAny_pure ⟨_, rfl, q⟩⟩
  unfold richCompare
  simp only [oneThing_ref]
  refine wpAny_holding (wpAny_bind (wpAny_cRoomFor hu ?_))
  refine wpAny_bind (I.type.here (wpAny_bind (hb.here ?_)))
  split
  · rename_i q
    have e : PySem.W.subIn K tb (.ref C) = some false := by
      rcases Bool.or_eq_true_iff.mp hn with e | e
      · rw [beq_iff_eq.mp e] at q; simp at q
      · exact beq_iff_eq.mp e
    refine wpAny_bind ((PySem.W.looks_subIn X e).here ?_)
    simp only [Bool.false_eq_true, if_false]
    refine wpAny_bind (wpAny_mono one (fun r s' z => ?_) fun _ _ e => e)
    obtain ⟨v, rfl, hq⟩ := z
    exact wpAny_pure hq
  · refine wpAny_bind (wpAny_pure ?_)
    simp only [Bool.false_eq_true, if_false]
    refine wpAny_bind (wpAny_mono one (fun r s' z => ?_) fun _ _ e => e)
    obtain ⟨v, rfl, hq⟩ := z
    exact wpAny_pure hq
end
def TyY (H : Hp) : V → Value → Prop := fun y t => (∃ p xs, y = .ref p ∧ H p = some (.lst xs) ∧ t = .type "list") ∨ (∃ x, y = .str x ∧ t = .type "str") ∨ (∃ i, y = .int i ∧ t = .type "int")
theorem tyY_looks {X : Cx} {pins : List (Addr × Obj)} {σ : L2.St} {H : Hp} {s : Shared} {y : V} {u t : Value} (I : Inv X pins σ H s) (ry : RelV y u) (h : TyY H y t) : PySem.W.Looks (model X.prog X.w) s.heap (typeOf u) t := by
  rcases h with ⟨p, xs, rfl, hp, rfl⟩ | ⟨x, rfl, rfl⟩ | ⟨i, rfl, rfl⟩
  · cases (show u = Value.ref p from ry)
    obtain ⟨_, _, n, _, h1⟩ := (show ObjOk X.prog X.w H s.heap p (.lst xs) from I.hok p _ hp)
    exact fun A Q E s' k q => wpAny_typeOf_ref (k _ _ h1) q
  · obtain ⟨t, rfl⟩ := (show ∃ t, u = Value.str x t from ry)
    exact fun A Q E s' k q => wpAny_pure q
  · obtain ⟨t, rfl⟩ := (show ∃ t, u = Value.int i t from ry)
    exact fun A Q E s' k q => wpAny_pure q
def rEqY (K : PySem.W.Frag) (C : Addr) (sp : Sp) : R2 := fun x y H Q => ∃ a dx fs t, x = .ref a ∧ H a = some (.ins C dx fs) ∧ TyY H y t ∧ PySem.W.subIn K t (.ref C) = some false ∧ sp [x, y] H Q E0
def rNeY (K : PySem.W.Frag) (C : Addr) (sp : Sp) : R2 := fun x y H Q => ∃ a dx fs t, x = .ref a ∧ H a = some (.ins C dx fs) ∧ TyY H y t ∧ PySem.W.subIn K t (.ref C) = some false ∧ sp [x, y] H (fun v H' => ∃ t, v = .bl t ∧ Q (.bl (!t)) H') E0
section
variable {X : Cx} {C : Addr} {n : Nat} {sp : Sp} (K : PySem.W.Frag)
theorem op_eqY (hK : X.K = K) (c : EqF X.prog X.w X.K X.mg X.base n C sp) (hr : Room n X.A) : OpR X (compareOp .Eq) (rEqY K C sp) := by
  subst hK
  obtain ⟨g, hs, hf, F, hne, hm⟩ := c
  intro pins s σ H x y v u Q I rx ry h
  obtain ⟨a, dx, fs, t, rfl, ha, ht, hsub, q⟩ := h
  cases (show v = Value.ref a from rx)
  obtain ⟨mA, J, _⟩ := ins_get I.hok ha
  obtain ⟨od, J, _⟩ := J.look
  obtain ⟨m, hF⟩ := I.fr
  show wpAny _ _ (richCompare .Eq (.ref a) u) _ _ _
  refine PySem.W.cmp_K (op := .Eq) (tb := t) hr.units0 hF I.ok.mod.kin J (tyY_looks I ry ht) (by unfold PySem.W.notFirst; rw [hsub]; simp) hs hf ?_
  refine wpAny_mono (wpAny_call (run_fnR (us := [.ref a, u]) (vs := [.ref a, y]) F hr pass0 I (.cons rfl (.cons ry .nil)) q)) (fun w s' z => ?_) fun _ _ x => x
  obtain ⟨z', H', I', rz, qz⟩ := z
  exact SlX.cmpback rz ⟨z', H', I', rz, qz⟩
theorem op_neY (hK : X.K = K) (c : EqF X.prog X.w X.K X.mg X.base n C sp) (hr : Room (n + 1) X.A) : OpR X (compareOp .NotEq) (rNeY K C sp) := by
  subst hK
  obtain ⟨g, hs, hf, F, hne, hm⟩ := c
  intro pins s σ H x y v u Q I rx ry h
  obtain ⟨a, dx, fs, t, rfl, ha, ht, hsub, q⟩ := h
  cases (show v = Value.ref a from rx)
  obtain ⟨mA, J, _⟩ := ins_get I.hok ha
  obtain ⟨od, J, _⟩ := J.look
  have hr1 : Room n X.A.in1 := Room.in1 hr
  refine neY_K (tb := t) hr.units0 hr1.units0 I.kIn J (tyY_looks I ry ht) (by unfold PySem.W.notFirst; rw [hsub]; simp) hne hm hs hf (wpAny_mono (wpAny_call (SlX.run_at (us := [.ref a, u]) (ws := [.ref a, y]) F hr1 I.env0.in1 pass0 I (.cons rfl (.cons ry .nil)) q)) (fun w s' z => ?_) fun _ _ x => x)
  obtain ⟨z', H', I', rz, t', rfl, qz⟩ := z
  cases (show w = Value.bool t' from rz)
  exact ⟨t', rfl, .bl (!t'), H', I', rfl, qz⟩
end
end WB
namespace WB
open PySem PySem.Spec PyProof.Rows L2
def topS (i : Nat) : Stmt := PySem.Challenge.pw_warbleline_k16_rows_shortened.main.body.getD i (.Pass ⟨0, 0, 0, 0⟩)
abbrev s__wall : Stmt := topS 0
abbrev s_LineError : Stmt := topS 2
abbrev s_BadBit : Stmt := topS 3
abbrev s_BadByte : Stmt := topS 4
abbrev s_BadCode : Stmt := topS 5
abbrev s_BadFrame : Stmt := topS 6
abbrev s_BadCount : Stmt := topS 7
abbrev s_TooLong : Stmt := topS 8
abbrev s_Full : Stmt := topS 9
abbrev s_check_bits : Stmt := topS 14
abbrev s_check_bytes : Stmt := topS 15
abbrev s_bits_of : Stmt := topS 16
abbrev s_number_bits : Stmt := topS 17
abbrev s_bits_number : Stmt := topS 18
abbrev s_has_room : Stmt := topS 24
abbrev s_words_at_beginning : Stmt := topS 25
abbrev s_longest_code : Stmt := topS 26
abbrev s_word_of : Stmt := topS 27
abbrev s_learn : Stmt := topS 28
abbrev s_numbers_behind_first : Stmt := topS 29
abbrev s_Book : Stmt := topS 30
abbrev m_Book___init__ : Stmt := inClass s_Book 0
abbrev m_Book___eq__ : Stmt := inClass s_Book 1
abbrev m_Book___len__ : Stmt := inClass s_Book 2
abbrev m_Book___repr__ : Stmt := inClass s_Book 3
abbrev m_Book_shorten : Stmt := inClass s_Book 4
abbrev m_Book_lengthen : Stmt := inClass s_Book 5
abbrev m_Book_pack : Stmt := inClass s_Book 6
abbrev m_Book_unpack : Stmt := inClass s_Book 7
abbrev m_Book_learnt : Stmt := inClass s_Book 8
abbrev m_Book_twin : Stmt := inClass s_Book 9
abbrev s__law_bag : Stmt := topS 32
abbrev s__law_pick : Stmt := topS 33
abbrev s__law_of : Stmt := topS 34
abbrev s__law_same : Stmt := topS 35
abbrev s__law_at : Stmt := topS 36
abbrev s__law_most : Stmt := topS 37
abbrev s__law_written : Stmt := topS 38
abbrev s__law_row : Stmt := topS 39
abbrev s__law_bytes_bits : Stmt := topS 40
abbrev s__law_book_begun : Stmt := topS 41
abbrev s__law_book_learn : Stmt := topS 42
abbrev s__law_book_codes : Stmt := topS 43
abbrev s__law_rich_row : Stmt := topS 44
abbrev s__law_menu : Stmt := topS 45
abbrev s__law_book_right : Stmt := topS 46
abbrev s__law_full_then_none : Stmt := topS 47
abbrev s_law : Stmt := topS 48
section
variable {P : Program} {w : World} {K : PySem.W.Frag} {mg : Str → Option Value} {base : Heap}
abbrev i_LineError : Stmt := inClass s_LineError 0
theorem sc_i_LineError : FnScope ["self", "word", "text"] ["self", "word", "text"] (defScope i_LineError) := ⟨rfl, rfl, rfl, by decide +kernel, rfl, by decide +kernel, by decide +kernel⟩
theorem ok_i_LineError {f : Addr} {fd : FuncData} {k : Nat} {dvs : List V} (F : FunD K "__init__" "LineError.__init__" (defArgs i_LineError) (defBody i_LineError) (defScope i_LineError) dvs [] f fd) (n_ValueError : mg "ValueError" = none) (vV : PySem.W.findCls K (.type "ValueError") (.type "type") "__init__" = some (.val (.builtin "ValueError.__init__"))) :
    FnOk P w K mg base CX0 (k + 1) f fd ["self", "word", "text"] (spLE K) := by
  have sc := sc_i_LineError
  refine F.ok sc (fun vs H Q E h => ?_) (fun cdv A outer s H vs Q E hr h => ?_)
  · obtain ⟨a, C, w, t, rfl, _⟩ := h
    rfl
  · obtain ⟨a, C, w, t, rfl, hC, hw, ha, q⟩ := h
    refine ⟨_, PSs.nox (pss_cons (ps_expr (pe_veinit (by rfl) n_ValueError vV (pa_cons (pv 0) (pa_cons (pv 2) pa_nil)))) (pss_one (ps_ost (pv 0) (pv 1)))), ?_⟩
    refine ⟨_, rfl, _, rfl, a, C, [t], rfl, by show 1 ≤ 1000; decide, hC, ha, ?_⟩
    exact ⟨_, rfl, _, rfl, a, C, rfl, hC, hw, .inl ⟨ha, fun d nd da => q d nd da⟩⟩
abbrev i_BadBit : Stmt := inClass s_BadBit 0
theorem sc_i_BadBit : FnScope ["self", "at"] ["self", "at"] (defScope i_BadBit) := ⟨rfl, rfl, rfl, by decide +kernel, rfl, by decide +kernel, by decide +kernel⟩
theorem ok_i_BadBit {f fL C CL : Addr} {fd fdL : FuncData} {k : Nat} (F : Fun K "__init__" "BadBit.__init__" i_BadBit f fd) (TL : ClsFn K mg "LineError" "__init__" CL fL) (FL : FnOk P w K mg base CX0 k fL fdL ["self", "word", "text"] (spLE K)) (bL : Binds K fdL ["self", "word", "text"] [])
    (hC : OexC K C) (hw : PySem.W.findIn K (.ref C) "word" = some none) (hf : PySem.W.findIn K (.ref C) "at" = some none) : FnOk P w K mg base CX0 (k + 1) f fd ["self", "at"] (spIni K C "BadBit" "at") := by
  have sc := sc_i_BadBit
  refine F.ok sc (fun vs H Q E h => ?_) (fun cdv A outer s H vs Q E hr h => ?_)
  · obtain ⟨a, i, rfl, _⟩ := h
    rfl
  · obtain ⟨a, i, rfl, hi, ha, q⟩ := h
    refine ⟨_, (pss_cons (ps_expr (pe_clsfn TL FL hr bL pass0 (by rfl) (pa_cons (pv 0) (pa_cons pe_str (pa_cons (pe_joined (.cons pe_str (.cons (pe_fmt (pv 1)) .nil))) pa_nil))))) (pss_one (ps_ost (pv 0) (pv 1)))), ?_⟩
    refine ⟨_, rfl, _, rfl, (by decide +kernel), _, rfl, .inr ⟨i, rfl, by omega, _, rfl, txt_fits (by decide +kernel) hi, ?_⟩⟩
    refine ⟨a, C, _, _, rfl, hC, hw, ha, fun d nd da => ?_⟩
    refine ⟨_, rfl, _, rfl, a, C, rfl, hC, hf, .inr ⟨d, _, upd_same, ?_, by show 1 ≤ 900; decide, q d nd da⟩⟩
    rw [upd_ne da, upd_same]
abbrev i_BadByte : Stmt := inClass s_BadByte 0
theorem sc_i_BadByte : FnScope ["self", "at"] ["self", "at"] (defScope i_BadByte) := ⟨rfl, rfl, rfl, by decide +kernel, rfl, by decide +kernel, by decide +kernel⟩
theorem ok_i_BadByte {f fL C CL : Addr} {fd fdL : FuncData} {k : Nat} (F : Fun K "__init__" "BadByte.__init__" i_BadByte f fd) (TL : ClsFn K mg "LineError" "__init__" CL fL) (FL : FnOk P w K mg base CX0 k fL fdL ["self", "word", "text"] (spLE K)) (bL : Binds K fdL ["self", "word", "text"] [])
    (hC : OexC K C) (hw : PySem.W.findIn K (.ref C) "word" = some none) (hf : PySem.W.findIn K (.ref C) "at" = some none) : FnOk P w K mg base CX0 (k + 1) f fd ["self", "at"] (spIni K C "BadByte" "at") := by
  have sc := sc_i_BadByte
  refine F.ok sc (fun vs H Q E h => ?_) (fun cdv A outer s H vs Q E hr h => ?_)
  · obtain ⟨a, i, rfl, _⟩ := h
    rfl
  · obtain ⟨a, i, rfl, hi, ha, q⟩ := h
    refine ⟨_, (pss_cons (ps_expr (pe_clsfn TL FL hr bL pass0 (by rfl) (pa_cons (pv 0) (pa_cons pe_str (pa_cons (pe_joined (.cons pe_str (.cons (pe_fmt (pv 1)) .nil))) pa_nil))))) (pss_one (ps_ost (pv 0) (pv 1)))), ?_⟩
    refine ⟨_, rfl, _, rfl, (by decide +kernel), _, rfl, .inr ⟨i, rfl, by omega, _, rfl, txt_fits (by decide +kernel) hi, ?_⟩⟩
    refine ⟨a, C, _, _, rfl, hC, hw, ha, fun d nd da => ?_⟩
    refine ⟨_, rfl, _, rfl, a, C, rfl, hC, hf, .inr ⟨d, _, upd_same, ?_, by show 1 ≤ 900; decide, q d nd da⟩⟩
    rw [upd_ne da, upd_same]
abbrev i_BadCode : Stmt := inClass s_BadCode 0
theorem sc_i_BadCode : FnScope ["self", "at"] ["self", "at"] (defScope i_BadCode) := ⟨rfl, rfl, rfl, by decide +kernel, rfl, by decide +kernel, by decide +kernel⟩
theorem ok_i_BadCode {f fL C CL : Addr} {fd fdL : FuncData} {k : Nat} (F : Fun K "__init__" "BadCode.__init__" i_BadCode f fd) (TL : ClsFn K mg "LineError" "__init__" CL fL) (FL : FnOk P w K mg base CX0 k fL fdL ["self", "word", "text"] (spLE K)) (bL : Binds K fdL ["self", "word", "text"] [])
    (hC : OexC K C) (hw : PySem.W.findIn K (.ref C) "word" = some none) (hf : PySem.W.findIn K (.ref C) "at" = some none) : FnOk P w K mg base CX0 (k + 1) f fd ["self", "at"] (spIni K C "BadCode" "at") := by
  have sc := sc_i_BadCode
  refine F.ok sc (fun vs H Q E h => ?_) (fun cdv A outer s H vs Q E hr h => ?_)
  · obtain ⟨a, i, rfl, _⟩ := h
    rfl
  · obtain ⟨a, i, rfl, hi, ha, q⟩ := h
    refine ⟨_, (pss_cons (ps_expr (pe_clsfn TL FL hr bL pass0 (by rfl) (pa_cons (pv 0) (pa_cons pe_str (pa_cons (pe_joined (.cons pe_str (.cons (pe_fmt (pv 1)) .nil))) pa_nil))))) (pss_one (ps_ost (pv 0) (pv 1)))), ?_⟩
    refine ⟨_, rfl, _, rfl, (by decide +kernel), _, rfl, .inr ⟨i, rfl, by omega, _, rfl, txt_fits (by decide +kernel) hi, ?_⟩⟩
    refine ⟨a, C, _, _, rfl, hC, hw, ha, fun d nd da => ?_⟩
    refine ⟨_, rfl, _, rfl, a, C, rfl, hC, hf, .inr ⟨d, _, upd_same, ?_, by show 1 ≤ 900; decide, q d nd da⟩⟩
    rw [upd_ne da, upd_same]
abbrev i_BadFrame : Stmt := inClass s_BadFrame 0
theorem sc_i_BadFrame : FnScope ["self", "at"] ["self", "at"] (defScope i_BadFrame) := ⟨rfl, rfl, rfl, by decide +kernel, rfl, by decide +kernel, by decide +kernel⟩
theorem ok_i_BadFrame {f fL C CL : Addr} {fd fdL : FuncData} {k : Nat} (F : Fun K "__init__" "BadFrame.__init__" i_BadFrame f fd) (TL : ClsFn K mg "LineError" "__init__" CL fL) (FL : FnOk P w K mg base CX0 k fL fdL ["self", "word", "text"] (spLE K)) (bL : Binds K fdL ["self", "word", "text"] [])
    (hC : OexC K C) (hw : PySem.W.findIn K (.ref C) "word" = some none) (hf : PySem.W.findIn K (.ref C) "at" = some none) : FnOk P w K mg base CX0 (k + 1) f fd ["self", "at"] (spIni K C "BadFrame" "at") := by
  have sc := sc_i_BadFrame
  refine F.ok sc (fun vs H Q E h => ?_) (fun cdv A outer s H vs Q E hr h => ?_)
  · obtain ⟨a, i, rfl, _⟩ := h
    rfl
  · obtain ⟨a, i, rfl, hi, ha, q⟩ := h
    refine ⟨_, (pss_cons (ps_expr (pe_clsfn TL FL hr bL pass0 (by rfl) (pa_cons (pv 0) (pa_cons pe_str (pa_cons (pe_joined (.cons pe_str (.cons (pe_fmt (pv 1)) .nil))) pa_nil))))) (pss_one (ps_ost (pv 0) (pv 1)))), ?_⟩
    refine ⟨_, rfl, _, rfl, (by decide +kernel), _, rfl, .inr ⟨i, rfl, by omega, _, rfl, txt_fits (by decide +kernel) hi, ?_⟩⟩
    refine ⟨a, C, _, _, rfl, hC, hw, ha, fun d nd da => ?_⟩
    refine ⟨_, rfl, _, rfl, a, C, rfl, hC, hf, .inr ⟨d, _, upd_same, ?_, by show 1 ≤ 900; decide, q d nd da⟩⟩
    rw [upd_ne da, upd_same]
abbrev i_BadCount : Stmt := inClass s_BadCount 0
theorem sc_i_BadCount : FnScope ["self"] ["self"] (defScope i_BadCount) := ⟨rfl, rfl, rfl, by decide +kernel, rfl, by decide +kernel, by decide +kernel⟩
theorem ok_i_BadCount {f fL C CL : Addr} {fd fdL : FuncData} {k : Nat} (F : Fun K "__init__" "BadCount.__init__" i_BadCount f fd) (TL : ClsFn K mg "LineError" "__init__" CL fL) (FL : FnOk P w K mg base CX0 k fL fdL ["self", "word", "text"] (spLE K)) (bL : Binds K fdL ["self", "word", "text"] [])
    (hC : OexC K C) (hw : PySem.W.findIn K (.ref C) "word" = some none) : FnOk P w K mg base CX0 (k + 1) f fd ["self"] (spIni0 K C "BadCount") := by
  have sc := sc_i_BadCount
  refine F.ok sc (fun vs H Q E h => ?_) (fun cdv A outer s H vs Q E hr h => ?_)
  · obtain ⟨a, rfl, _⟩ := h
    rfl
  · obtain ⟨a, rfl, ha, q⟩ := h
    refine ⟨_, (pss_one (ps_expr (pe_clsfn TL FL hr bL pass0 (by rfl) (pa_cons (pv 0) (pa_cons pe_str (pa_cons pe_str pa_nil)))))), ?_⟩
    exact ⟨_, rfl, a, C, _, _, rfl, hC, hw, ha, fun d nd da => q d nd da⟩
abbrev i_TooLong : Stmt := inClass s_TooLong 0
theorem sc_i_TooLong : FnScope ["self", "most"] ["self", "most"] (defScope i_TooLong) := ⟨rfl, rfl, rfl, by decide +kernel, rfl, by decide +kernel, by decide +kernel⟩
theorem ok_i_TooLong {f fL C CL : Addr} {fd fdL : FuncData} {k : Nat} (F : Fun K "__init__" "TooLong.__init__" i_TooLong f fd) (TL : ClsFn K mg "LineError" "__init__" CL fL) (FL : FnOk P w K mg base CX0 k fL fdL ["self", "word", "text"] (spLE K)) (bL : Binds K fdL ["self", "word", "text"] [])
    (hC : OexC K C) (hw : PySem.W.findIn K (.ref C) "word" = some none) (hf : PySem.W.findIn K (.ref C) "most" = some none) : FnOk P w K mg base CX0 (k + 1) f fd ["self", "most"] (spIni K C "TooLong" "most") := by
  have sc := sc_i_TooLong
  refine F.ok sc (fun vs H Q E h => ?_) (fun cdv A outer s H vs Q E hr h => ?_)
  · obtain ⟨a, i, rfl, _⟩ := h
    rfl
  · obtain ⟨a, i, rfl, hi, ha, q⟩ := h
    refine ⟨_, (pss_cons (ps_expr (pe_clsfn TL FL hr bL pass0 (by rfl) (pa_cons (pv 0) (pa_cons pe_str (pa_cons (pe_joined (.cons pe_str (.cons (pe_fmt (pv 1)) .nil))) pa_nil))))) (pss_one (ps_ost (pv 0) (pv 1)))), ?_⟩
    refine ⟨_, rfl, _, rfl, (by decide +kernel), _, rfl, .inr ⟨i, rfl, by omega, _, rfl, txt_fits (by decide +kernel) hi, ?_⟩⟩
    refine ⟨a, C, _, _, rfl, hC, hw, ha, fun d nd da => ?_⟩
    refine ⟨_, rfl, _, rfl, a, C, rfl, hC, hf, .inr ⟨d, _, upd_same, ?_, by show 1 ≤ 900; decide, q d nd da⟩⟩
    rw [upd_ne da, upd_same]
/-! ### bytes -/
def isY (z : Int) : Prop := 0 ≤ z ∧ z < 256
def Bytes (ns : List Int) : Prop := ∀ z ∈ ns, isY z
def bb (ns : List Int) : List Int := (ns.map (wr 8)).flatten
theorem bb_cons (n : Int) (r : List Int) : bb (n :: r) = wr 8 n ++ bb r := rfl
theorem bb_app (a c : List Int) : bb (a ++ c) = bb a ++ bb c := by
  unfold bb
  rw [List.map_append, List.flatten_append]
theorem bb_len : ∀ ns : List Int, (bb ns).length = 8 * ns.length
  | [] => rfl
  | n :: r => by
    rw [bb_cons, List.length_append, wr_len, bb_len r, List.length_cons]
    omega
theorem bb_bits : ∀ ns : List Int, Bits (bb ns)
  | [] => bits_nil
  | n :: r => by
    rw [bb_cons]
    exact bits_app (wr_bits 8 n) (bb_bits r)
/-! ### numbers in bits -/
def bn (bs : List Int) : Int := bs.foldl (fun n b => 2 * n + b) 0
theorem bn_more {bs : List Int} {i : Nat} {b : Int} (h : bs[i]? = some b) : bn (bs.take (i + 1)) = 2 * bn (bs.take i) + b := by
  unfold bn
  rw [take_more h, List.foldl_append]
  rfl
theorem bn_acc (n : Nat) : ∀ (i : Nat) (c : Int), (wr i (n : Int)).foldl (fun n b => 2 * n + b) c = c * 2 ^ i + ((n % 2 ^ i : Nat) : Int)
  | 0, c => by
    show c = c * 1 + ((n % 1 : Nat) : Int)
    rw [Nat.mod_one]
    omega
  | i + 1, c => by
    show (wr i (n : Int)).foldl _ (2 * c + ((n : Int) / 2 ^ i) % 2) = _
    rw [bn_acc n i]
    have e : ((n : Int) / 2 ^ i) % 2 = ((n / 2 ^ i % 2 : Nat) : Int) := by
      rw [Int.natCast_emod, Int.natCast_ediv, Int.natCast_pow]
      rfl
    rw [e, Nat.mod_pow_succ, Int.natCast_add, Int.natCast_mul, Int.natCast_pow, Int.pow_succ, Int.add_mul]
    have e2 : (2 * c) * 2 ^ i = c * (2 ^ i * 2) := by
      rw [Int.mul_comm 2 c, Int.mul_assoc, Int.mul_comm 2 (2 ^ i)]
    rw [e2]
    have e3 : ((n / 2 ^ i % 2 : Nat) : Int) * 2 ^ i = (2 : Int) ^ i * ((n / 2 ^ i % 2 : Nat) : Int) := Int.mul_comm _ _
    show _ + ((n / 2 ^ i % 2 : Nat) : Int) * 2 ^ i + ((n % 2 ^ i : Nat) : Int) = _ + (((n % 2 ^ i : Nat) : Int) + (2 : Int) ^ i * ((n / 2 ^ i % 2 : Nat) : Int))
    rw [e3]
    omega
theorem bn_wr {n : Int} {i : Nat} (h0 : 0 ≤ n) (h1 : n < 2 ^ i) : bn (wr i n) = n := by
  obtain ⟨m, rfl⟩ : ∃ m : Nat, n = (m : Int) := ⟨n.toNat, by omega⟩
  unfold bn
  rw [bn_acc, Nat.mod_eq_of_lt (by exact_mod_cast h1)]
  omega
theorem pow64 {k : Nat} (h : k ≤ 64) : (1 : Int) ≤ 2 ^ k ∧ (2 : Int) ^ k ≤ 18446744073709551616 := by
  have h1 : (2 : Nat) ^ k ≤ 18446744073709551616 := Nat.le_trans (Nat.pow_le_pow_right (by decide) h) (by decide)
  have h2 : 1 ≤ (2 : Nat) ^ k := Nat.one_le_two_pow
  have e : ((2 ^ k : Nat) : Int) = (2 : Int) ^ k := Int.natCast_pow 2 k
  rw [← e]
  generalize 2 ^ k = x at h1 h2 ⊢
  omega
theorem lt_of_div {n : Int} {k : Nat} (h : n / 2 ^ k = 0) : n < 2 ^ k := by
  have h1 := Int.mul_ediv_add_emod n (2 ^ k)
  rw [h, Int.mul_zero, Int.zero_add] at h1
  have := Int.emod_lt_of_pos n (b := 2 ^ k) (Int.pow_pos (by decide))
  omega
theorem cut_mid (xs : List V) (i j : Nat) (h : i ≤ j) : cutV xs (some (i : Int)) (some (j : Int)) = (xs.drop i).take (j - i) := by
  unfold cutV
  rw [HT.sIx_nat, HT.sIx_nat]
  by_cases h1 : i ≤ xs.length
  · rw [Nat.min_eq_left h1]
    by_cases h2 : j ≤ xs.length
    · rw [Nat.min_eq_left h2]
    · rw [Nat.min_eq_right (by omega), List.take_of_length_le (by rw [List.length_drop]; exact Nat.le_refl _), List.take_of_length_le (by rw [List.length_drop]; omega)]
  · rw [Nat.min_eq_right (show xs.length ≤ i by omega), Nat.min_eq_right (show xs.length ≤ j by omega), List.drop_of_length_le (Nat.le_refl _), List.drop_of_length_le (show xs.length ≤ i by omega), List.take_nil, List.take_nil]
/-! ### books: the mathematics -/
abbrev Wds := List (List Int)
def bkBegun (ws : Wds) : Wds := if ws.length < 44 then ws else []
def bkLearn (ws : Wds) (a u : List Int) : Wds := if a ≠ [] ∧ ws.length < 44 ∧ a ++ u.take 1 ∉ ws then ws ++ [a ++ u.take 1] else ws
/-- the number of the longest word with which r begins, among the first so many, and how long it is -/
def bkBest (r : List Int) (ws : Wds) : Nat → Int × Nat
  | 0 => (r.headD 0, 1)
  | i + 1 => match ws[i]? with
    | some u => if (bkBest r ws i).2 < u.length ∧ r.take u.length = u then (256 + (i : Int), u.length) else bkBest r ws i
    | none => bkBest r ws i
def bkCode (r : List Int) (ws : Wds) : Int := (bkBest r ws ws.length).1
def bkSize (r : List Int) (ws : Wds) : Nat := (bkBest r ws ws.length).2
structure BkIs (r : List Int) (ws : Wds) (i : Nat) (c : Int) (n : Nat) : Prop where
  lo : 1 ≤ n
  hi : n ≤ r.length
  way : (n = 1 ∧ c = r.headD 0) ∨ (1 < n ∧ ∃ j : Nat, j < i ∧ ws[j]? = some (r.take n) ∧ c = 256 + (j : Int) ∧ ∀ k, k < j → ws[k]? ≠ some (r.take n))
  top : ∀ j u, j < i → ws[j]? = some u → r.take u.length = u → u.length ≤ n
theorem bkBest_is {r : List Int} (hr : r ≠ []) (ws : Wds) : ∀ i : Nat, BkIs r ws i (bkBest r ws i).1 (bkBest r ws i).2
  | 0 => ⟨Nat.le_refl _, (by show 1 ≤ r.length; exact List.length_pos_iff.mpr hr), .inl ⟨rfl, rfl⟩, fun j u h => absurd h (Nat.not_lt_zero _)⟩
  | i + 1 => by
    obtain ⟨lo, hi, way, top⟩ := bkBest_is hr ws i
    have more : ∀ {c : Int} {n : Nat}, ((n = 1 ∧ c = r.headD 0) ∨ (1 < n ∧ ∃ j : Nat, j < i ∧ ws[j]? = some (r.take n) ∧ c = 256 + (j : Int) ∧ ∀ k, k < j → ws[k]? ≠ some (r.take n))) → (n = 1 ∧ c = r.headD 0) ∨ (1 < n ∧ ∃ j : Nat, j < i + 1 ∧ ws[j]? = some (r.take n) ∧ c = 256 + (j : Int) ∧ ∀ k, k < j → ws[k]? ≠ some (r.take n)) := by
      rintro c n (h | ⟨h, j, hj, h2⟩)
      · exact .inl h
      · exact .inr ⟨h, j, by omega, h2⟩
    show BkIs r ws (i + 1) (match ws[i]? with | some u => if (bkBest r ws i).2 < u.length ∧ r.take u.length = u then (256 + (i : Int), u.length) else bkBest r ws i | none => bkBest r ws i).1 (match ws[i]? with | some u => if (bkBest r ws i).2 < u.length ∧ r.take u.length = u then (256 + (i : Int), u.length) else bkBest r ws i | none => bkBest r ws i).2
    cases e : ws[i]? with
    | none =>
      refine ⟨lo, hi, more way, fun j u hj hu ht => ?_⟩
      by_cases z : j = i
      · rw [z, e] at hu
        cases hu
      · exact top j u (by omega) hu ht
    | some u =>
      by_cases c : (bkBest r ws i).2 < u.length ∧ r.take u.length = u
      · simp only [if_pos c]
        have hul : u.length ≤ r.length := by
          have := congrArg List.length c.2
          rw [List.length_take] at this
          omega
        refine ⟨by show 1 ≤ u.length; omega, hul, .inr ⟨by show 1 < u.length; omega, i, by omega, ?_, rfl, fun k hk hz => ?_⟩, fun j v hj hv ht => ?_⟩
        · rw [e]
          show some u = some (r.take u.length)
          rw [c.2]
        · have hz : ws[k]? = some (r.take u.length) := hz
          rw [c.2] at hz
          have := top k u hk hz c.2
          omega
        · show v.length ≤ u.length
          by_cases z : j = i
          · rw [z, e] at hv
            cases hv
            exact Nat.le_refl _
          · have := top j v (by omega) hv ht
            omega
      · simp only [if_neg c]
        refine ⟨lo, hi, more way, fun j v hj hv ht => ?_⟩
        by_cases z : j = i
        · rw [z, e] at hv
          cases hv
          exact Nat.le_of_not_lt (fun h => c ⟨h, ht⟩)
        · exact top j v (by omega) hv ht
theorem bk_is {r : List Int} (hr : r ≠ []) (ws : Wds) : BkIs r ws ws.length (bkCode r ws) (bkSize r ws) := bkBest_is hr ws ws.length
theorem bkSize_pos (r : List Int) (ws : Wds) : 1 ≤ bkSize r ws := by
  have : ∀ i, 1 ≤ (bkBest r ws i).2 := by
    intro i
    induction i with
    | zero => exact Nat.le_refl _
    | succ i ih =>
      show 1 ≤ (match ws[i]? with | some u => if (bkBest r ws i).2 < u.length ∧ r.take u.length = u then (256 + (i : Int), u.length) else bkBest r ws i | none => bkBest r ws i).2
      cases ws[i]? with
      | none => exact ih
      | some u =>
        show 1 ≤ (if (bkBest r ws i).2 < u.length ∧ r.take u.length = u then (256 + (i : Int), u.length) else bkBest r ws i).2
        split
        · rename_i c
          show 1 ≤ u.length
          omega
        · exact ih
  exact this _
theorem drop_lt {r : List Int} {n : Nat} (hr : r ≠ []) (hn : 1 ≤ n) : (r.drop n).length < r.length := by
  have := List.length_pos_iff.mpr hr
  rw [List.length_drop]
  omega
/-- the numbers of a row, and the words behind -/
def bkGo (ws : Wds) (a r : List Int) : List Int × Wds :=
  if h : r = [] then ([], ws)
  else (bkCode r ws :: (bkGo (bkLearn ws a (r.take (bkSize r ws))) (r.take (bkSize r ws)) (r.drop (bkSize r ws))).1, (bkGo (bkLearn ws a (r.take (bkSize r ws))) (r.take (bkSize r ws)) (r.drop (bkSize r ws))).2)
termination_by r.length
decreasing_by all_goals exact drop_lt h (bkSize_pos r ws)
theorem bkGo_nil (ws : Wds) (a : List Int) : bkGo ws a [] = ([], ws) := by
  rw [bkGo]
  rfl
theorem bkGo_cons {ws : Wds} {a r : List Int} (h : r ≠ []) : bkGo ws a r = (bkCode r ws :: (bkGo (bkLearn ws a (r.take (bkSize r ws))) (r.take (bkSize r ws)) (r.drop (bkSize r ws))).1, (bkGo (bkLearn ws a (r.take (bkSize r ws))) (r.take (bkSize r ws)) (r.drop (bkSize r ws))).2) := by
  rw [bkGo, dif_neg h]
def bkShort (ws : Wds) (row : List Int) : List Int × Wds := bkGo (bkBegun ws) [] row
def bkWord (ws : Wds) (c : Int) : List Int := if c < 256 then [c] else ws.getD (c - 256).toNat []
/-- the row of numbers, or where it stops -/
def bkLen (ws : Wds) (a f : List Int) (i : Nat) : List Int → Sum Nat (List Int × Wds)
  | [] => .inr (f, ws)
  | c :: cs => if c < 0 ∨ 256 + (ws.length : Int) ≤ c then .inl i
    else if 60 < f.length + (bkWord ws c).length then .inl i else bkLen (bkLearn ws a (bkWord ws c)) (bkWord ws c) (f ++ bkWord ws c) (i + 1) cs
def bkLong (ws : Wds) (cs : List Int) : Sum Nat (List Int × Wds) := bkLen (bkBegun ws) [] [] 0 cs
theorem bk_code_word {ws : Wds} {r : List Int} (h : r ≠ []) (hb : ∀ z ∈ r, 0 ≤ z ∧ z < 256) : (0 ≤ bkCode r ws ∧ bkCode r ws < 256 + (ws.length : Int)) ∧ bkWord ws (bkCode r ws) = r.take (bkSize r ws) := by
  obtain ⟨lo, hi, way, top⟩ := bk_is h ws
  rcases way with ⟨e1, e2⟩ | ⟨h1, j, hj, hw, e2, _⟩
  · have hz := hb (r.headD 0) (by cases r with | nil => exact absurd rfl h | cons x t => exact .head _)
    rw [e2, e1]
    refine ⟨⟨hz.1, by omega⟩, ?_⟩
    unfold bkWord
    rw [if_pos hz.2]
    cases r with
    | nil => exact absurd rfl h
    | cons x t => rfl
  · rw [e2]
    refine ⟨⟨by omega, by omega⟩, ?_⟩
    unfold bkWord
    rw [if_neg (by omega), show (256 + (j : Int) - 256).toNat = j by omega, List.getD_eq_getElem?_getD, hw]
    rfl
theorem bkLen_go : ∀ (n : Nat) (r : List Int) (ws : Wds) (a f : List Int) (i : Nat), r.length ≤ n → (∀ z ∈ r, 0 ≤ z ∧ z < 256) → f.length + r.length ≤ 60 → bkLen ws a f i (bkGo ws a r).1 = .inr (f ++ r, (bkGo ws a r).2)
  | n, [], ws, a, f, i, _, _, _ => by
    rw [bkGo_nil]
    show Sum.inr (f, ws) = _
    rw [List.append_nil]
  | 0, x :: r, _, _, _, _, h, _, _ => absurd h (by simp)
  | n + 1, x :: r, ws, a, f, i, hl, hb, h60 => by
    have hne : x :: r ≠ [] := by simp
    obtain ⟨hc, hw⟩ := bk_code_word (ws := ws) hne hb
    have hs := bkSize_pos (x :: r) ws
    have hi := (bk_is hne ws).hi
    rw [bkGo_cons hne]
    show (if bkCode (x :: r) ws < 0 ∨ 256 + (ws.length : Int) ≤ bkCode (x :: r) ws then _ else _) = _
    rw [if_neg (by omega), hw]
    rw [if_neg (by rw [List.length_take]; omega)]
    rw [bkLen_go n _ _ _ _ _ (by have := drop_lt hne hs; omega) (fun z hz => hb z (List.mem_of_mem_drop hz)) (by rw [List.length_append, List.length_take, List.length_drop]; omega)]
    rw [List.append_assoc, List.take_append_drop]
theorem bkLong_short {ws : Wds} {row : List Int} (hb : ∀ z ∈ row, 0 ≤ z ∧ z < 256) (hl : row.length ≤ 60) : bkLong ws (bkShort ws row).1 = .inr (row, (bkShort ws row).2) := by
  unfold bkLong bkShort
  have := bkLen_go row.length row (bkBegun ws) [] [] 0 (Nat.le_refl _) hb (by simpa using hl)
  rw [List.nil_append] at this
  exact this
theorem bkGo_len : ∀ (n : Nat) (r : List Int) (ws : Wds) (a : List Int), r.length ≤ n → (bkGo ws a r).1.length ≤ r.length
  | n, [], ws, a, _ => by rw [bkGo_nil]; exact Nat.le_refl _
  | 0, x :: r, _, _, h => absurd h (by simp)
  | n + 1, x :: r, ws, a, hl => by
    have hne : x :: r ≠ [] := by simp
    have hd := drop_lt hne (bkSize_pos (x :: r) ws)
    rw [bkGo_cons hne]
    have := bkGo_len n ((x :: r).drop (bkSize (x :: r) ws)) (bkLearn ws a ((x :: r).take (bkSize (x :: r) ws))) ((x :: r).take (bkSize (x :: r) ws)) (by omega)
    show _ + 1 ≤ _
    omega
theorem bkLearn_room {ws : Wds} {a u : List Int} (h : ws.length ≤ 44) : (bkLearn ws a u).length ≤ 44 := by
  unfold bkLearn
  split
  · rename_i c
    rw [List.length_append]
    show ws.length + 1 ≤ 44
    omega
  · exact h
theorem bkBegun_room (ws : Wds) : (bkBegun ws).length ≤ 44 := by
  unfold bkBegun
  split
  · omega
  · exact Nat.zero_le _
theorem bkGo_room : ∀ (n : Nat) (r : List Int) (ws : Wds) (a : List Int), r.length ≤ n → ws.length ≤ 44 → (bkGo ws a r).2.length ≤ 44
  | n, [], ws, a, _, h => by rw [bkGo_nil]; exact h
  | 0, x :: r, _, _, h, _ => absurd h (by simp)
  | n + 1, x :: r, ws, a, hl, h => by
    have hne : x :: r ≠ [] := by simp
    have hd := drop_lt hne (bkSize_pos (x :: r) ws)
    rw [bkGo_cons hne]
    exact bkGo_room n _ _ _ (by omega) (bkLearn_room h)
theorem bkGo_codes : ∀ (n : Nat) (r : List Int) (ws : Wds) (a : List Int), r.length ≤ n → ws.length ≤ 44 → (∀ z ∈ r, 0 ≤ z ∧ z < 256) → ∀ c ∈ (bkGo ws a r).1, 0 ≤ c ∧ c < 300
  | n, [], ws, a, _, _, _ => by rw [bkGo_nil]; exact fun c hc => absurd hc List.not_mem_nil
  | 0, x :: r, _, _, h, _, _ => absurd h (by simp)
  | n + 1, x :: r, ws, a, hl, h, hb => by
    have hne : x :: r ≠ [] := by simp
    have hd := drop_lt hne (bkSize_pos (x :: r) ws)
    rw [bkGo_cons hne]
    intro c hc
    rcases List.mem_cons.mp hc with rfl | hc
    · have := (bk_code_word (ws := ws) hne hb).1
      omega
    · exact bkGo_codes n _ _ _ (by omega) (bkLearn_room h) (fun z hz => hb z (List.mem_of_mem_drop hz)) c hc
theorem bkShort_room (ws : Wds) (row : List Int) : (bkShort ws row).2.length ≤ 44 := bkGo_room row.length row _ _ (Nat.le_refl _) (bkBegun_room ws)
theorem bkShort_len (ws : Wds) (row : List Int) : (bkShort ws row).1.length ≤ row.length := bkGo_len row.length row _ _ (Nat.le_refl _)
theorem bkShort_codes {ws : Wds} {row : List Int} (hb : ∀ z ∈ row, 0 ≤ z ∧ z < 256) : ∀ c ∈ (bkShort ws row).1, 0 ≤ c ∧ c < 300 := bkGo_codes row.length row _ _ (Nat.le_refl _) (bkBegun_room ws) hb
/-- words are of two bytes and more, at most sixty -/
def Wd (u : List Int) : Prop := 1 ≤ u.length ∧ u.length ≤ 1000
/-! ### a row of unlike bytes fills the book -/
theorem un_odd : ∀ n, n < 60 → 0 < n → ∀ d, d < 128 → (n * (1 + 2 * d)) % 256 ≠ 0 := by decide +kernel
def fullRow (x d : Nat) : List Int := (List.range 60).map fun k : Nat => ((x : Int) + (k : Int) * (1 + 2 * (d : Int))) % 256
theorem fullRow_len (x d : Nat) : (fullRow x d).length = 60 := by
  unfold fullRow
  rw [List.length_map, List.length_range]
theorem fullRow_bytes (x d : Nat) : ∀ z ∈ fullRow x d, 0 ≤ z ∧ z < 256 := by
  intro z hz
  unfold fullRow at hz
  obtain ⟨k, _, rfl⟩ := List.mem_map.mp hz
  omega
theorem fullRow_nodup {x d : Nat} (hd : d < 128) : (fullRow x d).Nodup := by
  unfold fullRow
  rw [List.nodup_iff_pairwise_ne, List.pairwise_map]
  refine List.Pairwise.imp_of_mem ?_ (List.nodup_iff_pairwise_ne.mp List.nodup_range)
  have key : ∀ i j : Nat, i < j → j < 60 → ((x : Int) + (i : Int) * (1 + 2 * (d : Int))) % 256 ≠ ((x : Int) + (j : Int) * (1 + 2 * (d : Int))) % 256 := by
    intro i j hij hj e
    have h := un_odd (j - i) (by omega) (by omega) d hd
    refine h ?_
    obtain ⟨m, rfl⟩ : ∃ m, j = i + m := ⟨j - i, by omega⟩
    rw [Nat.add_sub_cancel_left]
    have e2 : (((i + m : Nat) : Int)) * (1 + 2 * (d : Int)) = (i : Int) * (1 + 2 * (d : Int)) + (m : Int) * (1 + 2 * (d : Int)) := by
      rw [Int.natCast_add, Int.add_mul]
    rw [e2] at e
    have e3 : (((m * (1 + 2 * d) : Nat)) : Int) = (m : Int) * (1 + 2 * (d : Int)) := by
      rw [Int.natCast_mul, Int.natCast_add, Int.natCast_mul]
      rfl
    rw [← e3] at e
    generalize (i : Int) * (1 + 2 * (d : Int)) = y at e
    generalize m * (1 + 2 * d) = w at e ⊢
    omega
  intro i j hi hj hne
  rw [List.mem_range] at hi hj
  rcases Nat.lt_trichotomy i j with h | h | h
  · exact key i j h hj
  · exact absurd h hne
  · exact fun e => key j i h hi e.symm
/-- all of the words' bytes have been before -/
def Past (ws : Wds) (r : List Int) : Prop := ∀ u ∈ ws, u ≠ [] ∧ ∀ z ∈ u, z ∉ r
theorem past_code {ws : Wds} {x : Int} {t : List Int} (h : Past ws (x :: t)) : bkCode (x :: t) ws = x ∧ bkSize (x :: t) ws = 1 := by
  obtain ⟨lo, hi, way, _⟩ := bk_is (r := x :: t) (by simp) ws
  rcases way with ⟨e1, e2⟩ | ⟨h1, j, _, hw, _, _⟩
  · exact ⟨e2, e1⟩
  · exfalso
    have hm := h _ (List.mem_of_getElem? hw)
    refine hm.2 x ?_ (.head _)
    obtain ⟨n, hn⟩ : ∃ n, bkSize (x :: t) ws = n + 1 := ⟨bkSize (x :: t) ws - 1, by omega⟩
    rw [hn, List.take_succ_cons]
    exact .head _
theorem go_nodup : ∀ (r : List Int) (ws : Wds) (y : Int), r.Nodup → Past ws r → y ∉ r → ws.length ≤ 44 → (bkGo ws [y] r).1 = r ∧ (bkGo ws [y] r).2.length = min 44 (ws.length + r.length)
  | [], ws, y, _, _, _, hl => by
    rw [bkGo_nil]
    refine ⟨rfl, ?_⟩
    show ws.length = min 44 (ws.length + 0)
    omega
  | x :: t, ws, y, hn, hp, hy, hl => by
    obtain ⟨ec, es⟩ := past_code hp
    have hn' := List.nodup_cons.mp hn
    have hnew : [y] ++ [x].take 1 ∉ ws := fun hm => (hp _ hm).2 x (by simp) (.head _)
    have hpast : Past (bkLearn ws [y] [x]) t := by
      unfold bkLearn
      split
      · intro u hu
        rcases List.mem_append.mp hu with h | h
        · exact ⟨(hp u h).1, fun z hz hzt => (hp u h).2 z hz (.tail _ hzt)⟩
        · rw [List.mem_singleton.mp h]
          refine ⟨by simp, fun z hz hzt => ?_⟩
          have hz : z ∈ [y, x] := hz
          rcases List.mem_cons.mp hz with rfl | hz
          · exact hy (.tail _ hzt)
          · rw [List.mem_singleton.mp hz] at hzt
            exact hn'.1 hzt
      · exact fun u hu => ⟨(hp u hu).1, fun z hz hzt => (hp u hu).2 z hz (.tail _ hzt)⟩
    have hlen : (bkLearn ws [y] [x]).length = min 44 (ws.length + 1) := by
      unfold bkLearn
      by_cases z : ws.length < 44
      · rw [if_pos ⟨by simp, z, hnew⟩, List.length_append]
        show ws.length + 1 = _
        omega
      · rw [if_neg (fun c => z c.2.1)]
        omega
    obtain ⟨i1, i2⟩ := go_nodup t (bkLearn ws [y] [x]) x hn'.2 hpast hn'.1 (by omega)
    rw [bkGo_cons (by simp), ec, es]
    refine ⟨?_, ?_⟩
    · show x :: (bkGo (bkLearn ws [y] [x]) [x] t).1 = x :: t
      rw [i1]
    · show (bkGo (bkLearn ws [y] [x]) [x] t).2.length = _
      rw [i2, hlen, List.length_cons]
      omega
theorem full_short {x d : Nat} (hd : d < 128) : (bkShort [] (fullRow x d)).1 = fullRow x d ∧ (bkShort [] (fullRow x d)).2.length = 44 := by
  have hn := fullRow_nodup (x := x) hd
  have hl := fullRow_len x d
  unfold bkShort
  have hb : bkBegun [] = [] := rfl
  rw [hb]
  cases h : fullRow x d with
  | nil => rw [h] at hl; cases hl
  | cons y t =>
    rw [h] at hn hl
    have hn' := List.nodup_cons.mp hn
    obtain ⟨ec, es⟩ := past_code (ws := []) (x := y) (t := t) (fun u hu => absurd hu List.not_mem_nil)
    obtain ⟨i1, i2⟩ := go_nodup t [] y hn'.2 (fun u hu => absurd hu List.not_mem_nil) hn'.1 (Nat.zero_le _)
    have e0 : bkLearn [] [] [y] = [] := by
      unfold bkLearn
      rw [if_neg (fun c => c.1 rfl)]
    rw [bkGo_cons (by simp), ec, es]
    have e1 : bkLearn [] [] ((y :: t).take 1) = [] := e0
    rw [e1]
    refine ⟨?_, ?_⟩
    · show y :: (bkGo [] [y] t).1 = y :: t
      rw [i1]
    · show (bkGo [] [y] t).2.length = 44
      rw [i2]
      have : t.length + 1 = 60 := hl
      show min 44 (0 + t.length) = 44
      omega
/-! ### books as objects -/
abbrev WP := Addr × List Int
abbrev rfW (p : WP) : V := .ref p.1
abbrev twW (p : WP) : Addr × List V := (p.1, p.2.map V.int)
def wsOf (P : List WP) : Wds := P.map (·.2)
abbrev refsW (P : List WP) : List V := P.map rfW
abbrev knW (P : List WP) : List (Addr × List V) := P.map twW
theorem wsOf_len (P : List WP) : (wsOf P).length = P.length := List.length_map _
theorem wsOf_app (P Q : List WP) : wsOf (P ++ Q) = wsOf P ++ wsOf Q := List.map_append
theorem wsOf_at {P : List WP} {i : Nat} {p : WP} (h : P[i]? = some p) : (wsOf P)[i]? = some p.2 := by
  unfold wsOf
  rw [List.getElem?_map, h]
  rfl
theorem refsW_at {P : List WP} {i : Nat} {x : V} (h : (refsW P)[i]? = some x) : ∃ p, P[i]? = some p ∧ x = .ref p.1 := by
  rw [List.getElem?_map] at h
  cases e : P[i]? with
  | none => rw [e] at h; cases h
  | some p => rw [e] at h; exact ⟨p, rfl, (Option.some.inj h).symm⟩
theorem tf_at {K : PySem.W.Frag} {P : List WP} {H : Hp} {i : Nat} {p : WP} (t : TF K (knW P) H) (h : P[i]? = some p) : SqT K H p.1 (p.2.map V.int) := t (twW p) (List.mem_map.mpr ⟨p, List.mem_of_getElem? h, rfl⟩)
theorem tf_nil {K : PySem.W.Frag} {H : Hp} : TF K (knW []) H := fun p hp => absurd hp List.not_mem_nil
theorem tf_snoc {K : PySem.W.Frag} {P : List WP} {H : Hp} {t : Addr} {u : List Int} (h : TF K (knW P) H) (ht : SqT K H t (u.map V.int)) : TF K (knW (P ++ [(t, u)])) H := fun p hp => by
  have hp : p ∈ (P ++ [(t, u)]).map twW := hp
  rw [List.map_append] at hp
  rcases List.mem_append.mp hp with q | q
  · exact h p q
  · rw [List.mem_singleton.mp q]
    exact ht
structure BkC (K : PySem.W.Frag) (C : Addr) : Prop where
  cls : Cls K C
  nw : NoAttr K C "words"
abbrev bkF (l : Addr) : List (Str × V) := [(("words" : Str), .ref l)]
structure Bk (C r l : Addr) (P : List WP) (H : Hp) : Prop where
  ins : ∃ dx, H r = some (.ins C dx (bkF l))
  mem : H l = some (.lst (refsW P))
def tBk (C r l : Addr) (P : List WP) : Th := ⟨[r, l], Bk C r l P, fun H H' k h => by
  obtain ⟨⟨dx, h1⟩, h2⟩ := h
  exact ⟨⟨dx, k _ (.head _) _ h1⟩, k _ (.tail _ (.head _)) _ h2⟩, fun H h a ha => by
  obtain ⟨⟨dx, h1⟩, h2⟩ := h
  rcases List.mem_cons.mp ha with rfl | ha
  · exact ⟨_, h1, trivial⟩
  · rw [List.mem_singleton.mp ha]
    exact ⟨_, h2, trivial⟩⟩
instance (C r l : Addr) (P : List WP) : NT (tBk C r l P) := ⟨fun H h a ha o e => by
  obtain ⟨⟨dx, h1⟩, h2⟩ := h
  rcases List.mem_cons.mp ha with rfl | ha
  · rw [h1] at e
    cases e
    trivial
  · rw [List.mem_singleton.mp ha, h2] at e
    cases e
    trivial⟩
theorem Bk.ne {C r l : Addr} {P : List WP} {H : Hp} (h : Bk C r l P H) : l ≠ r := fun z => by
  obtain ⟨⟨dx, h1⟩, h2⟩ := h
  rw [z, h1] at h2
  cases h2
/-- all words are short -/
def W61 (ws : Wds) : Prop := ws.length ≤ 44 ∧ ∀ u ∈ ws, u.length ≤ 61
theorem w61_begun {ws : Wds} (h : W61 ws) : W61 (bkBegun ws) := by
  unfold bkBegun
  split
  · exact h
  · exact ⟨Nat.zero_le _, fun u hu => absurd hu List.not_mem_nil⟩
theorem w61_learn {ws : Wds} {a u : List Int} (h : W61 ws) (ha : a.length ≤ 60) : W61 (bkLearn ws a u) := by
  refine ⟨bkLearn_room h.1, ?_⟩
  unfold bkLearn
  split
  · intro v hv
    rcases List.mem_append.mp hv with z | z
    · exact h.2 v z
    · rw [List.mem_singleton.mp z, List.length_append, List.length_take]
      omega
  · exact h.2
theorem w61_nil : W61 [] := ⟨Nat.zero_le _, fun u hu => absurd hu List.not_mem_nil⟩
theorem w61_go : ∀ (n : Nat) (r : List Int) (ws : Wds) (a : List Int), r.length ≤ n → r.length ≤ 60 → a.length ≤ 60 → W61 ws → W61 (bkGo ws a r).2
  | n, [], ws, a, _, _, _, h => by rw [bkGo_nil]; exact h
  | 0, x :: r, _, _, h, _, _, _ => absurd h (by simp)
  | n + 1, x :: r, ws, a, hl, h60, ha, h => by
    have hne : x :: r ≠ [] := by simp
    have hd := drop_lt hne (bkSize_pos (x :: r) ws)
    rw [bkGo_cons hne]
    exact w61_go n _ _ _ (by omega) (by omega) (by rw [List.length_take]; omega) (w61_learn h ha)
theorem w61_short {ws : Wds} {row : List Int} (h : W61 ws) (hl : row.length ≤ 60) : W61 (bkShort ws row).2 := w61_go row.length row _ _ (Nat.le_refl _) hl (Nat.zero_le _) (w61_begun h)
theorem w61_len : ∀ (cs : List Int) (ws : Wds) (a f : List Int) (i : Nat) (row : List Int) (ws' : Wds), a.length ≤ 60 → W61 ws → bkLen ws a f i cs = .inr (row, ws') → W61 ws'
  | [], ws, a, f, i, row, ws', _, h, e => by
    have e : Sum.inr (f, ws) = (Sum.inr (row, ws') : Sum Nat (List Int × Wds)) := e
    cases e
    exact h
  | c :: cs, ws, a, f, i, row, ws', ha, h, e => by
    unfold bkLen at e
    split at e
    · cases e
    · split at e
      · cases e
      · rename_i h1 h2
        exact w61_len cs _ _ _ _ _ _ (by omega) (w61_learn h ha) e
def spRoom (K : PySem.W.Frag) : Sp := fun vs H Q _ => ∃ (l : Addr) (xs : List V), vs = [.ref l] ∧ SqL K H l xs ∧ Q (.bl (decide (xs.length < 44))) H
def spWAB (K : PySem.W.Frag) : Sp := fun vs H Q _ => ∃ (l : Addr) (xs : List V), vs = [.ref l] ∧ SqL K H l xs ∧ ∀ p, H p = none → Q (.ref p) (upd H p (.lst (if xs.length < 44 then xs else [])))
def spLC (K : PySem.W.Frag) : Sp := fun vs H Q _ => ∃ (l a : Addr) (i : Nat) (P : List WP) (ns : List Int), vs = [.ref l, .ref a, .int (i : Int)] ∧ SqL K H l (refsW P) ∧ TF K (knW P) H ∧ SqL K H a (ns.map V.int) ∧ i < ns.length ∧ ∀ H', Same H H' → Q (.int (bkCode (ns.drop i) (wsOf P))) H'
def spWO (K : PySem.W.Frag) : Sp := fun vs H Q _ => ∃ (l : Addr) (c : Int) (P : List WP), vs = [.ref l, .int c] ∧ SqL K H l (refsW P) ∧ TF K (knW P) H ∧ 0 ≤ c ∧ c < 256 + (P.length : Int) ∧ ∀ (H' : Hp) (t : Addr), Same H H' → SqT K H' t ((bkWord (wsOf P) c).map V.int) → Q (.ref t) H'
def spLearn (K : PySem.W.Frag) : Sp := fun vs H Q _ => ∃ (l ta tu : Addr) (P : List WP) (a u : List Int), vs = [.ref l, .ref ta, .ref tu] ∧ H l = some (.lst (refsW P)) ∧ TF K (knW P) H ∧ SqT K H ta (a.map V.int) ∧ SqT K H tu (u.map V.int) ∧ a.length ≤ 1000 ∧ P.length ≤ 1000 ∧
  ∀ (H' : Hp) (P' : List WP), MvF [l] H H' → H' l = some (.lst (refsW P')) → TF K (knW P') H' → wsOf P' = bkLearn (wsOf P) a u → Q .non H'
def spBkI (C : Addr) : Sp := fun vs H Q _ => ∃ (r dx : Addr), vs = [.ref r] ∧ H r = some (.ins C dx []) ∧ ∀ (H' : Hp) (l : Addr), MvF [r] H H' → H l = none → Bk C r l [] H' → Q .non H'
def spShort (K : PySem.W.Frag) (C cY cL : Addr) : Sp := fun vs H Q E => ∃ (r l a : Addr) (P : List WP) (ns : List Int), vs = [.ref r, .ref a] ∧ Bk C r l P H ∧ TF K (knW P) H ∧ W61 (wsOf P) ∧ SqL K H a (ns.map V.int) ∧ ns.length ≤ 10000 ∧
  (Bytes ns → ns.length ≤ 60 → ∀ (H' : Hp) (l' o : Addr) (P' : List WP), MvF [r] H H' → H l' = none → H o = none → o ≠ l' → Bk C r l' P' H' → TF K (knW P') H' → wsOf P' = (bkShort (wsOf P) ns).2 → H' o = some (.lst ((bkShort (wsOf P) ns).1.map V.int)) → Q (.ref o) H') ∧
  (Bytes ns → 60 < ns.length → ∀ H' d, Same H H' → H d = none → H' d = some (.xd [(("most" : Str), .int 60), (("word" : Str), .str "TooLong")]) → E (.ref cL) (some d) H') ∧
  (∀ (i : Nat) (z : Int), ns[i]? = some z → ¬ isY z → Bytes (ns.take i) → ∀ H' d, Same H H' → H d = none → H' d = some (.xd [(("at" : Str), .int (i : Int)), (("word" : Str), .str "BadByte")]) → E (.ref cY) (some d) H')
def spLong (K : PySem.W.Frag) (C cC : Addr) : Sp := fun vs H Q E => ∃ (r l a : Addr) (P : List WP) (cs : List Int), vs = [.ref r, .ref a] ∧ Bk C r l P H ∧ TF K (knW P) H ∧ W61 (wsOf P) ∧ SqL K H a (cs.map V.int) ∧ cs.length ≤ 10000 ∧
  (∀ row ws', bkLong (wsOf P) cs = .inr (row, ws') → ∀ (H' : Hp) (l' o : Addr) (P' : List WP), MvF [r] H H' → H l' = none → H o = none → o ≠ l' → Bk C r l' P' H' → TF K (knW P') H' → wsOf P' = ws' → H' o = some (.lst (row.map V.int)) → Q (.ref o) H') ∧
  (∀ i : Nat, bkLong (wsOf P) cs = .inl i → ∀ H' d, Same H H' → H d = none → H' d = some (.xd [(("at" : Str), .int (i : Int)), (("word" : Str), .str "BadCode")]) → E (.ref cC) (some d) H')
def spBkLen (C : Addr) : Sp := fun vs H Q _ => ∃ (r l : Addr) (P : List WP), vs = [.ref r] ∧ Bk C r l P H ∧ Q (.int (P.length : Int)) H
def reprBk (n : Nat) : Str := ("Book(" : Str) ++ (toString (n : Int) : String) ++ (" learnt)" : Str)
def spBkRepr (C : Addr) : Sp := fun vs H Q _ => ∃ (r l : Addr) (P : List WP), vs = [.ref r] ∧ Bk C r l P H ∧ P.length ≤ 1000 ∧ Q (.str (reprBk P.length)) H
def spLearnt (C : Addr) : Sp := fun vs H Q _ => ∃ (r l : Addr) (P : List WP), vs = [.ref r] ∧ Bk C r l P H ∧ ∀ p, H p = none → Q (.ref p) (upd H p (.lst (refsW P)))
/-- words as data -/
def dW (ws : Wds) : PyData := .list (ws.map fun u => .tuple (u.map .int))
theorem dpa_words {K : PySem.W.Frag} {H : Hp} : ∀ {P : List WP}, TF K (knW P) H → DpAll K H (refsW P) ((wsOf P).map fun u => PyData.tuple (u.map .int))
  | [], _ => .nil
  | p :: P, h => .cons (.tup (h (twW p) (.head _)) (dpa_ints p.2)) (dpa_words (P := P) (fun q hq => h q (.tail _ hq)))
theorem dp_words {K : PySem.W.Frag} {H : Hp} {l : Addr} {P : List WP} (h : SqL K H l (refsW P)) (t : TF K (knW P) H) : Dp K H (.ref l) (dW (wsOf P)) := .lst h (dpa_words t)
theorem depth_words : ∀ ws : Wds, PyData.depthAll (ws.map fun u => PyData.tuple (u.map .int)) ≤ 1
  | [] => Nat.zero_le _
  | u :: ws => by
    show max (PyData.depthAll (u.map PyData.int) + 1) (PyData.depthAll (ws.map fun u => PyData.tuple (u.map .int))) ≤ 1
    rw [depth_ints]
    exact Nat.max_le.mpr ⟨Nat.le_refl _, depth_words ws⟩
theorem canLay_words : ∀ ws : Wds, PyData.canLayAll0 (ws.map fun u => PyData.tuple (u.map .int)) = true
  | [] => rfl
  | u :: ws => by
    show (PyData.canLayAll0 (u.map PyData.int) && PyData.canLayAll0 (ws.map fun u => PyData.tuple (u.map .int))) = true
    rw [canLay_ints, canLay_words ws]
    rfl
theorem shaped_words (ws : Wds) : SeqAt.shaped (dW ws) = true := by
  unfold SeqAt.shaped
  rw [Bool.and_eq_true]
  refine ⟨canLay_words ws, decide_eq_true ?_⟩
  show PyData.depthAll (ws.map fun u => PyData.tuple (u.map .int)) + 1 ≤ 64
  have := depth_words ws
  omega
theorem shaped_tupI (u : List Int) : SeqAt.shaped (.tuple (u.map .int)) = true := by
  unfold SeqAt.shaped
  rw [Bool.and_eq_true]
  refine ⟨canLay_ints u, decide_eq_true ?_⟩
  show PyData.depthAll (u.map PyData.int) + 1 ≤ 64
  rw [depth_ints]
  decide
theorem eqv_tupI (u v : List Int) : PyData.eqv (.tuple (u.map .int)) (.tuple (v.map .int)) = decide (u = v) := eqv_ints u v
theorem any_words (g : List Int) : ∀ ws : Wds, ((ws.map fun u => PyData.tuple (u.map .int)).any fun z => PyData.eqv z (.tuple (g.map .int))) = decide (g ∈ ws)
  | [] => rfl
  | u :: ws => by
    show (PyData.eqv (.tuple (u.map .int)) (.tuple (g.map .int)) || (ws.map fun u => PyData.tuple (u.map .int)).any fun z => PyData.eqv z (.tuple (g.map .int))) = _
    rw [any_words g ws, eqv_tupI]
    by_cases z : u = g
    · subst z
      simp
    · rw [decide_eq_false z, Bool.false_or]
      exact decide_eq_decide.mpr ⟨fun h => .tail _ h, fun h => (List.mem_cons.mp h).elim (fun e => absurd e.symm z) id⟩
theorem eqv_words : ∀ ws vs : Wds, PyData.eqv (dW ws) (dW vs) = decide (ws = vs) := by
  have : ∀ ws vs : Wds, PyData.eqvAll (ws.map fun u => PyData.tuple (u.map .int)) (vs.map fun u => PyData.tuple (u.map .int)) = decide (ws = vs) := by
    intro ws
    induction ws with
    | nil => intro vs; cases vs <;> rfl
    | cons u ws ih =>
      intro vs
      cases vs with
      | nil => rfl
      | cons v vs =>
        show (PyData.eqv (.tuple (u.map .int)) (.tuple (v.map .int)) && PyData.eqvAll (ws.map fun u => PyData.tuple (u.map .int)) (vs.map fun u => PyData.tuple (u.map .int))) = _
        rw [ih vs, eqv_tupI, ← Bool.decide_and]
        exact decide_eq_decide.mpr ⟨fun h => by rw [h.1, h.2], fun h => List.cons.inj h⟩
  exact this
theorem dn_tupI {u : List Int} (h : u.length ≤ 100000) (n : Nat) : Dn (n + 2) (.tuple (u.map .int)) := .inr (.inr (.inr (.inr ⟨_, .inr rfl, by rw [List.length_map]; exact h, fun e he => by
  obtain ⟨z, _, rfl⟩ := List.mem_map.mp he
  exact .inr (.inl ⟨z, rfl⟩)⟩)))
theorem dn_words {ws : Wds} (h : W61 ws) (n : Nat) : Dn (n + 3) (dW ws) := .inr (.inr (.inr (.inr ⟨_, .inl rfl, by rw [List.length_map]; have := h.1; omega, fun e he => by
  obtain ⟨u, hu, rfl⟩ := List.mem_map.mp he
  exact dn_tupI (by have := h.2 u hu; omega) n⟩)))
def spBkEq (K : PySem.W.Frag) (C : Addr) : Sp := fun vs H Q _ => ∃ (r l r' l' : Addr) (P P' : List WP), vs = [.ref r, .ref r'] ∧ Bk C r l P H ∧ Bk C r' l' P' H ∧ TF K (knW P) H ∧ TF K (knW P') H ∧ Q (.bl (decide (wsOf P = wsOf P'))) H
theorem Bk.same {C r l : Addr} {P : List WP} {H H' : Hp} (h : Bk C r l P H) (s : Same H H') : Bk C r l P H' := by
  obtain ⟨⟨dx, h1⟩, h2⟩ := h
  exact ⟨⟨dx, s _ _ h1⟩, s _ _ h2⟩
theorem sqL_mvI {K : PySem.W.Frag} {H H' : Hp} {r C dx a : Addr} {fs : List (Str × V)} {xs : List V} (m : MvF [r] H H') (e : H r = some (.ins C dx fs)) (h : SqL K H a xs) : SqL K H' a xs := lk_l (fun b o eb k => m.kp b o (fun z => by
  rw [in1 z, e] at eb
  cases eb
  rcases k with ⟨_, z⟩ | ⟨_, z⟩ | ⟨_, _, z⟩ <;> cases z) eb) h
theorem sc_has_room : FnScope ["words"] ["words"] (defScope s_has_room) := ⟨rfl, rfl, rfl, by decide +kernel, rfl, by decide +kernel, by decide +kernel⟩
theorem ok_has_room {f : Addr} {fd : FuncData} {k : Nat} {t1 t2 : Tok} (F : Fun K "has_room" "has_room" s_has_room f fd) (n_len : mg "len" = none) (g_BYTE_WORDS : mg "BYTE_WORDS" = some (.int 256 t1)) (g_MOST_WORDS : mg "MOST_WORDS" = some (.int 300 t2)) : FnOk P w K mg base CX0 (k + 1) f fd ["words"] (spRoom K) := by
  have sc := sc_has_room
  refine F.ok sc (fun vs H Q E h => ?_) (fun cdv A outer s H vs Q E hr h => ?_)
  · obtain ⟨l, xs, rfl, _⟩ := h
    rfl
  · obtain ⟨l, xs, rfl, hl, q⟩ := h
    refine ⟨_, (pss_one (ps_ret (pe_cmpR op_lt (pe_op op_add (pe_glob (v := .int 256) (by rfl) g_BYTE_WORDS ⟨_, rfl⟩) (pe_callB (call_lenK K rfl) (by rfl) n_len PySem.boot_len (pa_cons (pv 0) pa_nil))) (pe_glob (v := .int 300) (by rfl) g_MOST_WORDS ⟨_, rfl⟩) (nomark _)))), ?_⟩
    refine ⟨_, rfl, l, _, rfl, .inl hl, _, _, rfl, rfl, _, _, rfl, rfl, ?_⟩
    have e : decide ((256 : Int) + (xs.length : Int) < 300) = decide (xs.length < 44) := decide_eq_decide.mpr ⟨fun h => by omega, fun h => by omega⟩
    show Q (V.bl (decide ((256 : Int) + (xs.length : Int) < 300))) H
    rw [e]
    exact q
theorem sc_words_at_beginning : FnScope ["words"] ["words"] (defScope s_words_at_beginning) := ⟨rfl, rfl, rfl, by decide +kernel, rfl, by decide +kernel, by decide +kernel⟩
theorem ok_words_at_beginning {f : Addr} {fd : FuncData} {k : Nat} (F : Fun K "words_at_beginning" "words_at_beginning" s_words_at_beginning f fd) (n_list : mg "list" = none) (c_has_room : Cal P w K mg base k "has_room" ["words"] (spRoom K)) : FnOk P w K mg base CX0 (k + 1) f fd ["words"] (spWAB K) := by
  have sc := sc_words_at_beginning
  refine F.ok sc (fun vs H Q E h => ?_) (fun cdv A outer s H vs Q E hr h => ?_)
  · obtain ⟨l, xs, rfl, _⟩ := h
    rfl
  · obtain ⟨l, xs, rfl, hl, q⟩ := h
    refine ⟨_, (pss_one (ps_ret (pe_ifExp (pt_val (pe_callC c_has_room hr (by rfl) (pa_cons (pv 0) pa_nil))) (pe_callTy (call_listK K rfl) (by rfl) n_list (by decide +kernel) (pa_cons (pv 0) pa_nil)) (pe_lst pa_nil)))), ?_⟩
    refine ⟨_, rfl, l, xs, rfl, hl, _, rfl, ite2 (fun e => ?_) (fun e => ?_)⟩
    · have e : xs.length < 44 := of_decide_eq_true e
      rw [if_pos e] at q
      exact ⟨_, rfl, l, xs, rfl, .inl hl, q⟩
    · have e : ¬ xs.length < 44 := fun z => e (decide_eq_true z)
      rw [if_neg e] at q
      exact ⟨Nat.zero_le _, q⟩
theorem sc_word_of : FnScope ["words", "code"] ["words", "code"] (defScope s_word_of) := ⟨rfl, rfl, rfl, by decide +kernel, rfl, by decide +kernel, by decide +kernel⟩
theorem ok_word_of {f : Addr} {fd : FuncData} {k : Nat} {t1 : Tok} (F : Fun K "word_of" "word_of" s_word_of f fd) (g_BYTE_WORDS : mg "BYTE_WORDS" = some (.int 256 t1)) : FnOk P w K mg base CX0 (k + 1) f fd ["words", "code"] (spWO K) := by
  have sc := sc_word_of
  refine F.ok sc (fun vs H Q E h => ?_) (fun cdv A outer s H vs Q E hr h => ?_)
  · obtain ⟨l, c, P, rfl, _⟩ := h
    rfl
  · obtain ⟨l, c, P, rfl, hl, ht, h0, h1, q⟩ := h
    refine ⟨_, (pss_one (ps_ret (pe_ifExp (pt_cmpR op_lt (pv 1) (pe_glob (v := .int 256) (by rfl) g_BYTE_WORDS ⟨_, rfl⟩) (nomark _)) (pe_tup (pa_cons (pv 1) pa_nil)) (pe_ix (ix_listK K rfl) (pv 0) (pe_op op_sub (pv 1) (pe_glob (v := .int 256) (by rfl) g_BYTE_WORDS ⟨_, rfl⟩)) (fun _ _ => rfl))))), ?_⟩
    refine ⟨_, rfl, _, _, rfl, rfl, _, rfl, ite2 (fun e => ?_) (fun e => ?_)⟩
    · have e : c < 256 := of_decide_eq_true e
      refine ⟨_, rfl, (by show 1 ≤ sizeLine; decide), fun t nt => q _ t (same_upd nt) ?_⟩
      have ew : bkWord (wsOf P) c = [c] := if_pos e
      rw [ew]
      exact SqT.of upd_same
    · have e : ¬ c < 256 := fun z => e (decide_eq_true z)
      obtain ⟨j, rfl⟩ : ∃ j : Nat, c = 256 + (j : Int) := ⟨(c - 256).toNat, by omega⟩
      obtain ⟨p, hp⟩ := getElem?_ex (show j < P.length by omega)
      have hx : (refsW P)[j]? = some (.ref p.1) := by rw [List.getElem?_map, hp]; rfl
      refine ⟨_, rfl, _, rfl, _, _, rfl, rfl, l, _, _, _, rfl, rfl, hl, (by rw [show (256 + (j : Int) - 256) = (j : Int) by omega]; exact atI_nat hx), ?_⟩
      refine q H p.1 (Same.refl _) ?_
      have ew : bkWord (wsOf P) (256 + (j : Int)) = p.2 := by
        unfold bkWord
        rw [if_neg e, show (256 + (j : Int) - 256).toNat = j by omega, List.getD_eq_getElem?_getD, wsOf_at hp]
        rfl
      rw [ew]
      exact tf_at ht hp
theorem sc_longest_code : FnScope ["words", "row", "at", "best", "longest", "place", "word"] ["words", "row", "at"] (defScope s_longest_code) := ⟨rfl, rfl, rfl, by decide +kernel, rfl, by decide +kernel, by decide +kernel⟩
theorem ok_longest_code {f : Addr} {fd : FuncData} {k : Nat} {t1 : Tok} (F : Fun K "longest_code" "longest_code" s_longest_code f fd) (n_len : mg "len" = none) (n_enumerate : mg "enumerate" = none) (n_tuple : mg "tuple" = none) (g_BYTE_WORDS : mg "BYTE_WORDS" = some (.int 256 t1)) : FnOk P w K mg base CX0 (k + 1) f fd ["words", "row", "at"] (spLC K) := by
  have sc := sc_longest_code
  refine F.ok sc (fun vs H Q E h => ?_) (fun cdv A outer s H vs Q E hr h => ?_)
  · obtain ⟨l, a, i, P, ns, rfl, _⟩ := h
    rfl
  · obtain ⟨l, a, i, P, ns, rfl, hl, ht, ha, hi, q⟩ := h
    refine ⟨_, (pss_cons (ps_set (i := 3) sc.nd rfl (.inl rfl) (pe_ix (ix_listK K rfl) (pv 1) (pv 2) (fun _ _ => rfl)))
 (pss_cons (ps_set (i := 4) sc.nd rfl (.inl rfl) pe_int)
 (pss_cons (ps_for PassesOwn.never rfl (pi_enum (by rfl) n_enumerate (pa_cons (pv 0) pa_nil)) (pg_tup rfl (pgs_cons (pg_name (i := 5) sc.nd rfl (.inl rfl)) (pgs_cons (pg_name (i := 6) sc.nd rfl (.inl rfl)) pgs_nil)))
  (pss_one (ps_if (PW.pt (pw_and (pt_cmpR op_gt (pe_callB (call_lenK K rfl) (by rfl) n_len PySem.boot_len (pa_cons (pv 6) pa_nil)) (pv 4) (nomark _)) (pw_and1 (pt_cmpR (op_eqDK K rfl hr.units) (pe_callTy (call_tupleK K rfl) (by rfl) n_tuple (by decide +kernel) (pa_cons (pe_slice (sl_listK K rfl) (pv 1) (po_some (pv 2)) (po_some (pe_op op_add (pv 2) (pe_callB (call_lenK K rfl) (by rfl) n_len PySem.boot_len (pa_cons (pv 6) pa_nil))))) pa_nil)) (pv 6) (nomark _)))))
  (pss_cons (ps_set (i := 3) sc.nd rfl (.inl rfl) (pe_op op_add (pe_glob (v := .int 256) (by rfl) g_BYTE_WORDS ⟨_, rfl⟩) (pv 5)))
 (pss_one (ps_set (i := 4) sc.nd rfl (.inl rfl) (pe_callB (call_lenK K rfl) (by rfl) n_len PySem.boot_len (pa_cons (pv 6) pa_nil)))))
  pss_nil)))
 (pss_one (ps_ret (pv 3)))))), ?_⟩
    obtain ⟨x, hx⟩ := getElem?_ex hi
    have hx2 : (ns.map V.int)[i]? = some (.int x) := by rw [List.getElem?_map, hx]; rfl
    refine ⟨_, rfl, _, rfl, a, _, _, _, rfl, rfl, ha, atI_nat hx2, ?_⟩
    have hd0 : (ns.drop i).headD 0 = x := by
      rw [List.headD_eq_head?_getD, List.head?_drop, hx]
      rfl
    refine name_by ?_
    refine const_by ?_
    dsimp only
    refine ⟨_, rfl, l, _, rfl, hl, for_enumK (xs := refsW P) (fun j σ H' => ∃ y5 y6, σ = [some (.ref l), some (.ref a), some (.int (i : Int)), some (.int (bkBest (ns.drop i) (wsOf P) j).1), some (.int ((bkBest (ns.drop i) (wsOf P) j).2 : Nat)), y5, y6] ∧ Same H H') ⟨none, none, by show _ = [_, _, _, some (V.int ((ns.drop i).headD 0)), _, _, _]; rw [hd0]; rfl, Same.refl H⟩ (fun j σ H' _ h => ?_) ?_ ?_⟩
    · obtain ⟨_, _, _, sm⟩ := h
      exact sm.seq hl
    · rintro j y T σ H1 hy ⟨y5, y6, rfl, s1⟩ nT
      obtain ⟨p, hp, rfl⟩ := refsW_at hy
      have hu : (wsOf P)[j]? = some p.2 := wsOf_at hp
      have s2 := s1.trans (same_upd (o := .tup [.int (j : Nat), .ref p.1]) nT)
      refine ⟨T, _, rfl, SqT.of upd_same, rfl, _, _, rfl, _, _, rfl, rfl, ?_⟩
      generalize upd H1 T (.tup [.int (j : Nat), .ref p.1]) = H2 at s2 ⊢
      have hpt : SqT K H2 p.1 (p.2.map V.int) := same_t s2 (tf_at ht hp)
      have eb : bkBest (ns.drop i) (wsOf P) (j + 1) = if (bkBest (ns.drop i) (wsOf P) j).2 < p.2.length ∧ (ns.drop i).take p.2.length = p.2 then (256 + (j : Int), p.2.length) else bkBest (ns.drop i) (wsOf P) j := by
        show (match (wsOf P)[j]? with | some u => _ | none => _) = _
        rw [hu]
      refine ⟨_, rfl, p.1, _, rfl, .inr hpt, _, rfl, _, _, rfl, rfl, _, rfl, ite2 (fun e => ?_) (fun e => ?_)⟩
      · have e : (bkBest (ns.drop i) (wsOf P) j).2 < p.2.length := by
          have := of_decide_eq_true e
          rw [List.length_map] at this
          omega
        refine ⟨_, rfl, _, rfl, _, rfl, _, rfl, _, rfl, p.1, _, rfl, .inr hpt, _, _, rfl, rfl, _, rfl, a, _, rfl, s2.seq ha, fun p3 n3 => ?_⟩
        have ec : cutV (ns.map V.int) (some (i : Int)) (some ((i : Int) + ((p.2.map V.int).length : Int))) = ((ns.drop i).take p.2.length).map V.int := by
          rw [List.length_map, show (i : Int) + (p.2.length : Int) = ((i + p.2.length : Nat) : Int) by omega, cut_mid _ _ _ (by omega), Nat.add_sub_cancel_left, List.map_take, List.map_drop]
        rw [ec]
        have s3 := s2.trans (same_upd (o := .lst (((ns.drop i).take p.2.length).map V.int)) n3)
        refine ⟨p3, _, rfl, .inl ⟨SqL.of upd_same, fun p4 n4 => ?_⟩⟩
        have s4 := s3.trans (same_upd (o := .tup (((ns.drop i).take p.2.length).map V.int)) n4)
        refine ⟨_, rfl, .tuple (((ns.drop i).take p.2.length).map .int), .tuple (p.2.map .int), .tup (SqT.of upd_same) (dpa_ints _), .tup (same_t (same_upd n4) (same_t (same_upd n3) hpt)) (dpa_ints _), shaped_tupI _, shaped_tupI _, ?_⟩
        rw [eqv_tupI]
        generalize upd (upd H2 p3 (.lst (((ns.drop i).take p.2.length).map V.int))) p4 (.tup (((ns.drop i).take p.2.length).map V.int)) = H4 at s4 ⊢
        refine ⟨_, rfl, ite2 (fun e2 => ?_) (fun e2 => ?_)⟩
        · have e2 : (ns.drop i).take p.2.length = p.2 := of_decide_eq_true e2
          refine ⟨_, rfl, _, _, rfl, rfl, _, rfl, p.1, _, rfl, .inr (same_t s4 (tf_at ht hp)), ?_⟩
          refine ⟨some (.int (j : Nat)), some (.ref p.1), ?_, s4⟩
          rw [eb, if_pos ⟨e, e2⟩, List.length_map]
          rfl
        · have e2 : ¬ (ns.drop i).take p.2.length = p.2 := fun z => e2 (decide_eq_true z)
          refine ⟨some (.int (j : Nat)), some (.ref p.1), ?_, s4⟩
          rw [eb, if_neg (fun z => e2 z.2)]
          rfl
      · have e : ¬ (bkBest (ns.drop i) (wsOf P) j).2 < p.2.length := fun z => e (decide_eq_true (by rw [List.length_map]; omega))
        refine iteF ⟨some (.int (j : Nat)), some (.ref p.1), ?_, s2⟩
        rw [eb, if_neg (fun z => e z.1)]
        rfl
    · rintro σ H1 ⟨y5, y6, rfl, s1⟩
      refine ⟨_, rfl, ?_⟩
      have := q H1 s1
      unfold bkCode at this
      rw [wsOf_len] at this
      rw [show (refsW P).length = P.length from List.length_map _]
      exact this
theorem sc_learn : FnScope ["words", "ahead", "word", "grown"] ["words", "ahead", "word"] (defScope s_learn) := ⟨rfl, rfl, rfl, by decide +kernel, rfl, by decide +kernel, by decide +kernel⟩
theorem cut1 (u : List Int) : cutV (u.map V.int) none (some 1) = (u.take 1).map V.int := by
  have := cut_to_n (u.map V.int) 1
  rw [show ((1 : Nat) : Int) = 1 from rfl] at this
  rw [this, List.map_take]
theorem ok_learn {f : Addr} {fd : FuncData} {k : Nat} (F : Fun K "learn" "learn" s_learn f fd) (n_len : mg "len" = none) (c_has_room : Cal P w K mg base k "has_room" ["words"] (spRoom K)) : FnOk P w K mg base CX0 (k + 1) f fd ["words", "ahead", "word"] (spLearn K) := by
  have sc := sc_learn
  refine F.ok sc (fun vs H Q E h => ?_) (fun cdv A outer s H vs Q E hr h => ?_)
  · obtain ⟨l, ta, tu, P, a, u, rfl, _⟩ := h
    rfl
  · obtain ⟨l, ta, tu, P, a, u, rfl, hl, ht, hta, htu, hal, hPl, q⟩ := h
    refine ⟨_, (pss_cons (ps_set (i := 3) sc.nd rfl (.inl rfl) (pe_op (op_catAK K rfl) (pv 1) (pe_slice (sl_tupAK K rfl) (pv 2) po_none (po_some pe_int))))
 (pss_one (ps_if (PW.pt (pw_and (pt_cmpR op_gt (pe_callB (call_lenK K rfl) (by rfl) n_len PySem.boot_len (pa_cons (pv 1) pa_nil)) pe_int (nomark _)) (pw_and (pt_val (pe_callC c_has_room hr (by rfl) (pa_cons (pv 0) pa_nil))) (pw_and1 (pt_cmpR (op_notInDK K rfl hr) (pv 3) (pv 0) (by rfl))))))
  (pss_one (ps_expr (pe_bmK K rfl PySem.F.plainAttrs_list PySem.F.slot_list_append PySem.F.type_list_append mt_append (pv 0) (pa_cons (pv 3) pa_nil))))
  pss_nil))), ?_⟩
    refine asg_by (J := fun v H1 => ∃ g, v = .ref g ∧ Same H H1 ∧ SqT K H1 g ((a ++ u.take 1).map V.int)) ?_ (fun rest => ?_)
    · rintro v H1 ⟨g, rfl, s1, hg⟩
      have stay : ¬ (a ≠ [] ∧ (wsOf P).length < 44 ∧ a ++ u.take 1 ∉ wsOf P) → Q .non H1 := fun no => q H1 P (.of s1) (s1 _ _ hl) (ht.same s1) (by unfold bkLearn; rw [if_neg no])
      refine ⟨_, rfl, ta, _, rfl, .inr (same_t s1 hta), _, _, rfl, rfl, _, rfl, ite2 (fun e => ?_) (fun e => ?_)⟩
      · have e : a ≠ [] := by
          have := of_decide_eq_true e
          rw [List.length_map] at this
          intro z
          subst z
          exact absurd this (by decide)
        refine ⟨_, rfl, l, _, rfl, SqL.of (s1 _ _ hl), _, rfl, ite2 (fun e2 => ?_) (fun e2 => ?_)⟩
        · have e2 : (wsOf P).length < 44 := by
            have := of_decide_eq_true e2
            rw [List.length_map] at this
            rw [wsOf_len]
            exact this
          refine ⟨_, rfl, _, rfl, .tuple ((a ++ u.take 1).map .int), _, .tup hg (dpa_ints _), dp_words (SqL.of (s1 _ _ hl)) (ht.same s1), shaped_tupI _, shaped_words _, ?_⟩
          rw [any_words]
          refine ⟨_, rfl, ite2 (fun e3 => ?_) (fun e3 => ?_)⟩
          · have e3 : a ++ u.take 1 ∉ wsOf P := fun z => by rw [decide_eq_true z] at e3; exact absurd e3 (by decide)
            refine ⟨_, rfl, .inl ⟨rfl, _, SqL.of (s1 _ _ hl)⟩, _, rfl, l, _, _, rfl, rfl, s1 _ _ hl, ?_, ?_⟩
            · rw [List.length_map]
              exact sz4l (by omega)
            refine q _ (P ++ [(g, a ++ u.take 1)]) ((MvF.of s1).upd (.head _)) ?_ ?_ ?_
            · rw [upd_same]
              show _ = some (HO.lst ((P ++ [(g, a ++ u.take 1)]).map rfW))
              rw [List.map_append]
              rfl
            · refine TF.mvf (F := [l]) ((MvF.refl [l] H1).upd (.head _)) (fun b hb o eo => ?_) (tf_snoc (ht.same s1) hg)
              rw [in1 hb, s1 _ _ hl] at eo
              cases eo
              trivial
            · rw [wsOf_app]
              unfold bkLearn
              rw [if_pos ⟨e, e2, e3⟩]
              rfl
          · have e3 : a ++ u.take 1 ∈ wsOf P := by
              by_cases z : a ++ u.take 1 ∈ wsOf P
              · exact z
              · exact absurd (by rw [decide_eq_false z]; rfl) e3
            exact stay (fun z => z.2.2 e3)
        · exact iteF (stay (fun z => e2 (decide_eq_true (by rw [List.length_map]; have := z.2.1; rw [wsOf_len] at this; exact this))))
      · exact iteF (stay (fun z => e (decide_eq_true (by rw [List.length_map]; have := List.length_pos_iff.mpr z.1; omega))))
    · have cat : ∀ (Z : VK), (∀ v H1, (∃ g, v = .ref g ∧ Same H H1 ∧ SqT K H1 g ((a ++ u.take 1).map V.int)) → Z v H1) → ∀ (H1 : Hp) (t : Addr), Same H H1 → SqT K H1 t ((u.take 1).map V.int) → rCatA K (.ref ta) (.ref t) H1 Z := by
        intro Z rest H1 t s1 htt
        refine ⟨ta, t, a.map V.int, (u.take 1).map V.int, rfl, rfl, same_t s1 hta, htt, ?_, (fun e => ?_), (fun e1 e2 => ?_), (fun e1 e2 p np => ?_)⟩
        · rw [List.length_map, List.length_map, List.length_take]
          exact sz4 (by omega)
        · have e : a = [] := List.map_eq_nil_iff.mp e
          exact rest _ _ ⟨t, rfl, s1, by rw [e, List.nil_append]; exact htt⟩
        · have e2 : u.take 1 = [] := List.map_eq_nil_iff.mp e2
          exact rest _ _ ⟨ta, rfl, s1, by rw [e2, List.append_nil]; exact same_t s1 hta⟩
        · exact rest _ _ ⟨p, rfl, s1.trans (same_upd np), by rw [List.map_append]; exact SqT.of upd_same⟩
      refine ⟨_, rfl, _, rfl, 1, rfl, tu, _, rfl, htu, (fun hw => ?_), (fun hw p np => ?_)⟩
      · refine cat _ (fun v H1 h => rest v H1 h) H tu (Same.refl _) ?_
        have : u.take 1 = u := by
          refine List.take_of_length_le ?_
          have := hw.2
          rw [show (some (1 : Int)) = some ((1 : Nat) : Int) from rfl, HT.sIx_nat, List.length_map] at this
          omega
        rw [this]
        exact htu
      · rw [cut1]
        exact cat _ (fun v H1 h => rest v H1 h) _ p (same_upd np) (SqT.of upd_same)
theorem sc_check_bits : FnScope ["bits", "at", "bit"] ["bits"] (defScope s_check_bits) := ⟨rfl, rfl, rfl, by decide +kernel, rfl, by decide +kernel, by decide +kernel⟩
/-- all of them are bits, or the first that is none -/
def spCheckX (K : PySem.W.Frag) (C : Addr) : Sp := fun vs H Q E => ∃ (a : Addr) (ns : List Int), vs = [.ref a] ∧ SqL K H a (ns.map V.int) ∧ ns.length ≤ 100000 ∧ (Bits ns → ∀ H', Same H H' → Q .non H') ∧
  (∀ (i : Nat) (z : Int), ns[i]? = some z → ¬ isB z → Bits (ns.take i) → ∀ H' d, Same H H' → H d = none → H' d = some (.xd [(("at" : Str), .int (i : Int)), (("word" : Str), .str "BadBit")]) → E (.ref C) (some d) H')
theorem log_le {n : Nat} (h : n ≤ 100000) : ((n : Int)).natAbs.log2 < 1000 := by
  rw [Int.natAbs_natCast]
  by_cases z : n = 0
  · subst z
    decide
  · exact (Nat.log2_lt z).mpr (Nat.lt_of_le_of_lt h (by decide))
theorem ok_check_bits {f C : Addr} {fd : FuncData} {k : Nat} (F : Fun K "check_bits" "check_bits" s_check_bits f fd) (n_enumerate : mg "enumerate" = none) (x_BadBit : XcOk P w K mg base k "BadBit" C (spIni K C "BadBit" "at")) : FnOk P w K mg base (L2.CX P w) (k + 2) f fd ["bits"] (spCheckX K C) := by
  have sc := sc_check_bits
  refine F.okX sc (fun vs H Q E h => ?_) (fun cdv A outer s H vs Q E hr h => ?_)
  · obtain ⟨a, ns, rfl, _⟩ := h
    rfl
  · obtain ⟨a, ns, rfl, hS, hl, q, qe⟩ := h
    refine ⟨_, (pss_one (ps_for (passes_of rfl) rfl (pi_enum (by rfl) n_enumerate (pa_cons (pv 0) pa_nil)) (pg_tup rfl (pgs_cons (pg_name (i := 1) sc.nd rfl (.inl rfl)) (pgs_cons (pg_name (i := 2) sc.nd rfl (.inl rfl)) pgs_nil)))
  (pss_one (ps_if (pt_cmpR (op_notInK K rfl) (pv 2) (pe_tup (pa_cons pe_int (pa_cons pe_int pa_nil))) (by rfl))
  (pss_one (ps_raise rfl (takes_of rfl rfl rfl rfl) (pmk_c x_BadBit hr (by rfl) (pa_cons (pv 1) pa_nil))))
  pss_nil)))), ?_⟩
    refine ⟨_, rfl, a, _, rfl, hS, for_enumK (xs := ns.map V.int) (fun i σ H' => ∃ y1 y2, σ = [some (.ref a), y1, y2] ∧ Same H H' ∧ Bits (ns.take i)) ⟨none, none, rfl, Same.refl H, bits_nil⟩ (fun i σ H' _ h => ?_) ?_ ?_⟩
    · obtain ⟨y1, y2, _, sm, _⟩ := h
      exact sm.seq hS
    · rintro i x T σ H' hx ⟨y1, y2, rfl, sm, hbi⟩ nT
      obtain ⟨z, hz, rfl⟩ := getI hx
      have s1 := sm.trans (same_upd (o := .tup [.int (i : Nat), .int z]) nT)
      refine ⟨T, _, rfl, SqT.of upd_same, rfl, _, _, rfl, _, _, rfl, rfl, ?_⟩
      refine ⟨_, rfl, (by show 2 ≤ sizeLine; decide), fun p np => ?_⟩
      have s2 := s1.trans (same_upd (o := .tup [.int 0, .int 1]) np)
      refine ⟨p, _, rfl, .inr (SqT.of upd_same), rfl, rfl, _, rfl, ite2 (fun e => ?_) (fun e => ?_)⟩
      · have e : (!inV (.int z) [.int 0, .int 1]) = true := e
        have nb : ¬ isB z := by
          rintro (rfl | rfl)
          · exact absurd e (by decide)
          · exact absurd e (by decide)
        have hil : i < ns.length := (List.getElem?_eq_some_iff.mp hz).1
        refine ⟨_, rfl, mk_inner (log_le (by omega)) (fun H3 d s3 nd ed => qe i z hz nb hbi H3 d (s2.trans s3) (s2.free nd) ed)⟩
      · have e : ¬ (!inV (.int z) [.int 0, .int 1]) = true := e
        have yb : isB z := by
          have hh : inV (.int z) (([0, 1] : List Int).map V.int) = true := by
            cases q : inV (.int z) [.int 0, .int 1] with
            | true => exact q
            | false => rw [q] at e; exact absurd rfl e
          rw [inV_ints] at hh
          have := of_decide_eq_true hh
          simpa [isB] using this
        refine ⟨_, _, rfl, s2, ?_⟩
        rw [take_more hz]
        exact bits_app hbi (bits_one yb)
    · rintro σ H' ⟨y1, y2, rfl, sm, hbi⟩
      rw [List.length_map, List.take_length] at hbi
      exact q hbi H' sm
theorem sc_check_bytes : FnScope ["row", "at", "byte"] ["row"] (defScope s_check_bytes) := ⟨rfl, rfl, rfl, by decide +kernel, rfl, by decide +kernel, by decide +kernel⟩
def spCheckY (K : PySem.W.Frag) (C : Addr) : Sp := fun vs H Q E => ∃ (a : Addr) (ns : List Int), vs = [.ref a] ∧ SqL K H a (ns.map V.int) ∧ ns.length ≤ 100000 ∧ (Bytes ns → ∀ H', Same H H' → Q .non H') ∧
  (∀ (i : Nat) (z : Int), ns[i]? = some z → ¬ isY z → Bytes (ns.take i) → ∀ H' d, Same H H' → H d = none → H' d = some (.xd [(("at" : Str), .int (i : Int)), (("word" : Str), .str "BadByte")]) → E (.ref C) (some d) H')
theorem ok_check_bytes {f C : Addr} {fd : FuncData} {k : Nat} {tG : Tok} (F : Fun K "check_bytes" "check_bytes" s_check_bytes f fd) (n_enumerate : mg "enumerate" = none) (g_GREATEST_BYTE : mg "GREATEST_BYTE" = some (.int 255 tG)) (x_BadByte : XcOk P w K mg base k "BadByte" C (spIni K C "BadByte" "at")) : FnOk P w K mg base (L2.CX P w) (k + 2) f fd ["row"] (spCheckY K C) := by
  have sc := sc_check_bytes
  refine F.okX sc (fun vs H Q E h => ?_) (fun cdv A outer s H vs Q E hr h => ?_)
  · obtain ⟨a, ns, rfl, _⟩ := h
    rfl
  · obtain ⟨a, ns, rfl, hS, hl, q, qe⟩ := h
    refine ⟨_, (pss_one (ps_for (passes_of rfl) rfl (pi_enum (by rfl) n_enumerate (pa_cons (pv 0) pa_nil)) (pg_tup rfl (pgs_cons (pg_name (i := 1) sc.nd rfl (.inl rfl)) (pgs_cons (pg_name (i := 2) sc.nd rfl (.inl rfl)) pgs_nil)))
  (pss_one (ps_if (PW.pt (pw_or (pt_cmpR op_lt (pv 2) pe_int (nomark _)) (pw_or1 (pt_cmpR op_gt (pv 2) (pe_glob (v := .int 255) (by rfl) g_GREATEST_BYTE ⟨_, rfl⟩) (nomark _)))))
  (pss_one (ps_raise rfl (takes_of rfl rfl rfl rfl) (pmk_c x_BadByte hr (by rfl) (pa_cons (pv 1) pa_nil))))
  pss_nil)))), ?_⟩
    refine ⟨_, rfl, a, _, rfl, hS, for_enumK (xs := ns.map V.int) (fun i σ H' => ∃ y1 y2, σ = [some (.ref a), y1, y2] ∧ Same H H' ∧ Bytes (ns.take i)) ⟨none, none, rfl, Same.refl H, fun z hz => absurd hz List.not_mem_nil⟩ (fun i σ H' _ h => ?_) ?_ ?_⟩
    · obtain ⟨y1, y2, _, sm, _⟩ := h
      exact sm.seq hS
    · rintro i x T σ H' hx ⟨y1, y2, rfl, sm, hbi⟩ nT
      obtain ⟨z, hz, rfl⟩ := getI hx
      have hil : i < ns.length := (List.getElem?_eq_some_iff.mp hz).1
      have s1 := sm.trans (same_upd (o := .tup [.int (i : Nat), .int z]) nT)
      refine ⟨T, _, rfl, SqT.of upd_same, rfl, _, _, rfl, _, _, rfl, rfl, ?_⟩
      have bad : ¬ isY z → ∀ R : XK, R = E → True := fun _ _ _ => trivial
      refine ⟨_, rfl, _, _, rfl, rfl, _, rfl, ite2 (fun e => ?_) (fun e => ?_)⟩
      · have nb : ¬ isY z := by
          have := of_decide_eq_true e
          unfold isY
          omega
        exact iteT ⟨_, rfl, mk_inner (log_le (by omega)) (fun H3 d s3 nd ed => qe i z hz nb hbi H3 d (s1.trans s3) (s1.free nd) ed)⟩
      · have e0 : ¬ z < 0 := fun y => e (decide_eq_true y)
        refine ⟨_, rfl, _, _, rfl, rfl, _, rfl, ite2 (fun e => ?_) (fun e => ?_)⟩
        · have nb : ¬ isY z := by
            have := of_decide_eq_true e
            unfold isY
            omega
          exact ⟨_, rfl, mk_inner (log_le (by omega)) (fun H3 d s3 nd ed => qe i z hz nb hbi H3 d (s1.trans s3) (s1.free nd) ed)⟩
        · have e1 : ¬ (255 : Int) < z := fun y => e (decide_eq_true y)
          refine ⟨_, _, rfl, s1, ?_⟩
          rw [take_more hz]
          intro y hy
          rcases List.mem_append.mp hy with h | h
          · exact hbi y h
          · rw [List.mem_singleton.mp h]
            unfold isY
            omega
    · rintro σ H' ⟨y1, y2, rfl, sm, hbi⟩
      rw [List.length_map, List.take_length] at hbi
      exact q hbi H' sm
theorem sc_number_bits : FnScope ["number", "many", "place"] ["number", "many"] (defScope s_number_bits) := ⟨rfl, rfl, rfl, by decide +kernel, rfl, by decide +kernel, by decide +kernel⟩
def spNbX (cN : Addr) : Sp := fun vs H Q E => ∃ (n mm : Int), vs = [.int n, .int mm] ∧
  (∀ m : Nat, mm = (m : Int) → m ≤ 64 → 0 ≤ n → n < 2 ^ m → ∀ (H' : Hp) (p : Addr), Same H H' → H p = none → H' p = some (.lst ((wr m n).map V.int)) → Q (.ref p) H') ∧
  (mm < 0 ∨ 64 < mm ∨ n < 0 ∨ 2 ^ mm.toNat ≤ n → ∀ H' d, Same H H' → H d = none → H' d = some (.xd [(("word" : Str), .str "BadCount")]) → E (.ref cN) (some d) H')
theorem wr_get : ∀ (m : Nat) (n : Int) (i : Nat), i < m → (wr m n)[i]? = some (n / 2 ^ (m - 1 - i) % 2)
  | m + 1, n, 0, _ => by
    show some (n / 2 ^ m % 2) = _
    rfl
  | m + 1, n, i + 1, h => by
    show (wr m n)[i]? = _
    rw [wr_get m n i (by omega), show m + 1 - 1 - (i + 1) = m - 1 - i by omega]
theorem lc_rngC {lo c : Int} {n : Nat} {g : TG} {tt : TT} {te : TE} {vs : List Nat} {σ : L2.St} {H1 : Hp} {D : Addr} {Qd : Hp → Prop} (Pv : Nat → Hp → Prop) (p0 : Pv 0 (upd H1 D (.lst [])))
    (ps : ∀ i H, i < n → Pv i H → g (.int (lo + (i : Nat) * c)) (wipe σ vs) H fun σ2 H2 => wipe σ2 vs = wipe σ vs ∧ tt σ2 H2 fun b H3 =>
      if b = true then te σ2 H3 fun y H4 => ∃ acc, H4 D = some (.lst acc) ∧ acc.length < sizeLine ∧ Pv (i + 1) (upd H4 D (.lst (acc ++ [y]))) else Pv (i + 1) H3) (pd : ∀ H, Pv n H → Qd H) :
    ∃ W : Nat → Nat → Hp → Prop, (∃ m, W 0 m (upd H1 D (.lst []))) ∧ ∀ i m H, W i m H →
      ((Itc lo c n).stop i H ∧ Qd H) ∨ ((Itc lo c n).go i H ∧ ∃ Nx : Hp → Prop, (∀ H', Nx H' → ∃ m', m' < m ∧ W (i + 1) m' H') ∧ ∀ y H', (Itc lo c n).yld i H y H' → g y (wipe σ vs) H' fun σ2 H2 => wipe σ2 vs = wipe σ vs ∧ tt σ2 H2 fun b H3 =>
        if b = true then te σ2 H3 fun y H4 => ∃ acc, H4 D = some (.lst acc) ∧ acc.length < sizeLine ∧ Nx (upd H4 D (.lst (acc ++ [y]))) else Nx H3) := by
  refine ⟨fun i m H => m = n - i ∧ i ≤ n ∧ Pv i H, ⟨_, rfl, Nat.zero_le _, p0⟩, fun i m H hw => ?_⟩
  obtain ⟨rfl, hi, p⟩ := hw
  by_cases hlt : i < n
  · refine .inr ⟨hlt, Pv (i + 1), fun H' p' => ⟨n - (i + 1), by omega, rfl, hlt, p'⟩, fun y H' hy => ?_⟩
    obtain ⟨rfl, rfl⟩ := hy
    exact ps i _ hlt p
  · obtain rfl : i = n := by omega
    exact .inl ⟨Nat.le_refl _, pd H p⟩
theorem ok_number_bits {f cN : Addr} {fd : FuncData} {k : Nat} {tM : Tok} (F : Fun K "number_bits" "number_bits" s_number_bits f fd) (n_range : mg "range" = none) (g_MOST_BITS : mg "MOST_BITS" = some (.int 64 tM)) (x_BadCount : XcOk P w K mg base k "BadCount" cN (spIni0 K cN "BadCount")) : FnOk P w K mg base (L2.CX P w) (k + 2) f fd ["number", "many"] (spNbX cN) := by
  have sc := sc_number_bits
  refine F.okX sc (fun vs H Q E h => ?_) (fun cdv A outer s H vs Q E hr h => ?_)
  · obtain ⟨n, m, rfl, _⟩ := h
    rfl
  · obtain ⟨n, mm, rfl, q', qn⟩ := h
    refine ⟨_, (pss_cons (ps_if (PW.pt (pw_or (pt_cmpR op_lt (pv 1) pe_int (nomark _)) (pw_or (pt_cmpR op_gt (pv 1) (pe_glob (v := .int 64) (by rfl) g_MOST_BITS ⟨_, rfl⟩) (nomark _)) (pw_or (pt_cmpR op_lt (pv 0) pe_int (nomark _)) (pw_or1 (pt_cmpR op_ne (pe_op op_shr (pv 0) (pv 1)) pe_int (nomark _)))))))
  (pss_one (ps_raise rfl (takes_of rfl rfl rfl rfl) (pmk_c0 x_BadCount hr (by rfl))))
  pss_nil)
 (pss_one (ps_ret (pe_lc (own := [("place", 2)]) (g := gName 2) (by rfl) sc.nd (pi_range3 (by rfl) n_range (pa_cons (pe_op op_sub (pv 1) pe_int) (pa_cons (pe_un un_neg pe_int) (pa_cons (pe_un un_neg pe_int) pa_nil)))) (blkOk_by (own := [("place", 2)]) (N := ["number", "many", "place"]) (sc := defScope s_number_bits) (by decide +kernel)) (fun _ _ _ _ _ => (pg_name (i := 2) sc.nd rfl (Or.inl rfl))) (fun _ _ _ _ _ => pts_nil) (fun _ _ _ _ _ => (pe_op op_and (pe_op op_shr (pv 0) (pv 2)) pe_int)))))), ?_⟩
    refine ⟨_, rfl, _, _, rfl, rfl, _, rfl, ite2 (fun e => ?_) (fun e1 => ?_)⟩
    · have e : mm < 0 := of_decide_eq_true e
      exact mk_inner0 (fun H3 d s3 nd ed => qn (.inl e) H3 d s3 nd ed)
    have e1 : ¬ mm < 0 := fun h => e1 (decide_eq_true h)
    refine ⟨_, rfl, _, _, rfl, rfl, _, rfl, ite2 (fun e => ?_) (fun e2 => ?_)⟩
    · have e : 64 < mm := of_decide_eq_true e
      exact mk_inner0 (fun H3 d s3 nd ed => qn (.inr (.inl e)) H3 d s3 nd ed)
    have e2 : ¬ 64 < mm := fun h => e2 (decide_eq_true h)
    refine ⟨_, rfl, _, _, rfl, rfl, _, rfl, ite2 (fun e => ?_) (fun e3 => ?_)⟩
    · have e : n < 0 := of_decide_eq_true e
      exact mk_inner0 (fun H3 d s3 nd ed => qn (.inr (.inr (.inl e))) H3 d s3 nd ed)
    have e3 : ¬ n < 0 := fun h => e3 (decide_eq_true h)
    obtain ⟨m, rfl⟩ : ∃ m : Nat, mm = (m : Int) := ⟨mm.toNat, by omega⟩
    refine ⟨_, rfl, _, rfl, _, _, rfl, rfl, by omega, rfl, _, rfl, ite2 (fun e => ?_) (fun e4 => ?_)⟩
    · have e : (!decide (V.int (n / 2 ^ (m : Int).toNat) = V.int 0)) = true := e
      have e5 : 2 ^ (m : Int).toNat ≤ n := by
        rcases Int.lt_or_le n (2 ^ (m : Int).toNat) with h | h
        · exfalso
          rw [Int.ediv_eq_zero_of_lt (by omega) h] at e
          exact absurd e (by decide)
        · exact h
      exact mk_inner0 (fun H3 d s3 nd ed => qn (.inr (.inr (.inr e5))) H3 d s3 nd ed)
    have e4 : ¬ (!decide (V.int (n / 2 ^ (m : Int).toNat) = V.int 0)) = true := e4
    have hn1 : n < 2 ^ m := by
      refine lt_of_div ?_
      rw [Int.toNat_natCast] at e4
      by_cases z : n / 2 ^ m = 0
      · exact z
      · exfalso
        refine e4 ?_
        rw [decide_eq_false (fun y => z (V.int.inj y))]
        rfl
    have hn0 : 0 ≤ n := by omega
    have hm : m ≤ 64 := by omega
    have q := q' m rfl hm hn0 hn1
    refine ⟨_, rfl, _, _, rfl, rfl, 1, rfl, 1, rfl, (m : Int) - 1, -1, -1, ((m : Int) - 1 - -1).toNat, rfl, RgC.neg (by omega) (by omega) (by decide) (by decide), fun D nD => ?_⟩
    rw [show ((m : Int) - 1 - -1).toNat = m by omega]
    refine lc_rngC (fun i H' => Same H H' ∧ H' D = some (.lst (((wr m n).take i).map V.int))) ⟨same_upd nD, upd_same⟩ ?_ ?_
    · rintro i H' hi ⟨sm, eD⟩
      refine ⟨rfl, tYes_by (iteT ?_)⟩
      have ep : (m : Int) - 1 + (i : Int) * -1 = ((m - 1 - i : Nat) : Int) := by omega
      refine ⟨_, rfl, _, rfl, _, _, rfl, rfl, by omega, _, _, rfl, rfl, _, eD, ?_, same_mut sm nD, ?_⟩
      · rw [List.length_map, List.length_take, wr_len]
        exact sz4l (by omega)
      · rw [upd_same, take_more (wr_get m n i hi), List.map_append]
        have e1 : Builtin.bitAnd (n / 2 ^ ((m : Int) - 1 + (i : Int) * -1).toNat) 1 = n / 2 ^ (m - 1 - i) % 2 := by
          rw [ep, Int.toNat_natCast]
          have h1 : 0 ≤ n / 2 ^ (m - 1 - i) := Int.ediv_nonneg hn0 (Int.pow_nonneg (by decide))
          have := _root_.Bits.bitAnd_mask (x := n / 2 ^ (m - 1 - i)) 1 h1
          exact this
        show _ = some (HO.lst (_ ++ [V.int _]))
        rw [← e1]
    · rintro H' ⟨sm, eD⟩
      rw [List.take_of_length_le (by rw [wr_len]; exact Nat.le_refl _)] at eD
      exact q H' D sm nD eD
theorem sc_bits_number : FnScope ["bits", "number", "bit"] ["bits"] (defScope s_bits_number) := ⟨rfl, rfl, rfl, by decide +kernel, rfl, by decide +kernel, by decide +kernel⟩
def spBnX (K : PySem.W.Frag) (cB cN : Addr) : Sp := fun vs H Q E => ∃ (a : Addr) (ns : List Int), vs = [.ref a] ∧ SqL K H a (ns.map V.int) ∧ ns.length ≤ 10000 ∧
  (Bits ns → ns.length ≤ 64 → ∀ H', Same H H' → Q (.int (bn ns)) H') ∧
  (Bits ns → 64 < ns.length → ∀ H' d, Same H H' → H d = none → H' d = some (.xd [(("word" : Str), .str "BadCount")]) → E (.ref cN) (some d) H') ∧
  (∀ (i : Nat) (z : Int), ns[i]? = some z → ¬ isB z → Bits (ns.take i) → ∀ H' d, Same H H' → H d = none → H' d = some (.xd [(("at" : Str), .int (i : Int)), (("word" : Str), .str "BadBit")]) → E (.ref cB) (some d) H')
theorem ok_bits_number {f cB cN : Addr} {fd : FuncData} {k : Nat} {tM : Tok} (F : Fun K "bits_number" "bits_number" s_bits_number f fd) (n_len : mg "len" = none) (g_MOST_BITS : mg "MOST_BITS" = some (.int 64 tM)) (x_BadCount : XcOk P w K mg base k "BadCount" cN (spIni0 K cN "BadCount")) (c_check_bits : CalX P w K mg base (k + 1) "check_bits" ["bits"] (spCheckX K cB)) : FnOk P w K mg base (L2.CX P w) (k + 2) f fd ["bits"] (spBnX K cB cN) := by
  have sc := sc_bits_number
  refine F.okX sc (fun vs H Q E h => ?_) (fun cdv A outer s H vs Q E hr h => ?_)
  · obtain ⟨a, ns, rfl, _⟩ := h
    rfl
  · obtain ⟨a, ns, rfl, hS, hl, q, qn, qb⟩ := h
    refine ⟨_, (pss_cons (ps_expr (pe_callP c_check_bits hr (passes_call (takes_of rfl rfl rfl rfl) (fun _ _ _ _ h => h)) (by rfl) (pa_cons (pv 0) pa_nil)))
 (pss_cons (ps_if (pt_cmpR op_gt (pe_callB (call_lenK K rfl) (by rfl) n_len PySem.boot_len (pa_cons (pv 0) pa_nil)) (pe_glob (v := .int 64) (by rfl) g_MOST_BITS ⟨_, rfl⟩) (nomark _))
  (pss_one (ps_raise rfl (takes_of rfl rfl rfl rfl) (pmk_c0 x_BadCount hr (by rfl))))
  pss_nil)
 (pss_cons (ps_set (i := 1) sc.nd rfl (.inl rfl) pe_int)
 (pss_cons (ps_for (passes_of rfl) rfl (pi_listK K rfl (pv 0)) (pg_name (i := 2) sc.nd rfl (.inl rfl))
  (pss_one (ps_set (i := 1) sc.nd rfl (.inl rfl) (pe_op op_add (pe_op op_mul pe_int (pv 1)) (pv 2)))))
 (pss_one (ps_ret (pv 1))))))), ?_⟩
    refine ⟨_, rfl, a, ns, rfl, hS, by omega, fun hB H1 s1 => ?_, qb⟩
    refine ⟨_, rfl, a, _, rfl, .inl (s1.seq hS), _, _, rfl, rfl, _, rfl, ite2 (fun e => ?_) (fun e => ?_)⟩
    · have e : (64 : Int) < ((ns.map V.int).length : Int) := of_decide_eq_true e
      rw [List.length_map] at e
      exact mk_inner0 (fun H3 d s3 nd ed => qn hB (by omega) H3 d (s1.trans s3) (s1.free nd) ed)
    have e : ¬ (64 : Int) < ((ns.map V.int).length : Int) := fun h => e (decide_eq_true h)
    rw [List.length_map] at e
    refine ⟨_, rfl, a, rfl, ⟨_, s1.seq hS⟩, for_list (K := K) (a := a) (xs := ns.map V.int) (fun i σ H' => ∃ y, σ = [some (.ref a), some (.int (bn (ns.take i))), y] ∧ H' = H1) ⟨none, rfl, rfl⟩ (fun i σ H' _ h => ?_) ?_ ?_⟩
    · obtain ⟨_, _, rfl⟩ := h
      exact s1.seq hS
    · rintro i x σ H' hx ⟨y, rfl, rfl⟩
      obtain ⟨z, hz, rfl⟩ := getI hx
      refine ⟨_, rfl, _, _, rfl, rfl, .inl ⟨by decide, by decide⟩, _, rfl, _, _, rfl, rfl, some (.int z), ?_, rfl⟩
      rw [bn_more hz]
      rfl
    · rintro σ H' ⟨y, rfl, rfl⟩
      rw [List.length_map, List.take_length]
      exact ⟨_, rfl, q hB (by omega) _ s1⟩
theorem fits {i : Int} (h0 : 0 ≤ i) (h1 : i ≤ 200000) : Builtin.Range.rangeFitsLong i = true := by
  unfold Builtin.Range.rangeFitsLong
  rw [Bool.and_eq_true]
  exact ⟨decide_eq_true (by omega), decide_eq_true (by omega)⟩
theorem rgc_up {a l c : Int} {n : Nat} (ha : 0 ≤ a) (ha1 : a ≤ l) (hl : l ≤ 100000) (hc : 0 < c) (hc1 : c ≤ 1000) (hn : l - a = c * (n : Int)) (hn1 : (n : Int) ≤ 100000) : RgC a l c n := by
  have hs : Builtin.Range.rangeSize a l c = if a < l then (l - a - 1) / c + 1 else 0 := by
    unfold Builtin.Range.rangeSize
    rw [if_pos hc]
  have hz : Builtin.Range.rangeSize a l c = n := by
    rw [hs]
    by_cases z : n = 0
    · subst z
      rw [if_neg (by omega)]
      rfl
    · have hpos : a < l := by
        have : 0 < c * (n : Int) := Int.mul_pos hc (by omega)
        omega
      rw [if_pos hpos, hn]
      have : (c * (n : Int) - 1) / c = (n : Int) - 1 := by
        rw [show c * (n : Int) - 1 = c * ((n : Int) - 1) + (c - 1) by rw [Int.mul_sub]; omega, Int.add_ediv_of_dvd_left (Int.dvd_mul_right _ _), Int.mul_ediv_cancel_left _ (by omega), Int.ediv_eq_zero_of_lt (by omega) (by omega)]
        omega
      rw [this]
      omega
  refine ⟨by omega, by omega, ?_, hz⟩
  unfold Builtin.Range.small
  rw [fits ha (by omega), fits (i := l) (by omega) (by omega), fits (i := c) (by omega) (by omega), hz, fits (i := (n : Int)) (by omega) (by omega), if_pos hc, fits (i := l + (c - 1)) (by omega) (by omega), Bool.or_true]
  rfl
theorem sc_numbers_behind_first : FnScope ["bits", "many", "at"] ["bits", "many"] (defScope s_numbers_behind_first) := ⟨rfl, rfl, rfl, by decide +kernel, rfl, by decide +kernel, by decide +kernel⟩
/-- the numbers of n bits each behind the first bit -/
def byN (n : Nat) (bs : List Int) (c : Nat) : List Int := (List.range c).map fun i => bn ((bs.drop (1 + n * i)).take n)
def spNBF (K : PySem.W.Frag) (cF : Addr) : Sp := fun vs H Q E => ∃ (a : Addr) (bs : List Int) (n : Nat), vs = [.ref a, .int (n : Int)] ∧ SqL K H a (bs.map V.int) ∧ Bits bs ∧ 1 ≤ bs.length ∧ bs.length ≤ 10000 ∧ 0 < n ∧ n ≤ 64 ∧
  (∀ c : Nat, bs.length = 1 + n * c → ∀ (H' : Hp) (p : Addr), Same H H' → H p = none → H' p = some (.lst ((byN n bs c).map V.int)) → Q (.ref p) H') ∧
  ((bs.length - 1) % n ≠ 0 → ∀ H' d, Same H H' → H d = none → H' d = some (.xd [(("at" : Str), .int (bs.length : Int)), (("word" : Str), .str "BadFrame")]) → E (.ref cF) (some d) H')
theorem ok_numbers_behind_first {f cF cB cN : Addr} {fd : FuncData} {k : Nat} (F : Fun K "numbers_behind_first" "numbers_behind_first" s_numbers_behind_first f fd) (n_len : mg "len" = none) (n_range : mg "range" = none) (x_BadFrame : XcOk P w K mg base k "BadFrame" cF (spIni K cF "BadFrame" "at")) (c_bits_number : CalX P w K mg base (k + 1) "bits_number" ["bits"] (spBnX K cB cN)) : FnOk P w K mg base (L2.CX P w) (k + 2) f fd ["bits", "many"] (spNBF K cF) := by
  have sc := sc_numbers_behind_first
  refine F.okX sc (fun vs H Q E h => ?_) (fun cdv A outer s H vs Q E hr h => ?_)
  · obtain ⟨a, bs, n, rfl, _⟩ := h
    rfl
  · obtain ⟨a, bs, n, rfl, hS, hB, h1, hl, hn0, hn1, q, qe⟩ := h
    refine ⟨_, (pss_cons (ps_if (pt_cmpR op_ne (pe_op op_mod (pe_op op_sub (pe_callB (call_lenK K rfl) (by rfl) n_len PySem.boot_len (pa_cons (pv 0) pa_nil)) pe_int) (pv 1)) pe_int (nomark _))
  (pss_one (ps_raise rfl (takes_of rfl rfl rfl rfl) (pmk_c x_BadFrame hr (by rfl) (pa_cons (pe_callB (call_lenK K rfl) (by rfl) n_len PySem.boot_len (pa_cons (pv 0) pa_nil)) pa_nil))))
  pss_nil)
 (pss_one (ps_ret (pe_lc (own := [("at", 2)]) (g := gName 2) (by rfl) sc.nd (pi_range3 (by rfl) n_range (pa_cons pe_int (pa_cons (pe_callB (call_lenK K rfl) (by rfl) n_len PySem.boot_len (pa_cons (pv 0) pa_nil)) (pa_cons (pv 1) pa_nil)))) (blkOk_by (own := [("at", 2)]) (N := ["bits", "many", "at"]) (sc := defScope s_numbers_behind_first) (by decide +kernel)) (fun _ _ _ _ _ => (pg_name (i := 2) sc.nd rfl (Or.inl rfl))) (fun _ _ _ _ _ => pts_nil) (fun _ _ _ _ _ => (pe_callF c_bits_number hr (by rfl) (pa_cons (pe_slice (sl_listK K rfl) (pv 0) (po_some (pv 2)) (po_some (pe_op op_add (pv 2) (pv 1)))) pa_nil))))))), ?_⟩
    have em : (((bs.map V.int).length : Int) - 1) % (n : Int) = (((bs.length - 1) % n : Nat) : Int) := by
      rw [List.length_map, Int.natCast_emod]
      congr 1
      omega
    refine ⟨_, rfl, a, _, rfl, .inl hS, _, _, rfl, rfl, _, rfl, _, _, rfl, rfl, (by omega), rfl, _, rfl, ite2 (fun e => ?_) (fun e => ?_)⟩
    · have ne : (bs.length - 1) % n ≠ 0 := by
        intro z
        have e : (!decide (V.int ((((bs.map V.int).length : Int) - 1) % (n : Int)) = V.int 0)) = true := e
        rw [em, z] at e
        exact absurd e (by decide)
      refine ⟨_, rfl, a, _, rfl, .inl hS, ?_⟩
      rw [List.length_map]
      exact mk_inner (log_le (by omega)) (fun H3 d s3 nd ed => qe ne H3 d s3 nd ed)
    · have z8 : (bs.length - 1) % n = 0 := by
        have e : ¬ (!decide (V.int ((((bs.map V.int).length : Int) - 1) % (n : Int)) = V.int 0)) = true := e
        rw [em] at e
        by_cases z : (bs.length - 1) % n = 0
        · exact z
        · exfalso
          refine e ?_
          rw [decide_eq_false (fun y => z (by have := V.int.inj y; omega))]
          rfl
      obtain ⟨c, hc⟩ : ∃ c, bs.length = 1 + n * c := ⟨(bs.length - 1) / n, by have := Nat.div_add_mod (bs.length - 1) n; omega⟩
      have hcl : c ≤ bs.length := by
        have : c ≤ n * c := Nat.le_mul_of_pos_left c hn0
        omega
      refine ⟨_, rfl, a, _, rfl, .inl hS, _, rfl, 1, _, (n : Int), c, rfl, rgc_up (by decide) ?_ ?_ (by omega) (by omega) ?_ (by omega), fun D nD => ?_⟩
      · rw [List.length_map]; omega
      · rw [List.length_map]; omega
      · rw [List.length_map, hc]
        push_cast
        omega
      refine lc_rngC (fun i H' => Same H H' ∧ H' D = some (.lst ((byN n bs i).map V.int))) ⟨same_upd nD, upd_same⟩ ?_ ?_
      · rintro i H' hi ⟨sm, eD⟩
        refine ⟨rfl, tYes_by (iteT ?_)⟩
        have ei : (1 : Int) + (i : Int) * (n : Int) = ((1 + n * i : Nat) : Int) := by
          push_cast
          rw [Int.mul_comm]
        refine ⟨_, rfl, _, rfl, _, rfl, _, rfl, _, rfl, _, _, rfl, rfl, _, rfl, a, _, rfl, sm.seq hS, fun p2 n2 => ?_⟩
        have ec : cutV (bs.map V.int) (some ((1 : Int) + (i : Int) * (n : Int))) (some ((1 : Int) + (i : Int) * (n : Int) + (n : Int))) = ((bs.drop (1 + n * i)).take n).map V.int := by
          rw [ei, show ((1 + n * i : Nat) : Int) + (n : Int) = ((1 + n * i + n : Nat) : Int) by omega, cut_mid _ _ _ (by omega), Nat.add_sub_cancel_left, List.map_take, List.map_drop]
        rw [ec]
        have s2 := sm.trans (same_upd (o := .lst (((bs.drop (1 + n * i)).take n).map V.int)) n2)
        refine ⟨p2, (bs.drop (1 + n * i)).take n, rfl, SqL.of upd_same, by rw [List.length_take]; omega, (fun _ _ H3 s3 => ?_), (fun _ h => absurd h (by rw [List.length_take]; omega)), (fun j z hz nz => absurd (bits_take (bits_drop hB _) _ z (List.mem_of_getElem? hz)) nz)⟩
        refine ⟨_, s3 _ _ (same_upd n2 _ _ eD), ?_, same_mut (s2.trans s3) nD, ?_⟩
        · unfold byN
          rw [List.length_map, List.length_map, List.length_range]
          exact sz4l (by omega)
        · rw [upd_same]
          unfold byN
          rw [List.range_succ, List.map_append, List.map_append]
          rfl
      · rintro H' ⟨sm, eD⟩
        exact q c hc H' D sm nD eD
theorem at_last {xs : List V} {v : V} {n : Nat} (hl : xs.length = n + 1) (h : xs[n]? = some v) : atI xs (-1) = some v := by
  have e : ixN (n + 1) (-1) = some n := by
    unfold ixN
    rw [if_neg (by omega), if_pos (by omega)]
    congr 1
    omega
  unfold atI
  rw [hl, e]
  exact h
theorem sc_Book___init__ : FnScope ["self"] ["self"] (defScope m_Book___init__) := ⟨rfl, rfl, rfl, by decide +kernel, rfl, by decide +kernel, by decide +kernel⟩
theorem ok_Book___init__ {f C : Addr} {fd : FuncData} {k : Nat} (F : Fun K "__init__" "Book.__init__" m_Book___init__ f fd) (R : BkC K C) : FnOk P w K mg base CX0 (k + 1) f fd ["self"] (spBkI C) := by
  have sc := sc_Book___init__
  refine F.ok sc (fun vs H Q E h => ?_) (fun cdv A outer s H vs Q E hr h => ?_)
  · obtain ⟨r, dx, rfl, _⟩ := h
    rfl
  · obtain ⟨r, dx, rfl, hr_, q⟩ := h
    refine ⟨_, (pss_one (ps_fldK K rfl (pv 0) (pe_lst pa_nil))), ?_⟩
    refine ⟨Nat.zero_le _, fun l nl => ⟨_, rfl, r, C, dx, _, rfl, same_upd nl _ _ hr_, R.cls, R.nw, (by show 0 < 1000; decide), ?_⟩⟩
    refine q _ l ((MvF.of (same_upd nl)).upd (.head _)) nl ⟨⟨dx, upd_same⟩, ?_⟩
    rw [upd_ne (ne_of_none hr_ nl).symm, upd_same]
    rfl
theorem sc_Book___len__ : FnScope ["self"] ["self"] (defScope m_Book___len__) := ⟨rfl, rfl, rfl, by decide +kernel, rfl, by decide +kernel, by decide +kernel⟩
theorem ok_Book___len__ {f C : Addr} {fd : FuncData} {k : Nat} (F : Fun K "__len__" "Book.__len__" m_Book___len__ f fd) (R : BkC K C) (n_len : mg "len" = none) : FnOk P w K mg base CX0 (k + 1) f fd ["self"] (spBkLen C) := by
  have sc := sc_Book___len__
  refine F.ok sc (fun vs H Q E h => ?_) (fun cdv A outer s H vs Q E hr h => ?_)
  · obtain ⟨r, l, P, rfl, _⟩ := h
    rfl
  · obtain ⟨r, l, P, rfl, ⟨⟨dx, h1⟩, h2⟩, q⟩ := h
    refine ⟨_, (pss_one (ps_ret (pe_callB (call_lenK K rfl) (by rfl) n_len PySem.boot_len (pa_cons (pe_fldK K rfl (pv 0)) pa_nil)))), ?_⟩
    refine ⟨_, rfl, r, C, dx, _, _, rfl, h1, R.cls, R.nw, rfl, l, _, rfl, .inl (SqL.of h2), ?_⟩
    rw [List.length_map]
    exact q
theorem sc_Book___repr__ : FnScope ["self"] ["self"] (defScope m_Book___repr__) := ⟨rfl, rfl, rfl, by decide +kernel, rfl, by decide +kernel, by decide +kernel⟩
theorem ok_Book___repr__ {f C : Addr} {fd : FuncData} {k : Nat} (F : Fun K "__repr__" "Book.__repr__" m_Book___repr__ f fd) (R : BkC K C) (n_len : mg "len" = none) : FnOk P w K mg base CX0 (k + 1) f fd ["self"] (spBkRepr C) := by
  have sc := sc_Book___repr__
  refine F.ok sc (fun vs H Q E h => ?_) (fun cdv A outer s H vs Q E hr h => ?_)
  · obtain ⟨r, l, P, rfl, _⟩ := h
    rfl
  · obtain ⟨r, l, P, rfl, ⟨⟨dx, h1⟩, h2⟩, hl, q⟩ := h
    refine ⟨_, (pss_one (ps_ret (pe_joined (.cons pe_str (.cons (pe_fmt (pe_callB (call_lenK K rfl) (by rfl) n_len PySem.boot_len (pa_cons (pe_fldK K rfl (pv 0)) pa_nil))) (.cons pe_str .nil)))))), ?_⟩
    have hi : ((P.length : Int)).natAbs.log2 < 1000 := log_le (by omega)
    have e := PySem.int_text_length_le (k := 1000) (a := (P.length : Int)) (by decide) hi
    refine ⟨_, rfl, (by decide +kernel), _, rfl, r, C, dx, _, _, rfl, h1, R.cls, R.nw, rfl, l, _, rfl, .inl (SqL.of h2), .inr ⟨(P.length : Int), by rw [List.length_map], by omega, _, rfl, ?_, _, rfl, ?_, ?_⟩⟩
    · exact txt_fits (by decide +kernel) hi
    · have h5 : (Str.empty ++ ("Book(" : Str)).length ≤ 1000 := by decide +kernel
      have h8 : ((" learnt)" : Str)).length ≤ 1000 := by decide +kernel
      rw [PySem.Str.length_append, PySem.Str.length_append, PySem.ofString_length, PySem.sizeLine_eq]
      omega
    · exact q
theorem sc_Book_learnt : FnScope ["self"] ["self"] (defScope m_Book_learnt) := ⟨rfl, rfl, rfl, by decide +kernel, rfl, by decide +kernel, by decide +kernel⟩
theorem ok_Book_learnt {f C : Addr} {fd : FuncData} {k : Nat} (F : Fun K "learnt" "Book.learnt" m_Book_learnt f fd) (R : BkC K C) (n_list : mg "list" = none) : FnOk P w K mg base CX0 (k + 1) f fd ["self"] (spLearnt C) := by
  have sc := sc_Book_learnt
  refine F.ok sc (fun vs H Q E h => ?_) (fun cdv A outer s H vs Q E hr h => ?_)
  · obtain ⟨r, l, P, rfl, _⟩ := h
    rfl
  · obtain ⟨r, l, P, rfl, ⟨⟨dx, h1⟩, h2⟩, q⟩ := h
    refine ⟨_, (pss_one (ps_ret (pe_callTy (call_listK K rfl) (by rfl) n_list (by decide +kernel) (pa_cons (pe_fldK K rfl (pv 0)) pa_nil)))), ?_⟩
    exact ⟨_, rfl, r, C, dx, _, _, rfl, h1, R.cls, R.nw, rfl, l, _, rfl, .inl (SqL.of h2), q⟩
theorem sc_Book_shorten : FnScope ["self", "row", "words", "codes", "ahead", "at", "word"] ["self", "row"] (defScope m_Book_shorten) := ⟨rfl, rfl, rfl, by decide +kernel, rfl, by decide +kernel, by decide +kernel⟩
theorem ok_Book_shorten {f C cY cL : Addr} {fd : FuncData} {k : Nat} {t6 : Tok} (F : Fun K "shorten" "Book.shorten" m_Book_shorten f fd) (R : BkC K C) (n_len : mg "len" = none) (g_LONGEST_ROW : mg "LONGEST_ROW" = some (.int 60 t6)) (x_TooLong : XcOk P w K mg base k "TooLong" cL (spIni K cL "TooLong" "most"))
    (c_check_bytes : CalX P w K mg base (k + 1) "check_bytes" ["row"] (spCheckY K cY)) (c_words_at_beginning : Cal P w K mg base (k + 1) "words_at_beginning" ["words"] (spWAB K)) (c_longest_code : Cal P w K mg base (k + 1) "longest_code" ["words", "row", "at"] (spLC K)) (c_word_of : Cal P w K mg base (k + 1) "word_of" ["words", "code"] (spWO K)) (c_learn : Cal P w K mg base (k + 1) "learn" ["words", "ahead", "word"] (spLearn K)) :
    FnOk P w K mg base (L2.CX P w) (k + 2) f fd ["self", "row"] (spShort K C cY cL) := by
  have sc := sc_Book_shorten
  refine F.okX sc (fun vs H Q E h => ?_) (fun cdv A outer s H vs Q E hr h => ?_)
  · obtain ⟨r, l, a, P, ns, rfl, _⟩ := h
    rfl
  · obtain ⟨r, l, a, P, ns, rfl, ⟨⟨dx, hins⟩, hmem⟩, ht, h61, hS, hl, q, ql, qy⟩ := h
    refine ⟨_, (pss_cons (ps_expr (pe_callP c_check_bytes hr (passes_call (takes_of rfl rfl rfl rfl) (fun _ _ _ _ h => h)) (by rfl) (pa_cons (pv 1) pa_nil)))
 (pss_cons (ps_if (pt_cmpR op_gt (pe_callB (call_lenK K rfl) (by rfl) n_len PySem.boot_len (pa_cons (pv 1) pa_nil)) (pe_glob (v := .int 60) (by rfl) g_LONGEST_ROW ⟨_, rfl⟩) (nomark _))
  (pss_one (ps_raise rfl (takes_of rfl rfl rfl rfl) (pmk_c x_TooLong hr (by rfl) (pa_cons (pe_glob (v := .int 60) (by rfl) g_LONGEST_ROW ⟨_, rfl⟩) pa_nil))))
  pss_nil)
 (pss_cons (ps_set (i := 2) sc.nd rfl (.inl rfl) (pe_callC c_words_at_beginning hr (by rfl) (pa_cons (pe_fldK K rfl (pv 0)) pa_nil)))
 (pss_cons (ps_set (i := 3) sc.nd rfl (.inl rfl) (pe_lst pa_nil))
 (pss_cons (ps_set (i := 4) sc.nd rfl (.inl rfl) (pe_tup pa_nil))
 (pss_cons (ps_set (i := 5) sc.nd rfl (.inl rfl) pe_int)
 (pss_cons (ps_while (passes_of rfl) (pt_cmpR op_lt (pv 5) (pe_callB (call_lenK K rfl) (by rfl) n_len PySem.boot_len (pa_cons (pv 1) pa_nil)) (nomark _))
  (pss_cons (ps_expr (pe_bmK K rfl PySem.F.plainAttrs_list PySem.F.slot_list_append PySem.F.type_list_append mt_append (pv 3) (pa_cons (pe_callC c_longest_code hr (by rfl) (pa_cons (pv 2) (pa_cons (pv 1) (pa_cons (pv 5) pa_nil)))) pa_nil)))
 (pss_cons (ps_set (i := 6) sc.nd rfl (.inl rfl) (pe_callC c_word_of hr (by rfl) (pa_cons (pv 2) (pa_cons (pe_ix (ix_listK K rfl) (pv 3) (pe_un un_neg pe_int) (fun _ _ => rfl)) pa_nil))))
 (pss_cons (ps_expr (pe_callC c_learn hr (by rfl) (pa_cons (pv 2) (pa_cons (pv 4) (pa_cons (pv 6) pa_nil)))))
 (pss_cons (ps_set (i := 4) sc.nd rfl (.inl rfl) (pv 6))
 (pss_one (ps_aug (i := 5) sc.nd rfl (.inl rfl) (pe_callB (call_lenK K rfl) (by rfl) n_len PySem.boot_len (pa_cons (pv 6) pa_nil)) ip_add)))))))
 (pss_cons (ps_fldK K rfl (pv 0) (pv 2))
 (pss_one (ps_ret (pv 3))))))))))), ?_⟩
    refine ⟨_, rfl, a, ns, rfl, hS, by omega, fun hB H1 s1 => ?_, qy⟩
    refine ⟨_, rfl, a, _, rfl, .inl (s1.seq hS), _, _, rfl, rfl, _, rfl, ite2 (fun e => ?_) (fun e => ?_)⟩
    · have e : 60 < ns.length := by
        have := of_decide_eq_true e
        rw [List.length_map] at this
        omega
      exact mk_inner (i := 60) (log_le (n := 60) (by decide)) (fun H3 d s3 nd ed => ql hB e H3 d (s1.trans s3) (s1.free nd) ed)
    have e : ns.length ≤ 60 := by
      have : ¬ (60 : Int) < ((ns.map V.int).length : Int) := fun z => e (decide_eq_true z)
      rw [List.length_map] at this
      omega
    have q := q hB e
    clear ql qy
    refine ⟨_, rfl, r, C, dx, _, _, rfl, s1 _ _ hins, R.cls, R.nw, rfl, l, _, rfl, SqL.of (s1 _ _ hmem), fun lw nw => ?_⟩
    -- the words as the row begins
    obtain ⟨P0, eP0, hP0⟩ : ∃ P0 : List WP, (if (refsW P).length < 44 then refsW P else []) = refsW P0 ∧ wsOf P0 = bkBegun (wsOf P) ∧ ∀ p ∈ P0, p ∈ P := by
      by_cases z : P.length < 44
      · exact ⟨P, by rw [if_pos (by rw [List.length_map]; exact z)], by unfold bkBegun; rw [if_pos (by rw [wsOf_len]; exact z)], fun p hp => hp⟩
      · exact ⟨[], by rw [if_neg (by rw [List.length_map]; exact z)]; rfl, by unfold bkBegun; rw [if_neg (by rw [wsOf_len]; exact z)]; rfl, fun p hp => absurd hp List.not_mem_nil⟩
    rw [eP0]
    have s2 := s1.trans (same_upd (o := .lst (refsW P0)) nw)
    have ew : upd H1 lw (.lst (refsW P0)) lw = some (.lst (refsW P0)) := upd_same
    have nw0 : H lw = none := s1.free nw
    generalize upd H1 lw (.lst (refsW P0)) = H2 at s2 ew ⊢
    refine name_by ?_
    dsimp only
    refine ⟨Nat.zero_le _, fun lc nc => ?_⟩
    have s3 := s2.trans (same_upd (o := .lst []) nc)
    have ew3 := same_upd (o := .lst []) nc _ _ ew
    have ec3 : upd H2 lc (.lst []) lc = some (.lst (([] : List Int).map V.int)) := upd_same
    have nwc : lw ≠ lc := ne_of_none ew nc
    have nc0 : H lc = none := s2.free nc
    generalize upd H2 lc (.lst []) = H3 at s3 ew3 ec3 ⊢
    refine name_by ?_
    dsimp only
    refine ⟨Nat.zero_le _, fun ta na => ?_⟩
    have s4 := s3.trans (same_upd (o := .tup []) na)
    have ew4 := same_upd (o := .tup []) na _ _ ew3
    have ec4 := same_upd (o := .tup []) na _ _ ec3
    have ha4 : SqT K (upd H3 ta (.tup [])) ta (([] : List Int).map V.int) := SqT.of upd_same
    generalize upd H3 ta (.tup []) = H4 at s4 ew4 ec4 ha4 ⊢
    refine name_by ?_
    dsimp only
    refine const_by ?_
    clear ew ew3 ec3 s2 s3
    have ht0 : TF K (knW P0) H4 := fun p hp => by
      obtain ⟨x, hx, rfl⟩ := List.mem_map.mp hp
      exact same_t s4 (ht (twW x) (List.mem_map.mpr ⟨x, hP0.2 x hx, rfl⟩))
    refine seq_by (J := fun σ1 H1 => ∃ (P' : List WP) (ta : Addr) (y5 y6 : Option V), σ1 = [some (.ref r), some (.ref a), some (.ref lw), some (.ref lc), some (.ref ta), y5, y6] ∧ Same H H1 ∧ H1 lw = some (.lst (refsW P')) ∧ TF K (knW P') H1 ∧ wsOf P' = (bkShort (wsOf P) ns).2 ∧ H1 lc = some (.lst ((bkShort (wsOf P) ns).1.map V.int))) ?_ (fun rest => ?_)
    · rintro σ1 H5 ⟨P', ta', y5, y6, rfl, s5, ew5, ht5, e5, ec5⟩
      have e6 := s5 _ _ hins
      refine ⟨_, rfl, _, rfl, r, C, dx, _, rfl, e6, R.cls, R.nw, (by show 1 < 1000; decide), ?_⟩
      have ep : putF "words" (.ref lw) (bkF l) = bkF lw := rfl
      rw [ep]
      have nwr : lw ≠ r := (ne_of_none hins nw0).symm
      have ncr : lc ≠ r := (ne_of_none hins nc0).symm
      refine ⟨_, rfl, q _ lw lc P' ((MvF.of s5).upd (.head _)) nw0 nc0 nwc.symm ⟨⟨dx, upd_same⟩, by rw [upd_ne nwr]; exact ew5⟩ (fun p hp => sqT_updI e6 (ht5 p hp)) e5 (by rw [upd_ne ncr]; exact ec5)⟩
    · refine while_w (fun σ H' => ∃ (i : Nat) (P' : List WP) (cs av : List Int) (ta : Addr) (y6 : Option V), σ = [some (.ref r), some (.ref a), some (.ref lw), some (.ref lc), some (.ref ta), some (.int (i : Int)), y6] ∧ Same H H' ∧ H' lw = some (.lst (refsW P')) ∧ TF K (knW P') H' ∧ W61 (wsOf P') ∧ H' lc = some (.lst (cs.map V.int)) ∧ SqT K H' ta (av.map V.int) ∧ av.length ≤ 60 ∧ i ≤ ns.length ∧ cs.length ≤ i ∧ bkShort (wsOf P) ns = (cs ++ (bkGo (wsOf P') av (ns.drop i)).1, (bkGo (wsOf P') av (ns.drop i)).2)) (fun σ _ => match σ with | [_, _, _, _, _, some (.int n), _] => ns.length - n.toNat | _ => 0)
        ⟨0, P0, [], [], ta, none, rfl, s4, ew4, ht0, (by rw [hP0.1]; exact w61_begun h61), ec4, ha4, Nat.zero_le _, Nat.zero_le _, Nat.le_refl _, (by rw [hP0.1]; rfl)⟩ ?_
      clear ew4 ec4 ha4 ht0 s4
      rintro σ H5 ⟨i, P', cs, av, ta, y6, rfl, s5, ew5, ht5, h615, ec5, ha5, hav, hi, hcs, eq5⟩
      refine ⟨_, rfl, _, rfl, a, _, rfl, .inl (s5.seq hS), _, _, rfl, rfl, _, rfl, ite2 (fun e2 => ?_) (fun e2 => ?_)⟩
      · have e2 : i < ns.length := by
          have := of_decide_eq_true e2
          rw [List.length_map] at this
          omega
        have hne : ns.drop i ≠ [] := fun z => by
          have := congrArg List.length z
          rw [List.length_drop] at this
          have : ns.length - i = 0 := this
          omega
        have hYd : ∀ z ∈ ns.drop i, 0 ≤ z ∧ z < 256 := fun z hz => hB z (List.mem_of_mem_drop hz)
        obtain ⟨⟨hc0, hc1⟩, hw⟩ := bk_code_word (ws := wsOf P') hne hYd
        have hsz := bkSize_pos (ns.drop i) (wsOf P')
        have hszl := (bk_is hne (wsOf P')).hi
        rw [List.length_drop] at hszl
        refine ⟨wN _ _ _, wN_ok, ?_⟩
        refine ⟨_, rfl, .inl ⟨rfl, _, SqL.of ec5⟩, _, rfl, _, rfl, _, rfl, lw, a, i, P', ns, rfl, SqL.of ew5, ht5, s5.seq hS, e2, fun H6 s6 => ?_⟩
        refine ⟨lc, _, _, rfl, rfl, s6 _ _ ec5, ?_, ?_⟩
        · rw [List.length_map]
          exact sz4l (by omega)
        have m7 : MvF [lc] H6 (upd H6 lc (.lst (cs.map V.int ++ [.int (bkCode (ns.drop i) (wsOf P'))]))) := (MvF.refl _ _).upd (.head _)
        have nolc : ∀ b ∈ [lc], ∀ o, H6 b = some o → noT o := fun b hb o eo => by
          rw [in1 hb, s6 _ _ ec5] at eo
          cases eo
          trivial
        have ht7 := (ht5.same s6).mvf m7 nolc
        have ha7 := sqT_mvf m7 nolc (same_t s6 ha5)
        have s7 : Same H (upd H6 lc (.lst (cs.map V.int ++ [.int (bkCode (ns.drop i) (wsOf P'))]))) := same_mut (s5.trans s6) nc0
        have ew7 : upd H6 lc (.lst (cs.map V.int ++ [.int (bkCode (ns.drop i) (wsOf P'))])) lw = some (.lst (refsW P')) := by rw [upd_ne nwc]; exact s6 _ _ ew5
        have ec7 : upd H6 lc (.lst (cs.map V.int ++ [.int (bkCode (ns.drop i) (wsOf P'))])) lc = some (.lst ((cs ++ [bkCode (ns.drop i) (wsOf P')]).map V.int)) := by rw [upd_same, List.map_append]; rfl
        generalize upd H6 lc (.lst (cs.map V.int ++ [.int (bkCode (ns.drop i) (wsOf P'))])) = H7 at s7 ew7 ec7 ht7 ha7 ⊢
        clear ht5 ha5 ew5 ec5 m7 nolc
        have hlast : atI ((cs ++ [bkCode (ns.drop i) (wsOf P')]).map V.int) (-1) = some (.int (bkCode (ns.drop i) (wsOf P'))) := by
          exact at_last (n := cs.length) (by simp) (by simp)
        refine ⟨_, rfl, _, rfl, 1, rfl, lc, _, _, _, rfl, rfl, SqL.of ec7, hlast, ?_⟩
        refine ⟨lw, _, P', rfl, SqL.of ew7, ht7, hc0, (by rw [← wsOf_len]; exact hc1), fun H8 tu s8 htu => ?_⟩
        rw [hw] at htu
        refine name_by ?_
        dsimp only
        refine ⟨_, rfl, _, rfl, _, rfl, lw, ta, tu, P', av, (ns.drop i).take (bkSize (ns.drop i) (wsOf P')), rfl, s8 _ _ ew7, ht7.same s8, same_t s8 ha7, htu, by omega, (by have := h615.1; rw [wsOf_len] at this; omega), fun H9 P9 m9 ew9 ht9 e9 => ?_⟩
        have nolw : ∀ b ∈ [lw], ∀ o, H8 b = some o → noT o := fun b hb o eo => by
          rw [in1 hb, s8 _ _ ew7] at eo
          cases eo
          trivial
        have htu9 := sqT_mvf m9 nolw htu
        have s9 : Same H H9 := fun b o eb => m9.kp b o (fun z => ne_of_none eb nw0 (in1 z)) ((s7.trans s8) b o eb)
        have ec9 : H9 lc = some (.lst ((cs ++ [bkCode (ns.drop i) (wsOf P')]).map V.int)) := m9.kp _ _ (fun z => nwc (in1 z).symm) (s8 _ _ ec7)
        refine ⟨_, rfl, ?_⟩
        refine name_by ?_
        dsimp only
        refine ⟨_, rfl, _, rfl, tu, _, rfl, .inr htu9, _, _, rfl, rfl, ?_⟩
        have hlen : ((((ns.drop i).take (bkSize (ns.drop i) (wsOf P'))).map V.int).length : Int) = (bkSize (ns.drop i) (wsOf P') : Nat) := by
          rw [List.length_map, List.length_take, List.length_drop]
          omega
        refine ⟨⟨i + bkSize (ns.drop i) (wsOf P'), P9, cs ++ [bkCode (ns.drop i) (wsOf P')], (ns.drop i).take (bkSize (ns.drop i) (wsOf P')), tu, some (.ref tu), ?_, s9, ew9, ht9, (by rw [e9]; exact w61_learn h615 hav), ec9, htu9, (by rw [List.length_take, List.length_drop]; omega), by omega, (by rw [List.length_append]; show cs.length + 1 ≤ _; omega), ?_⟩, ?_⟩
        · dsimp only [List.set]
          rw [hlen]
          rfl
        · rw [eq5, bkGo_cons hne, e9, List.drop_drop, List.append_assoc]
          rfl
        · dsimp only [List.set]
          rw [hlen]
          show ns.length - ((i : Int) + (bkSize (ns.drop i) (wsOf P') : Nat)).toNat < ns.length - (i : Int).toNat
          omega
      · have e2 : i = ns.length := by
          have : ¬ (i : Int) < ((ns.map V.int).length : Int) := fun z => e2 (decide_eq_true z)
          rw [List.length_map] at this
          omega
        rw [e2, List.drop_length, bkGo_nil, List.append_nil] at eq5
        exact rest _ _ ⟨P', ta, _, _, rfl, s5, ew5, ht5, by rw [eq5], by rw [eq5]; exact ec5⟩
theorem sc_Book_lengthen : FnScope ["self", "codes", "words", "row", "ahead", "at", "code", "word"] ["self", "codes"] (defScope m_Book_lengthen) := ⟨rfl, rfl, rfl, by decide +kernel, rfl, by decide +kernel, by decide +kernel⟩
theorem bk_begun_at (P : List WP) : ∃ P0 : List WP, (if (refsW P).length < 44 then refsW P else []) = refsW P0 ∧ wsOf P0 = bkBegun (wsOf P) ∧ ∀ p ∈ P0, p ∈ P := by
  by_cases z : P.length < 44
  · exact ⟨P, by rw [if_pos (by rw [List.length_map]; exact z)], by unfold bkBegun; rw [if_pos (by rw [wsOf_len]; exact z)], fun p hp => hp⟩
  · exact ⟨[], by rw [if_neg (by rw [List.length_map]; exact z)]; rfl, by unfold bkBegun; rw [if_neg (by rw [wsOf_len]; exact z)]; rfl, fun p hp => absurd hp List.not_mem_nil⟩
theorem ok_Book_lengthen {f C cC : Addr} {fd : FuncData} {k : Nat} {t6 t7 : Tok} (F : Fun K "lengthen" "Book.lengthen" m_Book_lengthen f fd) (R : BkC K C) (n_len : mg "len" = none) (n_enumerate : mg "enumerate" = none) (g_BYTE_WORDS : mg "BYTE_WORDS" = some (.int 256 t7)) (g_LONGEST_ROW : mg "LONGEST_ROW" = some (.int 60 t6)) (x_BadCode : XcOk P w K mg base k "BadCode" cC (spIni K cC "BadCode" "at"))
    (c_words_at_beginning : Cal P w K mg base (k + 1) "words_at_beginning" ["words"] (spWAB K)) (c_word_of : Cal P w K mg base (k + 1) "word_of" ["words", "code"] (spWO K)) (c_learn : Cal P w K mg base (k + 1) "learn" ["words", "ahead", "word"] (spLearn K)) :
    FnOk P w K mg base (L2.CX P w) (k + 2) f fd ["self", "codes"] (spLong K C cC) := by
  have sc := sc_Book_lengthen
  refine F.okX sc (fun vs H Q E h => ?_) (fun cdv A outer s H vs Q E hr h => ?_)
  · obtain ⟨r, l, a, P, cs, rfl, _⟩ := h
    rfl
  · obtain ⟨r, l, a, P, cs, rfl, ⟨⟨dx, hins⟩, hmem⟩, ht, h61, hS, hl, q, qe⟩ := h
    refine ⟨_, (pss_cons (ps_set (i := 2) sc.nd rfl (.inl rfl) (pe_callC c_words_at_beginning hr (by rfl) (pa_cons (pe_fldK K rfl (pv 0)) pa_nil)))
 (pss_cons (ps_set (i := 3) sc.nd rfl (.inl rfl) (pe_lst pa_nil))
 (pss_cons (ps_set (i := 4) sc.nd rfl (.inl rfl) (pe_tup pa_nil))
 (pss_cons (ps_for (passes_of rfl) rfl (pi_enum (by rfl) n_enumerate (pa_cons (pv 1) pa_nil)) (pg_tup rfl (pgs_cons (pg_name (i := 5) sc.nd rfl (.inl rfl)) (pgs_cons (pg_name (i := 6) sc.nd rfl (.inl rfl)) pgs_nil)))
  (pss_cons (ps_if (PW.pt (pw_or (pt_cmpR op_lt (pv 6) pe_int (nomark _)) (pw_or1 (pt_cmpR op_ge (pv 6) (pe_op op_add (pe_glob (v := .int 256) (by rfl) g_BYTE_WORDS ⟨_, rfl⟩) (pe_callB (call_lenK K rfl) (by rfl) n_len PySem.boot_len (pa_cons (pv 2) pa_nil))) (nomark _)))))
  (pss_one (ps_raise rfl (takes_of rfl rfl rfl rfl) (pmk_c x_BadCode hr (by rfl) (pa_cons (pv 5) pa_nil))))
  pss_nil)
 (pss_cons (ps_set (i := 7) sc.nd rfl (.inl rfl) (pe_callC c_word_of hr (by rfl) (pa_cons (pv 2) (pa_cons (pv 6) pa_nil))))
 (pss_cons (ps_if (pt_cmpR op_gt (pe_op op_add (pe_callB (call_lenK K rfl) (by rfl) n_len PySem.boot_len (pa_cons (pv 3) pa_nil)) (pe_callB (call_lenK K rfl) (by rfl) n_len PySem.boot_len (pa_cons (pv 7) pa_nil))) (pe_glob (v := .int 60) (by rfl) g_LONGEST_ROW ⟨_, rfl⟩) (nomark _))
  (pss_one (ps_raise rfl (takes_of rfl rfl rfl rfl) (pmk_c x_BadCode hr (by rfl) (pa_cons (pv 5) pa_nil))))
  pss_nil)
 (pss_cons (ps_expr (pe_bmK K rfl PySem.F.plainAttrs_list PySem.F.slot_list_extend PySem.F.type_list_extend (mt_extendTK K rfl) (pv 3) (pa_cons (pv 7) pa_nil)))
 (pss_cons (ps_expr (pe_callC c_learn hr (by rfl) (pa_cons (pv 2) (pa_cons (pv 4) (pa_cons (pv 7) pa_nil)))))
 (pss_one (ps_set (i := 4) sc.nd rfl (.inl rfl) (pv 7)))))))))
 (pss_cons (ps_fldK K rfl (pv 0) (pv 2))
 (pss_one (ps_ret (pv 3)))))))), ?_⟩
    refine ⟨_, rfl, r, C, dx, _, _, rfl, hins, R.cls, R.nw, rfl, l, _, rfl, SqL.of hmem, fun lw nw => ?_⟩
    obtain ⟨P0, eP0, hP0⟩ := bk_begun_at P
    rw [eP0]
    have s2 := same_upd (o := .lst (refsW P0)) nw
    have ew : upd H lw (.lst (refsW P0)) lw = some (.lst (refsW P0)) := upd_same
    generalize upd H lw (.lst (refsW P0)) = H2 at s2 ew ⊢
    refine name_by ?_
    dsimp only
    refine ⟨Nat.zero_le _, fun lc nc => ?_⟩
    have s3 := s2.trans (same_upd (o := .lst []) nc)
    have ew3 := same_upd (o := .lst []) nc _ _ ew
    have ec3 : upd H2 lc (.lst []) lc = some (.lst (([] : List Int).map V.int)) := upd_same
    have nwc : lw ≠ lc := ne_of_none ew nc
    have nc0 : H lc = none := s2.free nc
    generalize upd H2 lc (.lst []) = H3 at s3 ew3 ec3 ⊢
    refine name_by ?_
    dsimp only
    refine ⟨Nat.zero_le _, fun ta na => ?_⟩
    have s4 := s3.trans (same_upd (o := .tup []) na)
    have ew4 := same_upd (o := .tup []) na _ _ ew3
    have ec4 := same_upd (o := .tup []) na _ _ ec3
    have ha4 : SqT K (upd H3 ta (.tup [])) ta (([] : List Int).map V.int) := SqT.of upd_same
    generalize upd H3 ta (.tup []) = H4 at s4 ew4 ec4 ha4 ⊢
    refine name_by ?_
    dsimp only
    clear ew ew3 ec3 s2 s3
    have ht0 : TF K (knW P0) H4 := fun p hp => by
      obtain ⟨x, hx, rfl⟩ := List.mem_map.mp hp
      exact same_t s4 (ht (twW x) (List.mem_map.mpr ⟨x, hP0.2 x hx, rfl⟩))
    refine ⟨_, rfl, a, _, rfl, s4.seq hS, for_enumK (xs := cs.map V.int) (fun j σ H' => ∃ (P' : List WP) (av fv : List Int) (ta : Addr) (y5 y6 y7 : Option V), σ = [some (.ref r), some (.ref a), some (.ref lw), some (.ref lc), some (.ref ta), y5, y6, y7] ∧ Same H H' ∧ H' lw = some (.lst (refsW P')) ∧ TF K (knW P') H' ∧ W61 (wsOf P') ∧ H' lc = some (.lst (fv.map V.int)) ∧ SqT K H' ta (av.map V.int) ∧ av.length ≤ 60 ∧ fv.length ≤ 60 ∧ bkLong (wsOf P) cs = bkLen (wsOf P') av fv j (cs.drop j))
      ⟨P0, [], [], ta, none, none, none, rfl, s4, ew4, ht0, (by rw [hP0.1]; exact w61_begun h61), ec4, ha4, Nat.zero_le _, Nat.zero_le _, (by rw [hP0.1]; rfl)⟩ (fun j σ H' _ h => ?_) ?_ ?_⟩
    · obtain ⟨_, _, _, _, _, _, _, _, sm, _⟩ := h
      exact sm.seq hS
    · clear ew4 ec4 ha4 ht0 s4
      rintro j x T σ H5 hx ⟨P', av, fv, ta, y5, y6, y7, rfl, s5, ew5, ht5, h615, ec5, ha5, hav, hfv, eq5⟩ nT
      obtain ⟨c, hc, rfl⟩ := getI hx
      have hjl : j < cs.length := (List.getElem?_eq_some_iff.mp hc).1
      have ed : cs.drop j = c :: cs.drop (j + 1) := by
        rw [List.drop_eq_getElem_cons hjl]
        congr 1
        exact Option.some.inj ((List.getElem?_eq_getElem hjl).symm.trans hc)
      rw [ed] at eq5
      unfold bkLen at eq5
      have s6 := s5.trans (same_upd (o := .tup [.int (j : Nat), .int c]) nT)
      have t6 := same_upd (o := .tup [.int (j : Nat), .int c]) nT
      have ew6 := t6 _ _ ew5
      have ec6 := t6 _ _ ec5
      have ht6 := ht5.same t6
      have ha6 := same_t t6 ha5
      refine ⟨T, _, rfl, SqT.of upd_same, rfl, _, _, rfl, _, _, rfl, rfl, ?_⟩
      generalize upd H5 T (.tup [.int (j : Nat), .int c]) = H6 at s6 ew6 ec6 ht6 ha6 ⊢
      clear ew5 ec5 ht5 ha5 s5 t6
      have bad : (c < 0 ∨ 256 + ((wsOf P').length : Int) ≤ c) → bkLong (wsOf P) cs = .inl j := fun h => by rw [eq5, if_pos h]
      refine ⟨_, rfl, _, _, rfl, rfl, _, rfl, ite2 (fun e => ?_) (fun e => ?_)⟩
      · exact iteT ⟨_, rfl, mk_inner (log_le (by omega)) (fun H7 d s7 nd ed => qe j (bad (.inl (of_decide_eq_true e))) H7 d (s6.trans s7) (s6.free nd) ed)⟩
      have e0 : ¬ c < 0 := fun y => e (decide_eq_true y)
      refine ⟨_, rfl, _, rfl, lw, _, rfl, .inl (SqL.of ew6), _, _, rfl, rfl, _, _, rfl, rfl, _, rfl, ite2 (fun e => ?_) (fun e => ?_)⟩
      · have e : 256 + ((refsW P').length : Int) ≤ c := of_decide_eq_true e
        rw [List.length_map, ← wsOf_len] at e
        exact ⟨_, rfl, mk_inner (log_le (by omega)) (fun H7 d s7 nd ed => qe j (bad (.inr e)) H7 d (s6.trans s7) (s6.free nd) ed)⟩
      have e1 : ¬ 256 + ((wsOf P').length : Int) ≤ c := fun z => e (decide_eq_true (by show 256 + ((refsW P').length : Int) ≤ c; rw [List.length_map, ← wsOf_len]; exact z))
      rw [if_neg (by omega)] at eq5
      refine ⟨_, rfl, _, rfl, lw, c, P', rfl, SqL.of ew6, ht6, by omega, (by rw [← wsOf_len]; omega), fun H7 tu s7 htu => ?_⟩
      refine name_by ?_
      dsimp only
      have s8 := s6.trans s7
      refine ⟨_, rfl, lc, _, rfl, .inl (SqL.of (s7 _ _ ec6)), _, rfl, tu, _, rfl, .inr htu, _, _, rfl, rfl, _, _, rfl, rfl, _, rfl, ite2 (fun e => ?_) (fun e => ?_)⟩
      · have e : 60 < fv.length + (bkWord (wsOf P') c).length := by
          have := of_decide_eq_true e
          rw [List.length_map, List.length_map] at this
          omega
        rw [if_pos e] at eq5
        exact ⟨_, rfl, mk_inner (log_le (by omega)) (fun H9 d s9 nd ed => qe j eq5 H9 d (s8.trans s9) (s8.free nd) ed)⟩
      have e2 : ¬ 60 < fv.length + (bkWord (wsOf P') c).length := fun z => e (decide_eq_true (by rw [List.length_map, List.length_map]; omega))
      rw [if_neg e2] at eq5
      refine ⟨_, rfl, .inl ⟨rfl, _, SqL.of (s7 _ _ ec6)⟩, _, rfl, lc, tu, _, _, rfl, rfl, s7 _ _ ec6, htu, ?_, ?_⟩
      · rw [List.length_map, List.length_map]
        exact sz4 (by omega)
      rw [← List.map_append]
      have nolc : ∀ b ∈ [lc], ∀ o, H7 b = some o → noT o := fun b hb o eo => by
        rw [in1 hb, s7 _ _ ec6] at eo
        cases eo
        trivial
      have m9 : MvF [lc] H7 (upd H7 lc (.lst ((fv ++ bkWord (wsOf P') c).map V.int))) := (MvF.refl _ _).upd (.head _)
      have ht9 := (ht6.same s7).mvf m9 nolc
      have ha9 := sqT_mvf m9 nolc (same_t s7 ha6)
      have htu9 := sqT_mvf m9 nolc htu
      have s9 : Same H (upd H7 lc (.lst ((fv ++ bkWord (wsOf P') c).map V.int))) := same_mut s8 nc0
      have ew9 : upd H7 lc (.lst ((fv ++ bkWord (wsOf P') c).map V.int)) lw = some (.lst (refsW P')) := by rw [upd_ne nwc]; exact s7 _ _ ew6
      have ec9 : upd H7 lc (.lst ((fv ++ bkWord (wsOf P') c).map V.int)) lc = some (.lst ((fv ++ bkWord (wsOf P') c).map V.int)) := upd_same
      generalize upd H7 lc (.lst ((fv ++ bkWord (wsOf P') c).map V.int)) = H9 at s9 ew9 ec9 ht9 ha9 htu9 ⊢
      clear m9 nolc ew6 ec6 ht6 ha6
      refine ⟨_, rfl, _, rfl, _, rfl, lw, ta, tu, P', av, bkWord (wsOf P') c, rfl, ew9, ht9, ha9, htu9, by omega, (by have := h615.1; rw [wsOf_len] at this; omega), fun H10 P10 m10 ew10 ht10 e10 => ?_⟩
      have nolw : ∀ b ∈ [lw], ∀ o, H9 b = some o → noT o := fun b hb o eo => by
        rw [in1 hb, ew9] at eo
        cases eo
        trivial
      have htu10 := sqT_mvf m10 nolw htu9
      have s10 : Same H H10 := fun b o eb => m10.kp b o (fun z => ne_of_none eb nw (in1 z)) (s9 b o eb)
      have ec10 : H10 lc = some (.lst ((fv ++ bkWord (wsOf P') c).map V.int)) := m10.kp _ _ (fun z => nwc (in1 z).symm) ec9
      refine ⟨_, rfl, ?_⟩
      refine name_by ?_
      exact ⟨P10, bkWord (wsOf P') c, fv ++ bkWord (wsOf P') c, tu, _, _, _, rfl, s10, ew10, ht10, (by rw [e10]; exact w61_learn h615 hav), ec10, htu10, by omega, (by rw [List.length_append]; omega), (by rw [eq5, e10])⟩
    · clear ew4 ec4 ha4 ht0 s4
      rintro σ H5 ⟨P', av, fv, ta, y5, y6, y7, rfl, s5, ew5, ht5, h615, ec5, ha5, hav, hfv, eq5⟩
      rw [List.length_map, List.drop_length] at eq5
      have eq5 : bkLong (wsOf P) cs = .inr (fv, wsOf P') := eq5
      have e6 := s5 _ _ hins
      refine ⟨_, rfl, _, rfl, r, C, dx, _, rfl, e6, R.cls, R.nw, (by show 1 < 1000; decide), ?_⟩
      have ep : putF "words" (.ref lw) (bkF l) = bkF lw := rfl
      rw [ep]
      have nwr : lw ≠ r := (ne_of_none hins nw).symm
      have ncr : lc ≠ r := (ne_of_none hins nc0).symm
      refine ⟨_, rfl, q fv (wsOf P') eq5 _ lw lc P' ((MvF.of s5).upd (.head _)) nw nc0 nwc.symm ⟨⟨dx, upd_same⟩, by rw [upd_ne nwr]; exact ew5⟩ (fun p hp => sqT_updI e6 (ht5 p hp)) rfl (by rw [upd_ne ncr]; exact ec5)⟩
theorem sc_bits_of : FnScope ["row", "bits", "byte"] ["row"] (defScope s_bits_of) := ⟨rfl, rfl, rfl, by decide +kernel, rfl, by decide +kernel, by decide +kernel⟩
def spBits8 (K : PySem.W.Frag) (C : Addr) : Sp := fun vs H Q E => ∃ (a : Addr) (ns : List Int), vs = [.ref a] ∧ SqL K H a (ns.map V.int) ∧ ns.length ≤ 10000 ∧
  (Bytes ns → ∀ (H' : Hp) (p : Addr), Same H H' → H p = none → H' p = some (.lst ((bb ns).map V.int)) → Q (.ref p) H') ∧
  (∀ (i : Nat) (z : Int), ns[i]? = some z → ¬ isY z → Bytes (ns.take i) → ∀ H' d, Same H H' → H d = none → H' d = some (.xd [(("at" : Str), .int (i : Int)), (("word" : Str), .str "BadByte")]) → E (.ref C) (some d) H')
theorem ok_bits_of {f C cN : Addr} {fd : FuncData} {k : Nat} {tB : Tok} (F : Fun K "bits_of" "bits_of" s_bits_of f fd) (g_BYTE_BITS : mg "BYTE_BITS" = some (.int 8 tB)) (c_check_bytes : CalX P w K mg base k "check_bytes" ["row"] (spCheckY K C)) (c_number_bits : CalX P w K mg base k "number_bits" ["number", "many"] (spNbX cN)) :
    FnOk P w K mg base (L2.CX P w) (k + 1) f fd ["row"] (spBits8 K C) := by
  have sc := sc_bits_of
  refine F.okX sc (fun vs H Q E h => ?_) (fun cdv A outer s H vs Q E hr h => ?_)
  · obtain ⟨a, ns, rfl, _⟩ := h
    rfl
  · obtain ⟨a, ns, rfl, hS, hl, q, qb⟩ := h
    refine ⟨_, (pss_cons (ps_expr (pe_callP c_check_bytes hr (passes_call (takes_of rfl rfl rfl rfl) (fun _ _ _ _ h => h)) (by rfl) (pa_cons (pv 0) pa_nil)))
 (pss_cons (ps_set (i := 1) sc.nd rfl (.inl rfl) (pe_lst pa_nil))
 (pss_cons (ps_for (passes_of rfl) rfl (pi_listK K rfl (pv 0)) (pg_name (i := 2) sc.nd rfl (.inl rfl))
  (pss_one (ps_expr (pe_bmK K rfl PySem.F.plainAttrs_list PySem.F.slot_list_extend PySem.F.type_list_extend mt_extend (pv 1) (pa_cons (pe_callP c_number_bits hr (passes_call (takes_of rfl rfl rfl rfl) (fun _ _ _ _ h => h)) (by rfl) (pa_cons (pv 2) (pa_cons (pe_glob (v := .int 8) (by rfl) g_BYTE_BITS ⟨_, rfl⟩) pa_nil))) pa_nil)))))
 (pss_one (ps_ret (pv 1)))))), ?_⟩
    refine ⟨_, rfl, a, ns, rfl, hS, by omega, fun hB H1 s1 => ?_, qb⟩
    refine ⟨Nat.zero_le _, fun o no => ?_⟩
    have n0 : H o = none := s1.free no
    have s2 := s1.trans (same_upd (o := .lst []) no)
    refine ⟨_, rfl, a, rfl, ⟨_, s2.seq hS⟩, for_list (K := K) (a := a) (xs := ns.map V.int) (fun i σ H' => ∃ y2, σ = [some (.ref a), some (.ref o), y2] ∧ Same H H' ∧ H' o = some (.lst ((bb (ns.take i)).map V.int))) ⟨none, rfl, s2, upd_same⟩ (fun i σ H' _ h => ?_) ?_ ?_⟩
    · obtain ⟨_, _, sm, _⟩ := h
      exact sm.seq hS
    · rintro i x σ H' hx ⟨y2, rfl, sm, eo⟩
      obtain ⟨z, hz, rfl⟩ := getI hx
      have hil : i < ns.length := (List.getElem?_eq_some_iff.mp hz).1
      have zb := hB z (List.mem_of_getElem? hz)
      refine ⟨_, rfl, .inl ⟨rfl, _, SqL.of eo⟩, _, rfl, z, 8, rfl, (fun m em hm0 h0 h1 H3 p3 s3 n3 e3 => ?_), (fun bad => by
        have h1 := zb.1
        have h2 := zb.2
        rcases bad with h | h | h | h
        · exact absurd h (by decide)
        · exact absurd h (by decide)
        · omega
        · have : (2 : Int) ^ (8 : Int).toNat = 256 := rfl
          omega)⟩
      obtain rfl : m = 8 := by omega
      refine ⟨o, p3, _, _, rfl, rfl, s3 _ _ eo, e3, ?_, ?_⟩
      · rw [List.length_map, List.length_map, bb_len, wr_len, List.length_take]
        exact sz4 (by omega)
      · rw [← List.map_append]
        refine ⟨_, rfl, same_mut (sm.trans s3) n0, ?_⟩
        rw [upd_same, take_more hz, bb_app]
        rw [show bb [z] = wr 8 z from List.append_nil _]
    · rintro σ H' ⟨y2, rfl, sm, eo⟩
      rw [List.length_map, List.take_length] at eo
      exact ⟨_, rfl, q hB H' o sm n0 eo⟩
/-! ### packing: the mathematics and the promises -/
def nb (n : Nat) (ns : List Int) : List Int := (ns.map (wr n)).flatten
theorem nb8 (ns : List Int) : nb 8 ns = bb ns := rfl
theorem nb_cons (n : Nat) (z : Int) (r : List Int) : nb n (z :: r) = wr n z ++ nb n r := rfl
theorem nb_app (n : Nat) (a c : List Int) : nb n (a ++ c) = nb n a ++ nb n c := by
  unfold nb
  rw [List.map_append, List.flatten_append]
theorem nb_len (n : Nat) : ∀ ns : List Int, (nb n ns).length = n * ns.length
  | [] => rfl
  | z :: r => by
    rw [nb_cons, List.length_append, wr_len, nb_len n r, List.length_cons, Nat.mul_add]
    omega
theorem nb_bits (n : Nat) : ∀ ns : List Int, Bits (nb n ns)
  | [] => bits_nil
  | z :: r => by
    rw [nb_cons]
    exact bits_app (wr_bits n z) (nb_bits n r)
theorem byN_nb {n : Nat} (b : Int) : ∀ {ns : List Int}, (∀ z ∈ ns, 0 ≤ z ∧ z < 2 ^ n) → byN n (b :: nb n ns) ns.length = ns
  | [], _ => rfl
  | z :: r, h => by
    have ih := byN_nb b (ns := r) (fun y hy => h y (.tail _ hy))
    unfold byN at ih ⊢
    rw [List.length_cons, List.range_succ_eq_map, List.map_cons, List.map_map]
    have hz := h z (.head _)
    have e0 : bn (((b :: nb n (z :: r)).drop (1 + n * 0)).take n) = z := by
      rw [nb_cons, Nat.mul_zero]
      show bn ((wr n z ++ nb n r).take n) = z
      rw [List.take_append_of_le_length (by rw [wr_len]; exact Nat.le_refl _), List.take_of_length_le (by rw [wr_len]; exact Nat.le_refl _)]
      exact bn_wr hz.1 hz.2
    rw [e0]
    congr 1
    refine (List.map_congr_left (fun i _ => ?_)).trans ih
    show bn (((b :: (wr n z ++ nb n r)).drop (1 + n * (i + 1))).take n) = bn (((b :: nb n r).drop (1 + n * i)).take n)
    rw [Nat.add_comm 1, List.drop_succ_cons, Nat.add_comm 1, List.drop_succ_cons, Nat.mul_add, Nat.mul_one, Nat.add_comm (n * i) n, ← List.drop_drop, List.drop_left' (wr_len n z)]
def bkPack (ws : Wds) (row : List Int) : List Int := if 8 * row.length ≤ 9 * (bkShort ws row).1.length then 0 :: bb row else 1 :: nb 9 (bkShort ws row).1
inductive UnO
  | ok (row : List Int) (ws : Wds)
  | frame (n : Nat)
  | long
  | code (i : Nat)
def bkUn1 (ws : Wds) (cs : List Int) : UnO := match bkLong ws cs with
  | .inl i => .code i
  | .inr p => .ok p.1 p.2
def bkUnpack (ws : Wds) : List Int → UnO
  | [] => .frame 0
  | b :: r => if b = 1 then (if r.length % 9 ≠ 0 then .frame (r.length + 1) else bkUn1 ws (byN 9 (b :: r) (r.length / 9)))
    else if r.length % 8 ≠ 0 then .frame (r.length + 1) else if 60 < r.length / 8 then .long else .ok (byN 8 (b :: r) (r.length / 8)) (bkShort ws (byN 8 (b :: r) (r.length / 8))).2
theorem bkUnpack_cons (ws : Wds) (b : Int) (r : List Int) : bkUnpack ws (b :: r) = if b = 1 then (if r.length % 9 ≠ 0 then .frame (r.length + 1) else bkUn1 ws (byN 9 (b :: r) (r.length / 9)))
    else if r.length % 8 ≠ 0 then .frame (r.length + 1) else if 60 < r.length / 8 then .long else .ok (byN 8 (b :: r) (r.length / 8)) (bkShort ws (byN 8 (b :: r) (r.length / 8))).2 := rfl
theorem bkUnpack_bytes {ws : Wds} {row : List Int} (hb : Bytes row) (hl : row.length ≤ 60) : bkUnpack ws (0 :: bb row) = .ok row (bkShort ws row).2 := by
  have e : byN 8 (0 :: bb row) ((bb row).length / 8) = row := by
    rw [bb_len, Nat.mul_div_cancel_left _ (by decide)]
    exact byN_nb 0 (n := 8) hb
  rw [bkUnpack_cons, if_neg (by decide), e, bb_len, if_neg (by simp), Nat.mul_div_cancel_left _ (by decide), if_neg (by omega)]
theorem bkUnpack_codes {ws : Wds} {cs : List Int} (hc : ∀ c ∈ cs, 0 ≤ c ∧ c < 512) : bkUnpack ws (1 :: nb 9 cs) = bkUn1 ws cs := by
  have e : byN 9 (1 :: nb 9 cs) ((nb 9 cs).length / 9) = cs := by
    rw [nb_len, Nat.mul_div_cancel_left _ (by decide)]
    exact byN_nb 1 (n := 9) hc
  rw [bkUnpack_cons, if_pos rfl, e, nb_len, if_neg (by simp)]
theorem bkUnpack_short {ws : Wds} {row : List Int} (hb : Bytes row) (hl : row.length ≤ 60) : bkUnpack ws (1 :: nb 9 (bkShort ws row).1) = .ok row (bkShort ws row).2 := by
  rw [bkUnpack_codes (fun c hc => by have := bkShort_codes (ws := ws) hb c hc; omega)]
  unfold bkUn1
  rw [bkLong_short hb hl]
theorem bkUnpack_pack {ws : Wds} {row : List Int} (hb : Bytes row) (hl : row.length ≤ 60) : bkUnpack ws (bkPack ws row) = .ok row (bkShort ws row).2 := by
  unfold bkPack
  split
  · exact bkUnpack_bytes hb hl
  · exact bkUnpack_short hb hl
theorem bkPack_bits (ws : Wds) (row : List Int) : Bits (bkPack ws row) := by
  unfold bkPack
  split
  · exact bits_app (bits_one (.inl rfl)) (bb_bits row)
  · exact bits_app (bits_one (.inr rfl)) (nb_bits 9 _)
theorem bkPack_len (ws : Wds) (row : List Int) : (bkPack ws row).length ≤ 8 * row.length + 1 := by
  unfold bkPack
  split
  · rw [List.length_cons, bb_len]
    omega
  · rw [List.length_cons, nb_len]
    omega
theorem byN_bytes {n : Nat} {bs : List Int} {c : Nat} (h : Bits bs) : ∀ z ∈ byN n bs c, 0 ≤ z ∧ z < 2 ^ n := by
  intro z hz
  unfold byN at hz
  obtain ⟨i, _, rfl⟩ := List.mem_map.mp hz
  have hb : Bits ((bs.drop (1 + n * i)).take n) := bits_take (bits_drop h _) _
  have hl : ((bs.drop (1 + n * i)).take n).length ≤ n := by rw [List.length_take]; omega
  generalize (bs.drop (1 + n * i)).take n = l at hb hl
  have key : ∀ (l : List Int) (m : Int) (k : Nat), Bits l → 0 ≤ m → m < 2 ^ k → 0 ≤ l.foldl (fun n b => 2 * n + b) m ∧ l.foldl (fun n b => 2 * n + b) m < 2 ^ (k + l.length) := by
    intro l
    induction l with
    | nil => exact fun m k _ h0 h1 => ⟨h0, h1⟩
    | cons b r ih =>
      intro m k hb h0 h1
      have hbb := bits_cons hb
      have e : (2 : Int) ^ (k + 1) = 2 * 2 ^ k := by rw [Int.pow_succ, Int.mul_comm]
      have := ih (2 * m + b) (k + 1) hbb.2 (by rcases hbb.1 with rfl | rfl <;> omega) (by rcases hbb.1 with rfl | rfl <;> omega)
      rw [List.length_cons, show k + (r.length + 1) = k + 1 + r.length by omega]
      exact this
  have := key l 0 0 hb (by decide) (by decide)
  have e : (2 : Int) ^ (0 + l.length) ≤ 2 ^ n := by
    have : (2 : Nat) ^ (0 + l.length) ≤ 2 ^ n := Nat.pow_le_pow_right (by decide) (by omega)
    exact_mod_cast this
  unfold bn
  omega
theorem byN_len (n : Nat) (bs : List Int) (c : Nat) : (byN n bs c).length = c := by
  unfold byN
  rw [List.length_map, List.length_range]
theorem w61_unpack {ws : Wds} {bs row : List Int} {ws' : Wds} (h : W61 ws) (e : bkUnpack ws bs = .ok row ws') : W61 ws' := by
  cases bs with
  | nil => cases e
  | cons b r =>
    rw [bkUnpack_cons] at e
    split at e
    · split at e
      · cases e
      · unfold bkUn1 at e
        split at e
        · cases e
        · rename_i p ep
          obtain ⟨row', ws''⟩ := p
          cases e
          exact w61_len _ _ _ _ _ _ _ (Nat.zero_le _) (w61_begun h) ep
    · split at e
      · cases e
      · split at e
        · cases e
        · rename_i h1 h2 h3
          cases e
          exact w61_short h (by rw [byN_len]; omega)
def spPack (K : PySem.W.Frag) (C cY cL : Addr) : Sp := fun vs H Q E => ∃ (r l a : Addr) (P : List WP) (ns : List Int), vs = [.ref r, .ref a] ∧ Bk C r l P H ∧ TF K (knW P) H ∧ W61 (wsOf P) ∧ SqL K H a (ns.map V.int) ∧ ns.length ≤ 10000 ∧
  (Bytes ns → ns.length ≤ 60 → ∀ (H' : Hp) (l' o : Addr) (P' : List WP), MvF [r] H H' → H l' = none → H o = none → o ≠ l' → Bk C r l' P' H' → TF K (knW P') H' → wsOf P' = (bkShort (wsOf P) ns).2 → H' o = some (.lst ((bkPack (wsOf P) ns).map V.int)) → Q (.ref o) H') ∧
  (Bytes ns → 60 < ns.length → ∀ H' d, Same H H' → H d = none → H' d = some (.xd [(("most" : Str), .int 60), (("word" : Str), .str "TooLong")]) → E (.ref cL) (some d) H') ∧
  (∀ (i : Nat) (z : Int), ns[i]? = some z → ¬ isY z → Bytes (ns.take i) → ∀ H' d, Same H H' → H d = none → H' d = some (.xd [(("at" : Str), .int (i : Int)), (("word" : Str), .str "BadByte")]) → E (.ref cY) (some d) H')
def spUnpack (K : PySem.W.Frag) (C cB cF cL cC : Addr) : Sp := fun vs H Q E => ∃ (r l a : Addr) (P : List WP) (bs : List Int), vs = [.ref r, .ref a] ∧ Bk C r l P H ∧ TF K (knW P) H ∧ W61 (wsOf P) ∧ SqL K H a (bs.map V.int) ∧ bs.length ≤ 10000 ∧
  (Bits bs → ∀ row ws', bkUnpack (wsOf P) bs = .ok row ws' → ∀ (H' : Hp) (l' o : Addr) (P' : List WP), MvF [r] H H' → H l' = none → H o = none → o ≠ l' → Bk C r l' P' H' → TF K (knW P') H' → wsOf P' = ws' → H' o = some (.lst (row.map V.int)) → Q (.ref o) H') ∧
  (Bits bs → ∀ n, bkUnpack (wsOf P) bs = .frame n → ∀ H' d, Same H H' → H d = none → H' d = some (.xd [(("at" : Str), .int (n : Int)), (("word" : Str), .str "BadFrame")]) → E (.ref cF) (some d) H') ∧
  (Bits bs → bkUnpack (wsOf P) bs = .long → ∀ H' d, Same H H' → H d = none → H' d = some (.xd [(("most" : Str), .int 60), (("word" : Str), .str "TooLong")]) → E (.ref cL) (some d) H') ∧
  (Bits bs → ∀ i : Nat, bkUnpack (wsOf P) bs = .code i → ∀ H' d, Same H H' → H d = none → H' d = some (.xd [(("at" : Str), .int (i : Int)), (("word" : Str), .str "BadCode")]) → E (.ref cC) (some d) H') ∧
  (∀ (i : Nat) (z : Int), bs[i]? = some z → ¬ isB z → Bits (bs.take i) → ∀ H' d, Same H H' → H d = none → H' d = some (.xd [(("at" : Str), .int (i : Int)), (("word" : Str), .str "BadBit")]) → E (.ref cB) (some d) H')
theorem sc_Book_pack : FnScope ["self", "row", "codes", "bits", "code"] ["self", "row"] (defScope m_Book_pack) := ⟨rfl, rfl, rfl, by decide +kernel, rfl, by decide +kernel, by decide +kernel⟩
theorem ok_Book_pack {f C cY cL cN : Addr} {fd : FuncData} {k : Nat} {t9 t8 : Tok} (F : Fun K "pack" "Book.pack" m_Book_pack f fd) (R : BkC K C) (n_len : mg "len" = none) (g_CODE_BITS : mg "CODE_BITS" = some (.int 9 t9)) (g_BYTE_BITS : mg "BYTE_BITS" = some (.int 8 t8)) (c_bits_of : CalX P w K mg base k "bits_of" ["row"] (spBits8 K cY)) (c_number_bits : CalX P w K mg base k "number_bits" ["number", "many"] (spNbX cN)) (c_Book_shorten : CalM (L2.CX P w) P w K mg base k C "shorten" ["self", "row"] (spShort K C cY cL)) :
    FnOk P w K mg base (L2.CX P w) (k + 1) f fd ["self", "row"] (spPack K C cY cL) := by
  have sc := sc_Book_pack
  refine F.okX sc (fun vs H Q E h => ?_) (fun cdv A outer s H vs Q E hr h => ?_)
  · obtain ⟨r, l, a, P, ns, rfl, _⟩ := h
    rfl
  · obtain ⟨r, l, a, P, ns, rfl, hbk, ht, h61, hS, hl, q, ql, qy⟩ := h
    refine ⟨_, (pss_cons (ps_set (i := 2) sc.nd rfl (.inl rfl) (pe_methP (pv 0) c_Book_shorten hr (passes_call (takes_of rfl rfl rfl rfl) (fun _ _ _ _ h => h)) (pa_cons (pv 1) pa_nil)))
 (pss_cons (ps_if (pt_cmpR op_ge (pe_op op_mul (pe_glob (v := .int 9) (by rfl) g_CODE_BITS ⟨_, rfl⟩) (pe_callB (call_lenK K rfl) (by rfl) n_len PySem.boot_len (pa_cons (pv 2) pa_nil))) (pe_op op_mul (pe_glob (v := .int 8) (by rfl) g_BYTE_BITS ⟨_, rfl⟩) (pe_callB (call_lenK K rfl) (by rfl) n_len PySem.boot_len (pa_cons (pv 1) pa_nil))) (nomark _))
  (pss_one (ps_ret (pe_op op_cat (pe_lst (pa_cons pe_int pa_nil)) (pe_callP c_bits_of hr (passes_call (takes_of rfl rfl rfl rfl) (fun _ _ _ _ h => h)) (by rfl) (pa_cons (pv 1) pa_nil)))))
  pss_nil)
 (pss_cons (ps_set (i := 3) sc.nd rfl (.inl rfl) (pe_lst (pa_cons pe_int pa_nil)))
 (pss_cons (ps_for (passes_of rfl) rfl (pi_listK K rfl (pv 2)) (pg_name (i := 4) sc.nd rfl (.inl rfl))
  (pss_one (ps_expr (pe_bmK K rfl PySem.F.plainAttrs_list PySem.F.slot_list_extend PySem.F.type_list_extend mt_extend (pv 3) (pa_cons (pe_callP c_number_bits hr (passes_call (takes_of rfl rfl rfl rfl) (fun _ _ _ _ h => h)) (by rfl) (pa_cons (pv 4) (pa_cons (pe_glob (v := .int 9) (by rfl) g_CODE_BITS ⟨_, rfl⟩) pa_nil))) pa_nil)))))
 (pss_one (ps_ret (pv 3))))))), ?_⟩
    obtain ⟨⟨dx, hins⟩, hmem⟩ := id hbk
    refine ⟨_, rfl, r, dx, _, rfl, hins, rfl, _, rfl, r, l, a, P, ns, rfl, hbk, ht, h61, hS, hl, (fun hB h60 H1 l' oc P' m1 nl' noc nol bk1 ht1 e1 ec1 => ?_), ql, qy⟩
    have q := q hB h60
    clear ql qy
    have hS1 : SqL K H1 a (ns.map V.int) := sqL_mvI m1 hins hS
    have hcl : (bkShort (wsOf P) ns).1.length ≤ 60 := by have := bkShort_len (wsOf P) ns; omega
    refine name_by ?_
    dsimp only
    refine ⟨_, rfl, oc, _, rfl, .inl (SqL.of ec1), _, _, rfl, rfl, .inl ⟨by decide, by decide⟩, _, rfl, a, _, rfl, .inl hS1, _, _, rfl, rfl, .inl ⟨by decide, by decide⟩, _, _, rfl, rfl, _, rfl, ite2 (fun e => ?_) (fun e => ?_)⟩
    · have e : 8 * ns.length ≤ 9 * (bkShort (wsOf P) ns).1.length := by
        have := of_decide_eq_true e
        rw [List.length_map, List.length_map] at this
        omega
      have ep : bkPack (wsOf P) ns = 0 :: bb ns := if_pos e
      rw [ep] at q
      refine ⟨(by show 1 ≤ sizeLine; decide), fun p2 n2 => ?_⟩
      have s2 := same_upd (o := .lst [.int 0]) n2
      refine ⟨_, rfl, a, ns, rfl, s2.seq hS1, by omega, (fun _ H3 p3 s3 n3 e3 => ?_), (fun i z hz nz => absurd (hB z (List.mem_of_getElem? hz)) nz)⟩
      refine ⟨p2, p3, _, _, rfl, rfl, s3 _ _ upd_same, e3, ?_, fun p4 n4 => ?_⟩
      · rw [List.length_map, bb_len]
        exact sz4 (by show 1 + 8 * ns.length ≤ 100000; omega)
      have s4 := (s2.trans s3).trans (same_upd (o := .lst ([V.int 0] ++ (bb ns).map V.int)) n4)
      have n4' : H1 p4 = none := (s2.trans s3).free n4
      refine q _ l' p4 P' (m1.same s4) nl' (m1.free n4') (ne_of_none bk1.mem n4').symm (bk1.same s4) (ht1.same s4) e1 ?_
      rw [upd_same]
      rfl
    · have e : ¬ 8 * ns.length ≤ 9 * (bkShort (wsOf P) ns).1.length := fun z => e (decide_eq_true (by rw [List.length_map, List.length_map]; omega))
      have ep : bkPack (wsOf P) ns = 1 :: nb 9 (bkShort (wsOf P) ns).1 := if_neg e
      rw [ep] at q
      have hcd := bkShort_codes (ws := wsOf P) hB
      generalize (bkShort (wsOf P) ns).1 = cs at *
      refine ⟨(by show 1 ≤ sizeLine; decide), fun p2 n2 => ?_⟩
      have s2 := same_upd (o := .lst [.int 1]) n2
      refine name_by ?_
      dsimp only
      refine ⟨_, rfl, oc, rfl, ⟨_, SqL.of (s2 _ _ ec1)⟩, for_list (K := K) (a := oc) (xs := cs.map V.int) (fun i σ H' => ∃ y4, σ = [some (.ref r), some (.ref a), some (.ref oc), some (.ref p2), y4] ∧ Same H1 H' ∧ H' p2 = some (.lst ((1 :: nb 9 (cs.take i)).map V.int))) ⟨none, rfl, s2, upd_same⟩ (fun i σ H' _ h => ?_) ?_ ?_⟩
      · obtain ⟨_, _, sm, _⟩ := h
        exact SqL.of (sm _ _ ec1)
      · rintro i x σ H3 hx ⟨y4, rfl, s3, e3⟩
        obtain ⟨c, hc, rfl⟩ := getI hx
        have hcc := hcd c (List.mem_of_getElem? hc)
        refine ⟨_, rfl, .inl ⟨rfl, _, SqL.of e3⟩, _, rfl, c, 9, rfl, (fun m em hm0 h0 h1 H4 p4 s4 n4 e4 => ?_), (fun bad => by
          rcases bad with h | h | h | h
          · exact absurd h (by decide)
          · exact absurd h (by decide)
          · omega
          · have : (2 : Int) ^ (9 : Int).toNat = 512 := rfl
            omega)⟩
        obtain rfl : m = 9 := by omega
        refine ⟨p2, p4, _, _, rfl, rfl, s4 _ _ e3, e4, ?_, ?_⟩
        · rw [List.length_map, List.length_map, List.length_cons, nb_len, wr_len, List.length_take]
          exact sz4 (by omega)
        · rw [← List.map_append]
          refine ⟨_, rfl, same_mut (s3.trans s4) n2, ?_⟩
          rw [upd_same, take_more hc, nb_app, show nb 9 [c] = wr 9 c from List.append_nil _, List.cons_append]
      · rintro σ H3 ⟨y4, rfl, s3, e3⟩
        rw [List.length_map, List.take_length] at e3
        exact ⟨_, rfl, q H3 l' p2 P' (m1.same s3) nl' (m1.free n2) (ne_of_none bk1.mem n2).symm (bk1.same s3) (ht1.same s3) e1 e3⟩
theorem sc_Book_unpack : FnScope ["self", "bits", "row"] ["self", "bits"] (defScope m_Book_unpack) := ⟨rfl, rfl, rfl, by decide +kernel, rfl, by decide +kernel, by decide +kernel⟩
theorem ok_Book_unpack {f C cB cF cY cL cC : Addr} {fd : FuncData} {k : Nat} {t9 t8 : Tok} (F : Fun K "unpack" "Book.unpack" m_Book_unpack f fd) (R : BkC K C) (n_len : mg "len" = none) (g_CODE_BITS : mg "CODE_BITS" = some (.int 9 t9)) (g_BYTE_BITS : mg "BYTE_BITS" = some (.int 8 t8)) (x_BadFrame : XcOk P w K mg base k "BadFrame" cF (spIni K cF "BadFrame" "at")) (c_check_bits : CalX P w K mg base (k + 1) "check_bits" ["bits"] (spCheckX K cB))
    (c_numbers_behind_first : CalX P w K mg base (k + 1) "numbers_behind_first" ["bits", "many"] (spNBF K cF)) (c_Book_lengthen : CalM (L2.CX P w) P w K mg base (k + 1) C "lengthen" ["self", "codes"] (spLong K C cC)) (c_Book_shorten : CalM (L2.CX P w) P w K mg base (k + 1) C "shorten" ["self", "row"] (spShort K C cY cL)) :
    FnOk P w K mg base (L2.CX P w) (k + 2) f fd ["self", "bits"] (spUnpack K C cB cF cL cC) := by
  have sc := sc_Book_unpack
  refine F.okX sc (fun vs H Q E h => ?_) (fun cdv A outer s H vs Q E hr h => ?_)
  · obtain ⟨r, l, a, P, bs, rfl, _⟩ := h
    rfl
  · obtain ⟨r, l, a, P, bs, rfl, hbk, ht, h61, hS, hl, q, qf, ql, qc, qb⟩ := h
    refine ⟨_, (pss_cons (ps_expr (pe_callP c_check_bits hr (passes_call (takes_of rfl rfl rfl rfl) (fun _ _ _ _ h => h)) (by rfl) (pa_cons (pv 1) pa_nil)))
 (pss_cons (ps_if (pt_cmpR op_eq (pe_callB (call_lenK K rfl) (by rfl) n_len PySem.boot_len (pa_cons (pv 1) pa_nil)) pe_int (nomark _))
  (pss_one (ps_raise rfl (takes_of rfl rfl rfl rfl) (pmk_c x_BadFrame hr (by rfl) (pa_cons pe_int pa_nil))))
  pss_nil)
 (pss_cons (ps_if (pt_cmpR op_eq (pe_ix (ix_listK K rfl) (pv 1) pe_int (fun _ _ => rfl)) pe_int (nomark _))
  (pss_one (ps_ret (pe_methP (pv 0) c_Book_lengthen hr (passes_call (takes_of rfl rfl rfl rfl) (fun _ _ _ _ h => h)) (pa_cons (pe_callP c_numbers_behind_first hr (passes_call (takes_of rfl rfl rfl rfl) (fun _ _ _ _ h => h)) (by rfl) (pa_cons (pv 1) (pa_cons (pe_glob (v := .int 9) (by rfl) g_CODE_BITS ⟨_, rfl⟩) pa_nil))) pa_nil))))
  pss_nil)
 (pss_cons (ps_set (i := 2) sc.nd rfl (.inl rfl) (pe_callP c_numbers_behind_first hr (passes_call (takes_of rfl rfl rfl rfl) (fun _ _ _ _ h => h)) (by rfl) (pa_cons (pv 1) (pa_cons (pe_glob (v := .int 8) (by rfl) g_BYTE_BITS ⟨_, rfl⟩) pa_nil))))
 (pss_cons (ps_expr (pe_methP (pv 0) c_Book_shorten hr (passes_call (takes_of rfl rfl rfl rfl) (fun _ _ _ _ h => h)) (pa_cons (pv 2) pa_nil)))
 (pss_one (ps_ret (pv 2)))))))), ?_⟩
    refine ⟨_, rfl, a, bs, rfl, hS, by omega, fun hB H1 s1 => ?_, qb⟩
    have q := q hB
    have qf := qf hB
    have ql := ql hB
    have qc := qc hB
    clear qb
    have hS1 := s1.seq hS
    refine ⟨_, rfl, a, _, rfl, .inl hS1, rfl, _, rfl, ite2 (fun e => ?_) (fun e => ?_)⟩
    · have e : bs = [] := by
        have := of_decide_eq_true e
        rw [List.length_map] at this
        exact List.eq_nil_of_length_eq_zero (by have := V.int.inj this; omega)
      subst e
      exact mk_inner (i := 0) (log_le (n := 0) (by decide)) (fun H3 d s3 nd ed => qf 0 rfl H3 d (s1.trans s3) (s1.free nd) ed)
    cases bs with
    | nil => exact absurd (decide_eq_true rfl) e
    | cons b rs =>
      have hll : (b :: rs).length = rs.length + 1 := rfl
      have bk1 := hbk.same s1
      have ht1 := ht.same s1
      obtain ⟨⟨dx, hins⟩, hmem⟩ := id bk1
      clear e
      refine ⟨_, rfl, a, _, 0, .int b, rfl, rfl, hS1, atI_nat (j := 0) rfl, rfl, _, rfl, ite2 (fun e => ?_) (fun e => ?_)⟩
      · have e : b = 1 := V.int.inj (of_decide_eq_true e)
        have eu : bkUnpack (wsOf P) (b :: rs) = if rs.length % 9 ≠ 0 then .frame (rs.length + 1) else bkUn1 (wsOf P) (byN 9 (b :: rs) (rs.length / 9)) := by
          rw [bkUnpack_cons, if_pos e]
        refine ⟨_, rfl, r, dx, _, rfl, hins, rfl, _, rfl, a, b :: rs, 9, rfl, hS1, hB, by omega, hl, by decide, by decide, (fun c hc H2 p2 s2 n2 e2 => ?_), (fun ne H2 d s2 nd ed => ?_)⟩
        · have hc9 : rs.length = 9 * c := by omega
          rw [if_neg (by omega), show rs.length / 9 = c by omega] at eu
          unfold bkUn1 at eu
          have bk2 := bk1.same s2
          refine ⟨r, l, p2, P, byN 9 (b :: rs) c, rfl, bk2, ht1.same s2, h61, SqL.of e2, (by rw [byN_len]; omega), (fun row ws' ew H3 l' o P' m3 nl' no nol bk3 ht3 e3 eo => ?_), (fun i ei H3 d s3 nd ed => ?_)⟩
          · rw [ew] at eu
            have s12 := s1.trans s2
            refine q row ws' eu H3 l' o P' ((MvF.of s12).trans m3) (s12.free nl') (s12.free no) nol bk3 ht3 e3 eo
          · rw [ei] at eu
            exact qc i eu H3 d ((s1.trans s2).trans s3) ((s1.trans s2).free nd) ed
        · have ne' : rs.length % 9 ≠ 0 := by
            rw [hll, Nat.add_sub_cancel] at ne
            exact ne
          rw [if_pos ne'] at eu
          exact qf (rs.length + 1) eu H2 d (s1.trans s2) (s1.free nd) ed
      · have e : ¬ b = 1 := fun z => e (decide_eq_true (by rw [z]))
        have eu : bkUnpack (wsOf P) (b :: rs) = if rs.length % 8 ≠ 0 then .frame (rs.length + 1) else if 60 < rs.length / 8 then .long else .ok (byN 8 (b :: rs) (rs.length / 8)) (bkShort (wsOf P) (byN 8 (b :: rs) (rs.length / 8))).2 := by
          rw [bkUnpack_cons, if_neg e]
        refine ⟨_, rfl, a, b :: rs, 8, rfl, hS1, hB, by omega, hl, by decide, by decide, (fun c hc H2 p2 s2 n2 e2 => ?_), (fun ne H2 d s2 nd ed => ?_)⟩
        · have hc8 : rs.length = 8 * c := by omega
          rw [if_neg (by omega), show rs.length / 8 = c by omega] at eu
          have hby : Bytes (byN 8 (b :: rs) c) := byN_bytes (n := 8) hB
          have s12 := s1.trans s2
          have bk2 := bk1.same s2
          refine name_by ?_
          dsimp only
          refine ⟨_, rfl, r, dx, _, rfl, s2 _ _ hins, rfl, _, rfl, r, l, p2, P, byN 8 (b :: rs) c, rfl, bk2, ht1.same s2, h61, SqL.of e2, (by rw [byN_len]; omega), (fun _ h60 H3 l' o P' m3 nl' no nol bk3 ht3 e3 eo => ?_), (fun _ h60 H3 d s3 nd ed => ?_), (fun i z hz nz => absurd (hby z (List.mem_of_getElem? hz)) nz)⟩
          · rw [byN_len] at h60
            rw [if_neg (by omega)] at eu
            have e2' : H3 p2 = some (.lst ((byN 8 (b :: rs) c).map V.int)) := m3.kp _ _ (fun z => by
              rw [in1 z, s2 _ _ hins] at e2
              cases e2) e2
            refine ⟨_, rfl, q _ _ eu H3 l' p2 P' ((MvF.of s12).trans m3) (s12.free nl') (s1.free n2) (ne_of_none e2 nl') bk3 ht3 e3 e2'⟩
          · rw [byN_len] at h60
            rw [if_pos h60] at eu
            exact ql eu H3 d (s12.trans s3) (s12.free nd) ed
        · have ne' : rs.length % 8 ≠ 0 := by
            rw [hll, Nat.add_sub_cancel] at ne
            exact ne
          rw [if_pos ne'] at eu
          exact qf (rs.length + 1) eu H2 d (s1.trans s2) (s1.free nd) ed
theorem sc__law_bag : FnScope ["_law_script"] ["_law_script"] (defScope s__law_bag) := ⟨rfl, rfl, rfl, by decide +kernel, rfl, by decide +kernel, by decide +kernel⟩
theorem ok__law_bag {f : Addr} {fd : FuncData} {k : Nat} (F : Fun K "_law_bag" "_law_bag" s__law_bag f fd) (n_len : mg "len" = none) (n_list : mg "list" = none) : FnOk P w K mg base CX0 (k + 1) f fd ["_law_script"] (spBag K) := by
  have sc := sc__law_bag
  refine F.ok sc (fun vs H Q E h => ?_) (fun cdv A outer s H vs Q E hr h => ?_)
  · obtain ⟨a, ns, rfl, _⟩ := h
    rfl
  · obtain ⟨a, ns, rfl, hS, q⟩ := h
    refine ⟨_, (pss_one (ps_ret (pe_lst (pa_cons (pe_callTy (call_listK K rfl) (by rfl) n_list (by decide +kernel) (pa_cons (pe_slice (sl_listK K rfl) (pv 0) po_none (po_some pe_int)) pa_nil)) (pa_cons pe_int (pa_cons pe_int (pa_cons (pe_op op_add pe_int (pe_callB (call_lenK K rfl) (by rfl) n_len PySem.boot_len (pa_cons (pe_slice (sl_listK K rfl) (pv 0) po_none (po_some pe_int)) pa_nil))) (pa_cons pe_int pa_nil)))))))), ?_⟩
    refine ⟨_, rfl, 63, rfl, a, _, rfl, hS, fun p1 n1 => ?_⟩
    refine ⟨p1, _, rfl, .inl (SqL.of upd_same), fun p2 n2 => ?_⟩
    have s1 : Same H (upd H p1 (.lst (cutV (ns.map V.int) none (some 63)))) := same_upd n1
    have s2 := s1.trans (same_upd (o := .lst (cutV (ns.map V.int) none (some 63))) n2)
    refine ⟨_, rfl, 63, rfl, a, _, rfl, s2.seq hS, fun p3 n3 => ?_⟩
    have s3 := s2.trans (same_upd (o := .lst (cutV (ns.map V.int) none (some 63))) n3)
    refine ⟨p3, _, rfl, .inl (SqL.of upd_same), _, _, rfl, rfl, (by show 5 ≤ sizeLine; decide), fun p4 n4 => ?_⟩
    have s4 := s3.trans (same_upd (o := .lst (bagL p2 0 0 (977 + ((cutV (ns.map V.int) none (some 63)).length : Int)) 0)) n4)
    have e0 : cutV (ns.map V.int) none (some 63) = (ns.take 63).map V.int := by
      unfold cutV
      rw [HT.sIx_none, show HT.sIx (ns.map V.int).length (ns.map V.int).length (some 63) = min 63 (ns.map V.int).length from HT.sIx_nat _ _ 63]
      simp only [List.drop_zero, Nat.sub_zero, List.length_map, List.map_take]
      by_cases h : ns.length ≤ 63
      · rw [Nat.min_eq_right h, List.take_of_length_le (by simp), List.take_of_length_le (by simpa using h)]
      · rw [Nat.min_eq_left (by omega)]
    have n42 : p4 ≠ p2 := fun z => by
      rw [z, upd_ne (ne_of_none upd_same n3), upd_same] at n4
      cases n4
    refine q _ (p4, p2) s4 (s3.free n4) ⟨ns.take 63, 0, 0, _, 0, upd_same, ?_, n42.symm, by omega, ?_, ?_⟩
    · rw [upd_ne n42.symm, upd_ne (ne_of_none upd_same n3), upd_same, e0]
    · omega
    · rw [e0, List.length_map, List.length_take]
      omega
theorem sc__law_pick : FnScope ["_law_bag_here", "_law_top", "_law_cell", "_law_digit"] ["_law_bag_here", "_law_top"] (defScope s__law_pick) := ⟨rfl, rfl, rfl, by decide +kernel, rfl, by decide +kernel, by decide +kernel⟩
theorem ok__law_pick {f : Addr} {fd : FuncData} {k : Nat} (F : Fun K "_law_pick" "_law_pick" s__law_pick f fd) (n_len : mg "len" = none) : FnOk P w K mg base CX0 (k + 1) f fd ["_law_bag_here", "_law_top"] spPick := by
  have sc := sc__law_pick
  refine F.ok sc (fun vs H Q E h => ?_) (fun cdv A outer s H vs Q E hr h => ?_)
  · obtain ⟨b, top, rfl, _⟩ := h
    rfl
  · obtain ⟨⟨b, sa⟩, top, rfl, ⟨ns, i, r, x, c, hb, hs, hne, hi, hx0, hx1⟩, ht0, ht1, q⟩ := h
    refine ⟨_, (pss_cons (ps_if (PW.pt (pw_and (pt_cmpR op_lt (pe_ix (ix_listK K rfl) (pv 0) pe_int (fun _ _ => rfl)) (pv 1) (nomark _)) (pw_and1 (pt_cmpR op_lt (pe_ix (ix_listK K rfl) (pv 0) pe_int (fun _ _ => rfl)) (pe_callB (call_lenK K rfl) (by rfl) n_len PySem.boot_len (pa_cons (pe_ix (ix_listK K rfl) (pv 0) pe_int (fun _ _ => rfl)) pa_nil)) (nomark _)))))
  (pss_cons (ps_set (i := 2) sc.nd rfl (.inl rfl) (pe_ix (ix_listK K rfl) (pe_ix (ix_listK K rfl) (pv 0) pe_int (fun _ _ => rfl)) (pe_ix (ix_listK K rfl) (pv 0) pe_int (fun _ _ => rfl)) (fun _ _ => rfl)))
 (pss_cons (ps_asg (pe_op op_add (pe_ix (ix_listK K rfl) (pv 0) pe_int (fun _ _ => rfl)) pe_int) (pg_sub (pv 0) pe_int set_list))
 (pss_cons (ps_asg (pe_op op_mod (pe_op op_add (pe_op op_add (pe_op op_mul (pe_ix (ix_listK K rfl) (pv 0) pe_int (fun _ _ => rfl)) pe_int) (pv 2)) (pe_ix (ix_listK K rfl) (pv 0) pe_int (fun _ _ => rfl))) pe_int) (pg_sub (pv 0) pe_int set_list))
 (pss_one (ps_asg (pe_ifExp (pt_cmpR op_ge (pv 2) (pe_op op_pow pe_int pe_int) (nomark _)) (pv 2) pe_int) (pg_sub (pv 0) pe_int set_list))))))
  pss_nil)
 (pss_cons (ps_if (pt_cmpR op_ge (pe_ix (ix_listK K rfl) (pv 0) pe_int (fun _ _ => rfl)) (pv 1) (nomark _))
  (pss_cons (ps_set (i := 3) sc.nd rfl (.inl rfl) (pe_op op_mod (pe_ix (ix_listK K rfl) (pv 0) pe_int (fun _ _ => rfl)) (pv 1)))
 (pss_cons (ps_asg (pe_op op_fdiv (pe_ix (ix_listK K rfl) (pv 0) pe_int (fun _ _ => rfl)) (pv 1)) (pg_sub (pv 0) pe_int set_list))
 (pss_one (ps_ret (pv 3)))))
  pss_nil)
 (pss_cons (ps_asg (pe_op op_add (pe_ix (ix_listK K rfl) (pv 0) pe_int (fun _ _ => rfl)) pe_int) (pg_sub (pv 0) pe_int set_list))
 (pss_cons (ps_asg (pe_op op_mod (pe_op op_add (pe_op op_add (pe_op op_add (pe_op op_pow (pe_ix (ix_listK K rfl) (pv 0) pe_int (fun _ _ => rfl)) pe_int) (pe_op op_mul pe_int (pe_ix (ix_listK K rfl) (pv 0) pe_int (fun _ _ => rfl)))) (pe_op op_fdiv (pe_ix (ix_listK K rfl) (pv 0) pe_int (fun _ _ => rfl)) pe_int)) pe_int) pe_int) (pg_sub (pv 0) pe_int set_list))
 (pss_one (ps_ret (pe_op op_mod (pe_op op_fdiv (pe_ix (ix_listK K rfl) (pv 0) pe_int (fun _ _ => rfl)) pe_int) (pv 1)))))))), ?_⟩
    refine seq_by (J := fun σ1 H1 => ∃ (y2 : Option V) (i r x c : Int), σ1 = [some (.ref b), some (.int top), y2, none] ∧ H1 b = some (.lst (bagL sa i r x c)) ∧ H1 sa = some (.lst (ns.map V.int)) ∧ Mv b H H1 ∧ 0 ≤ i ∧ 0 ≤ x ∧ x < 2147483648) ?_ (fun rest => ?_)
    · rintro σ1 H1 ⟨y2, i, r, x, c, rfl, hb, hs, mv, hi, hx0, hx1⟩
      refine ⟨_, rfl, b, _, 2, .int r, rfl, rfl, SqL.of hb, rfl, _, rfl, r, top, rfl, rfl, _, rfl, ite2 (fun e => ?_) (fun e => ?_)⟩
      · refine ⟨_, rfl, b, _, 2, .int r, rfl, rfl, SqL.of hb, rfl, _, rfl, r, top, rfl, rfl, ht0, ?_⟩
        refine ⟨_, rfl, b, _, 2, .int r, rfl, rfl, SqL.of hb, rfl, _, rfl, r, top, rfl, rfl, ⟨ht0, ht1⟩, ?_⟩
        refine ⟨_, rfl, b, _, 2, 2, rfl, rfl, hb, rfl, ?_⟩
        refine ⟨_, rfl, ?_⟩
        refine q _ _ mv.upd ⟨ns, i, _, x, c, upd_same, ?_, hne, hi, hx0, hx1⟩ (Int.emod_nonneg _ (by omega)) (Int.emod_lt_of_pos _ ht0)
        rw [upd_ne hne]
        exact hs
      · refine ⟨_, rfl, b, _, 4, .int c, rfl, rfl, SqL.of hb, rfl, c, 1, rfl, rfl, _, rfl, b, _, 4, 4, rfl, rfl, hb, rfl, ?_⟩
        have hb2 : upd H1 b (.lst (bagL sa i r x (c + 1))) b = some (.lst (bagL sa i r x (c + 1))) := upd_same
        refine ⟨_, rfl, b, _, 3, .int x, rfl, rfl, SqL.of hb2, rfl, x, 3, rfl, rfl, ⟨by decide, by decide, by omega⟩, ?_⟩
        refine ⟨_, rfl, b, _, 4, .int (c + 1), rfl, rfl, SqL.of hb2, rfl, 40503, c + 1, rfl, rfl, .inl ⟨by decide, by decide⟩, _, _, rfl, rfl, ?_⟩
        refine ⟨_, rfl, b, _, 3, .int x, rfl, rfl, SqL.of hb2, rfl, x, 65537, rfl, rfl, ⟨by decide, by decide⟩, _, _, rfl, rfl, _, _, rfl, rfl, _, _, rfl, rfl, (by show (0 : Int) < 2147483629; decide), ?_⟩
        refine ⟨_, rfl, b, _, 3, 3, rfl, rfl, hb2, rfl, ?_⟩
        rw [upd_upd]
        obtain ⟨z, hz⟩ : ∃ z, (x ^ Int.toNat 3 + 40503 * (c + 1) + x / 65537 + 11) % 2147483629 = z := ⟨_, rfl⟩
        have ez : (bagL sa i r x (c + 1)).set 3 ((fun i j => V.int (i % j)) (x ^ Int.toNat 3 + 40503 * (c + 1) + x / 65537 + 11) 2147483629) = bagL sa i r z (c + 1) := by rw [← hz]; rfl
        rw [ez]
        have z0 : 0 ≤ z := by rw [← hz]; exact Int.emod_nonneg _ (by decide)
        have z1 : z < 2147483648 := by
          have : z < 2147483629 := by rw [← hz]; exact Int.emod_lt_of_pos _ (by decide)
          omega
        have hb3 : upd H1 b (.lst (bagL sa i r z (c + 1))) b = some (.lst (bagL sa i r z (c + 1))) := upd_same
        refine ⟨_, rfl, b, _, 3, .int z, rfl, rfl, SqL.of hb3, rfl, z, 16, rfl, rfl, ⟨by decide, by decide⟩, _, rfl, _, top, rfl, rfl, ht0, ?_⟩
        refine q _ _ mv.upd ⟨ns, i, r, z, c + 1, upd_same, ?_, hne, hi, z0, z1⟩ (Int.emod_nonneg _ (by omega)) (Int.emod_lt_of_pos _ ht0)
        rw [upd_ne hne]
        exact hs
    · refine ⟨_, rfl, b, _, 2, .int r, rfl, rfl, SqL.of hb, rfl, _, rfl, r, top, rfl, rfl, _, rfl, ite2 (fun e => ?_) (fun e => ?_)⟩
      · refine ⟨_, rfl, b, _, 1, .int i, rfl, rfl, SqL.of hb, rfl, _, rfl, b, _, 0, .ref sa, rfl, rfl, SqL.of hb, rfl, sa, _, rfl, .inl (SqL.of hs), i, _, rfl, rfl, _, rfl, ite2 (fun e2 => ?_) (fun e2 => ?_)⟩
        · have hlt : i < (ns.length : Int) := by
            have := of_decide_eq_true e2
            rw [List.length_map] at this
            exact this
          obtain ⟨z, hz⟩ : ∃ z, ns[i.toNat]? = some z := ⟨_, List.getElem?_eq_getElem (by omega)⟩
          have hat : atI (ns.map V.int) i = some (.int z) := by
            have := atI_nat (xs := ns.map V.int) (j := i.toNat) (v := .int z) (by rw [List.getElem?_map, hz]; rfl)
            rwa [Int.toNat_of_nonneg hi] at this
          refine ⟨_, rfl, b, _, 0, .ref sa, rfl, rfl, SqL.of hb, rfl, _, rfl, b, _, 1, .int i, rfl, rfl, SqL.of hb, rfl, sa, _, i, _, rfl, rfl, SqL.of hs, hat, ?_⟩
          refine ⟨_, rfl, b, _, 1, .int i, rfl, rfl, SqL.of hb, rfl, i, 1, rfl, rfl, _, rfl, b, _, 1, 1, rfl, rfl, hb, rfl, ?_⟩
          have hb2 : upd H b (.lst (bagL sa (i + 1) r x c)) b = some (.lst (bagL sa (i + 1) r x c)) := upd_same
          refine ⟨_, rfl, b, _, 3, .int x, rfl, rfl, SqL.of hb2, rfl, x, 48271, rfl, rfl, .inr ⟨by decide, by decide⟩, _, rfl, _, z, rfl, rfl, ?_⟩
          refine ⟨_, rfl, b, _, 1, .int (i + 1), rfl, rfl, SqL.of hb2, rfl, _, _, rfl, rfl, _, _, rfl, rfl, (by show (0 : Int) < 2147483629; decide), ?_⟩
          refine ⟨_, rfl, b, _, 3, 3, rfl, rfl, hb2, rfl, ?_⟩
          rw [upd_upd]
          obtain ⟨y, hy⟩ : ∃ y, (x * 48271 + z + (i + 1)) % 2147483629 = y := ⟨_, rfl⟩
          have ey : (bagL sa (i + 1) r x c).set 3 ((fun i j => V.int (i % j)) (x * 48271 + z + (i + 1)) 2147483629) = bagL sa (i + 1) r y c := by rw [← hy]; rfl
          rw [ey]
          have y0 : 0 ≤ y := by rw [← hy]; exact Int.emod_nonneg _ (by decide)
          have y1 : y < 2147483648 := by
            have : y < 2147483629 := by rw [← hy]; exact Int.emod_lt_of_pos _ (by decide)
            omega
          have hb3 : upd H b (.lst (bagL sa (i + 1) r y c)) b = some (.lst (bagL sa (i + 1) r y c)) := upd_same
          have hne2 : ∀ o : HO, upd H b o sa = some (.lst (ns.map V.int)) := fun o => by
            rw [upd_ne hne]
            exact hs
          refine ⟨_, rfl, 10, 18, rfl, rfl, ⟨by decide, by decide, by decide⟩, z, _, rfl, rfl, _, rfl, ite2 (fun e3 => ?_) (fun e3 => ?_)⟩
          · refine ⟨_, rfl, _, rfl, b, _, 2, 2, rfl, rfl, hb3, rfl, ?_⟩
            rw [upd_upd]
            exact rest _ _ ⟨some (.int z), i + 1, z, y, c, rfl, upd_same, hne2 _, (Mv.refl _ _).upd, by omega, y0, y1⟩
          · refine ⟨_, rfl, b, _, 2, 2, rfl, rfl, hb3, rfl, ?_⟩
            rw [upd_upd]
            exact rest _ _ ⟨some (.int z), i + 1, 0, y, c, rfl, upd_same, hne2 _, (Mv.refl _ _).upd, by omega, y0, y1⟩
        · exact rest _ _ ⟨none, i, r, x, c, rfl, hb, hs, Mv.refl _ _, hi, hx0, hx1⟩
      · exact rest _ _ ⟨none, i, r, x, c, rfl, hb, hs, Mv.refl _ _, hi, hx0, hx1⟩
theorem sc__law_of : FnScope ["_law_bag_here", "_law_some"] ["_law_bag_here", "_law_some"] (defScope s__law_of) := ⟨rfl, rfl, rfl, by decide +kernel, rfl, by decide +kernel, by decide +kernel⟩
theorem ok__law_of {f : Addr} {fd : FuncData} {k : Nat} (F : Fun K "_law_of" "_law_of" s__law_of f fd) (n_len : mg "len" = none) (c__law_pick : Cal P w K mg base k "_law_pick" ["_law_bag_here", "_law_top"] spPick) : FnOk P w K mg base CX0 (k + 1) f fd ["_law_bag_here", "_law_some"] (spOf K) := by
  have sc := sc__law_of
  refine F.ok sc (fun vs H Q E h => ?_) (fun cdv A outer s H vs Q E hr h => ?_)
  · obtain ⟨b, l, xs, rfl, _⟩ := h
    rfl
  · obtain ⟨b, l, xs, rfl, hB, hne, hl, h0, h1, q⟩ := h
    refine ⟨_, (pss_one (ps_ret (pe_ix (ix_listK K rfl) (pv 1) (pe_callC c__law_pick hr (by rfl) (pa_cons (pv 0) (pa_cons (pe_callB (call_lenK K rfl) (by rfl) n_len PySem.boot_len (pa_cons (pv 1) pa_nil)) pa_nil))) (fun _ _ => rfl)))), ?_⟩
    refine ⟨_, rfl, _, rfl, _, rfl, l, xs, rfl, .inl (SqL.of hl), b, _, rfl, hB, by omega, by omega, fun H' d mv hB' d0 d1 => ?_⟩
    obtain ⟨v, hv⟩ : ∃ v, xs[d.toNat]? = some v := ⟨_, List.getElem?_eq_getElem (by omega)⟩
    have hat : atI xs d = some v := by
      have := atI_nat (xs := xs) (j := d.toNat) (v := v) hv
      rwa [Int.toNat_of_nonneg d0] at this
    exact ⟨l, xs, d, v, rfl, rfl, SqL.of (mv l _ hne hl), hat, q H' v mv hB' (List.mem_of_getElem? hv)⟩
theorem sc__law_same : FnScope ["_law_found", "_law_due", "_law_spot"] ["_law_found", "_law_due"] (defScope s__law_same) := ⟨rfl, rfl, rfl, by decide +kernel, rfl, by decide +kernel, by decide +kernel⟩
theorem ok__law_same {f : Addr} {fd : FuncData} (F : Fun K "_law_same" "_law_same" s__law_same f fd) (gS : mg "_law_same" = some (.ref f)) (bS : Binds K fd ["_law_found", "_law_due"] []) (n_len : mg "len" = none) (n_all : mg "all" = none) (n_bool : mg "bool" = none) (n_int : mg "int" = none)
    (n_isinstance : mg "isinstance" = none) (n_list : mg "list" = none) (n_range : mg "range" = none) (n_str : mg "str" = none) (n_tuple : mg "tuple" = none) : ∀ n : Nat, FnOk P w K mg base CX0 n f fd ["_law_found", "_law_due"] (spSame K n)
  | 0 => ⟨fun vs H Q E h => by obtain ⟨x, y, d, _, _, _, h, _⟩ := h; exact h.elim, fun A outer s H args us vs Q E hr e0 bt r h => by obtain ⟨x, y, d, _, _, _, h, _⟩ := h; exact h.elim⟩
  | n + 1 => by
    have c__law_same : Cal P w K mg base n "_law_same" ["_law_found", "_law_due"] (spSame K n) := ⟨f, fd, ok__law_same F gS bS n_len n_all n_bool n_int n_isinstance n_list n_range n_str n_tuple n, gS, F.kp, bS⟩
    have sc := sc__law_same
    refine F.ok sc (fun vs H Q E h => ?_) (fun cdv A outer s H vs Q E hr h => ?_)
    · obtain ⟨x, y, d, rfl, _⟩ := h
      rfl
    · obtain ⟨x, y, d, rfl, dx, dy, dn, sd, q⟩ := h
      have tx := ty_dp dx
      have ty := ty_dp dy
      refine ⟨_, (pss_cons (ps_if (pt_cmpR op_isN (pv 1) pe_non (nomark _))
  (pss_one (ps_ret (pe_cmpR op_isN (pv 0) pe_non (nomark _))))
  pss_nil)
 (pss_cons (ps_if (PW.pt (pw_or (pt_val (pe_callB (call_isiK1 K rfl) (by rfl) n_isinstance (by decide +kernel) (pa_cons (pv 1) (pa_cons (pe_bltn (v := .ty "bool") (by rfl) n_bool (by decide +kernel) rfl) pa_nil)))) (pw_or1 (pt_val (pe_callB (call_isiK1 K rfl) (by rfl) n_isinstance (by decide +kernel) (pa_cons (pv 0) (pa_cons (pe_bltn (v := .ty "bool") (by rfl) n_bool (by decide +kernel) rfl) pa_nil)))))))
  (pss_one (ps_ret (pe_and (pe_callB (call_isiK1 K rfl) (by rfl) n_isinstance (by decide +kernel) (pa_cons (pv 1) (pa_cons (pe_bltn (v := .ty "bool") (by rfl) n_bool (by decide +kernel) rfl) pa_nil))) (pe_and (pe_callB (call_isiK1 K rfl) (by rfl) n_isinstance (by decide +kernel) (pa_cons (pv 0) (pa_cons (pe_bltn (v := .ty "bool") (by rfl) n_bool (by decide +kernel) rfl) pa_nil))) (pe_one (pe_cmpR (op_eqDK K rfl hr.units) (pv 0) (pv 1) (nomark _)))))))
  pss_nil)
 (pss_cons (ps_if (pt_val (pe_callB (call_isiTK K rfl) (by rfl) n_isinstance (by decide +kernel) (pa_cons (pv 1) (pa_cons (pe_tup (pa_cons (pe_bltn (v := .ty "int") (by rfl) n_int (by decide +kernel) rfl) (pa_cons (pe_bltn (v := .ty "str") (by rfl) n_str (by decide +kernel) rfl) pa_nil))) pa_nil))))
  (pss_one (ps_ret (pe_and (pe_callB (call_isiTK K rfl) (by rfl) n_isinstance (by decide +kernel) (pa_cons (pv 0) (pa_cons (pe_tup (pa_cons (pe_bltn (v := .ty "int") (by rfl) n_int (by decide +kernel) rfl) (pa_cons (pe_bltn (v := .ty "str") (by rfl) n_str (by decide +kernel) rfl) pa_nil))) pa_nil))) (pe_and (pe_cmpR op_eq (pe_callB (call_isiK1 K rfl) (by rfl) n_isinstance (by decide +kernel) (pa_cons (pv 0) (pa_cons (pe_bltn (v := .ty "int") (by rfl) n_int (by decide +kernel) rfl) pa_nil))) (pe_callB (call_isiK1 K rfl) (by rfl) n_isinstance (by decide +kernel) (pa_cons (pv 1) (pa_cons (pe_bltn (v := .ty "int") (by rfl) n_int (by decide +kernel) rfl) pa_nil))) (nomark _)) (pe_one (pe_cmpR (op_eqDK K rfl hr.units) (pv 0) (pv 1) (nomark _)))))))
  pss_nil)
 (pss_cons (ps_if (PW.pt (pw_or (pt_cmpR op_ne (pe_callB (call_isiK1 K rfl) (by rfl) n_isinstance (by decide +kernel) (pa_cons (pv 1) (pa_cons (pe_bltn (v := .ty "list") (by rfl) n_list (by decide +kernel) rfl) pa_nil))) (pe_callB (call_isiK1 K rfl) (by rfl) n_isinstance (by decide +kernel) (pa_cons (pv 0) (pa_cons (pe_bltn (v := .ty "list") (by rfl) n_list (by decide +kernel) rfl) pa_nil))) (nomark _)) (pw_or1 (pt_cmpR op_ne (pe_callB (call_isiK1 K rfl) (by rfl) n_isinstance (by decide +kernel) (pa_cons (pv 1) (pa_cons (pe_bltn (v := .ty "tuple") (by rfl) n_tuple (by decide +kernel) rfl) pa_nil))) (pe_callB (call_isiK1 K rfl) (by rfl) n_isinstance (by decide +kernel) (pa_cons (pv 0) (pa_cons (pe_bltn (v := .ty "tuple") (by rfl) n_tuple (by decide +kernel) rfl) pa_nil))) (nomark _)))))
  (pss_one (ps_ret pe_bl))
  pss_nil)
 (pss_cons (ps_if (PW.pt (pw_or (pt_not (pt_val (pe_callB (call_isiTK K rfl) (by rfl) n_isinstance (by decide +kernel) (pa_cons (pv 0) (pa_cons (pe_tup (pa_cons (pe_bltn (v := .ty "list") (by rfl) n_list (by decide +kernel) rfl) (pa_cons (pe_bltn (v := .ty "tuple") (by rfl) n_tuple (by decide +kernel) rfl) pa_nil))) pa_nil))))) (pw_or1 (pt_cmpR op_ne (pe_callB (call_lenK K rfl) (by rfl) n_len PySem.boot_len (pa_cons (pv 0) pa_nil)) (pe_callB (call_lenK K rfl) (by rfl) n_len PySem.boot_len (pa_cons (pv 1) pa_nil)) (nomark _)))))
  (pss_one (ps_ret pe_bl))
  pss_nil)
 (pss_one (ps_ret (pe_callB (cr_allK K rfl rfl) (by rfl) n_all (by decide +kernel) (pa_cons (pe_lc (own := [("_law_spot", 2)]) (g := gName 2) (by rfl) sc.nd (pi_range1 (by rfl) n_range (pa_cons (pe_callB (call_lenK K rfl) (by rfl) n_len PySem.boot_len (pa_cons (pv 1) pa_nil)) pa_nil)) (blkOk_by (own := [("_law_spot", 2)]) (N := ["_law_found", "_law_due", "_law_spot"]) (sc := defScope s__law_same) (by decide +kernel)) (fun _ _ _ _ _ => (pg_name (i := 2) sc.nd rfl (Or.inl rfl))) (fun _ _ _ _ _ => pts_nil) (fun _ _ _ _ _ => (pe_callC c__law_same hr (by rfl) (pa_cons (pe_ix (ix_seqK K rfl) (pv 0) (pv 2) (fun _ _ => rfl)) (pa_cons (pe_ix (ix_seqK K rfl) (pv 1) (pv 2) (fun _ _ => rfl)) pa_nil))))) pa_nil))))))))), ?_⟩
      have er : PyData.eqv d d = true := SeqAt.eqv_refl d (SeqAt.canLay_of_shaped sd)
      rcases dn with ⟨b, rfl⟩ | ⟨i, rfl⟩ | ⟨z, rfl⟩ | rfl | ⟨ds, hd, hlen, hn⟩
      · have tx : TyX K H x (.type "bool") := tx
        have ty : TyX K H y (.type "bool") := ty
        have kb : PySem.W.kitOne K (.type "bool") (.type "bool") = some true := kit_ty (by decide +kernel)
        have dx' := dx
        have dy' := dy
        cases dx
        cases dy
        refine ⟨_, rfl, rfl, _, rfl, iteF ?_⟩
        refine ⟨_, rfl, _, _, _, _, true, rfl, .ty "bool", ty, kb, _, rfl, iteT ?_⟩
        refine iteT ?_
        refine ⟨_, rfl, _, _, _, _, true, rfl, .ty "bool", ty, kb, true, rfl, iteT ?_⟩
        refine ⟨_, rfl, _, _, _, _, true, rfl, .ty "bool", tx, kb, true, rfl, iteT ?_⟩
        refine ⟨_, rfl, _, rfl, .bool b, .bool b, dx', dy', sd, sd, ?_⟩
        rw [er]
        exact q _ (Same.refl _)
      · have tx : TyX K H x (.type "int") := tx
        have ty : TyX K H y (.type "int") := ty
        have kb : PySem.W.kitOne K (.type "int") (.type "bool") = some false := kit_ty (by decide +kernel)
        have ki : PySem.W.kitOne K (.type "int") (.type "int") = some true := kit_ty (by decide +kernel)
        have dx' := dx
        have dy' := dy
        cases dx
        cases dy
        refine ⟨_, rfl, rfl, _, rfl, iteF ?_⟩
        refine ⟨_, rfl, _, _, _, _, false, rfl, .ty "bool", ty, kb, _, rfl, iteF ?_⟩
        refine ⟨_, rfl, _, _, _, _, false, rfl, .ty "bool", tx, kb, _, rfl, iteF ?_⟩
        refine ⟨_, rfl, (by show 2 ≤ sizeLine; decide), fun p np => ?_⟩
        have s1 : Same H (upd H p (.tup [.ty "int", .ty "str"])) := same_upd np
        refine ⟨_, p, _, _, _, true, rfl, upd_same, .cons (.ty "int") (.cons (.ty "str") .nil), .base (.int i), kitAny_cons ki (fun z => nomatch z) (fun _ => rfl), _, rfl, iteT ?_⟩
        refine ⟨_, rfl, (by show 2 ≤ sizeLine; decide), fun p2 np2 => ?_⟩
        have s2 : Same _ (upd _ p2 (.tup [.ty "int", .ty "str"])) := same_upd np2
        refine ⟨_, p2, _, _, _, true, rfl, upd_same, .cons (.ty "int") (.cons (.ty "str") .nil), .base (.int i), kitAny_cons ki (fun z => nomatch z) (fun _ => rfl), true, rfl, iteT ?_⟩
        refine ⟨_, rfl, _, _, _, _, true, rfl, .ty "int", .base (.int i), ki, ?_⟩
        refine ⟨_, rfl, _, _, _, _, true, rfl, .ty "int", .base (.int i), ki, rfl, true, rfl, iteT ?_⟩
        refine ⟨_, rfl, _, rfl, .int i, .int i, .int i, .int i, sd, sd, ?_⟩
        rw [er]
        exact q _ (s1.trans s2)
      · have tx : TyX K H x (.type "str") := tx
        have ty : TyX K H y (.type "str") := ty
        have kb : PySem.W.kitOne K (.type "str") (.type "bool") = some false := kit_ty (by decide +kernel)
        have ki : PySem.W.kitOne K (.type "str") (.type "int") = some false := kit_ty (by decide +kernel)
        have ks : PySem.W.kitOne K (.type "str") (.type "str") = some true := kit_ty (by decide +kernel)
        have kk : PySem.W.kitAny K (.type "str") [.type "int", .type "str"] = some true := kitAny_cons ki (fun _ => kitAny_cons ks (fun z => nomatch z) (fun _ => rfl)) (fun z => nomatch z)
        cases dx
        cases dy
        refine ⟨_, rfl, rfl, _, rfl, iteF ?_⟩
        refine ⟨_, rfl, _, _, _, _, false, rfl, .ty "bool", ty, kb, _, rfl, iteF ?_⟩
        refine ⟨_, rfl, _, _, _, _, false, rfl, .ty "bool", tx, kb, _, rfl, iteF ?_⟩
        refine ⟨_, rfl, (by show 2 ≤ sizeLine; decide), fun p np => ?_⟩
        have s1 : Same H (upd H p (.tup [.ty "int", .ty "str"])) := same_upd np
        refine ⟨_, p, _, _, _, true, rfl, upd_same, .cons (.ty "int") (.cons (.ty "str") .nil), .base (.str z), kk, _, rfl, iteT ?_⟩
        refine ⟨_, rfl, (by show 2 ≤ sizeLine; decide), fun p2 np2 => ?_⟩
        have s2 : Same _ (upd _ p2 (.tup [.ty "int", .ty "str"])) := same_upd np2
        refine ⟨_, p2, _, _, _, true, rfl, upd_same, .cons (.ty "int") (.cons (.ty "str") .nil), .base (.str z), kk, true, rfl, iteT ?_⟩
        refine ⟨_, rfl, _, _, _, _, false, rfl, .ty "int", .base (.str z), ki, ?_⟩
        refine ⟨_, rfl, _, _, _, _, false, rfl, .ty "int", .base (.str z), ki, rfl, true, rfl, iteT ?_⟩
        refine ⟨_, rfl, _, rfl, .str z, .str z, .str z, .str z, sd, sd, ?_⟩
        rw [er]
        exact q _ (s1.trans s2)
      · cases dx
        cases dy
        refine ⟨_, rfl, rfl, _, rfl, iteT ?_⟩
        exact ⟨_, rfl, rfl, q _ (Same.refl _)⟩
      · -- a list or a tuple
        obtain ⟨ax, ay, xs, ys, nm, rfl, rfl, hsx, hsy, hax, hay, tx, ty, hnm, enm⟩ : ∃ (ax ay : Addr) (xs ys : List V) (nm : String), x = .ref ax ∧ y = .ref ay ∧ (SqL K H ax xs ∨ SqT K H ax xs) ∧ (SqL K H ay ys ∨ SqT K H ay ys) ∧ DpAll K H xs ds ∧ DpAll K H ys ds ∧
            TyX K H x (.type nm) ∧ TyX K H y (.type nm) ∧ (nm = "list" ∨ nm = "tuple") ∧ nm = tyN d := by
          rcases hd with rfl | rfl
          · cases dx with
            | lst h1 h2 =>
              cases dy with
              | lst h3 h4 => exact ⟨_, _, _, _, "list", rfl, rfl, .inl h1, .inl h3, h2, h4, tx, ty, .inl rfl, rfl⟩
          · cases dx with
            | tup h1 h2 =>
              cases dy with
              | tup h3 h4 => exact ⟨_, _, _, _, "tuple", rfl, rfl, .inr h1, .inr h3, h2, h4, tx, ty, .inr rfl, rfl⟩
        have kb : PySem.W.kitOne K (.type nm) (.type "bool") = some false := by rcases hnm with rfl | rfl <;> exact kit_ty (by decide +kernel)
        have ki : PySem.W.kitOne K (.type nm) (.type "int") = some false := by rcases hnm with rfl | rfl <;> exact kit_ty (by decide +kernel)
        have ks : PySem.W.kitOne K (.type nm) (.type "str") = some false := by rcases hnm with rfl | rfl <;> exact kit_ty (by decide +kernel)
        obtain ⟨bl, kl⟩ : ∃ bl, PySem.W.kitOne K (.type nm) (.type "list") = some bl := by
          rcases hnm with rfl | rfl
          · exact ⟨true, kit_ty (by decide +kernel)⟩
          · exact ⟨false, kit_ty (by decide +kernel)⟩
        obtain ⟨bt, kt⟩ : ∃ bt, PySem.W.kitOne K (.type nm) (.type "tuple") = some bt := by
          rcases hnm with rfl | rfl
          · exact ⟨false, kit_ty (by decide +kernel)⟩
          · exact ⟨true, kit_ty (by decide +kernel)⟩
        have kk : PySem.W.kitAny K (.type nm) [.type "int", .type "str"] = some false := kitAny_cons ki (fun _ => kitAny_cons ks (fun _ => rfl) (fun z => nomatch z)) (fun z => nomatch z)
        have kq : PySem.W.kitAny K (.type nm) [.type "list", .type "tuple"] = some true := by
          rcases hnm with rfl | rfl
          · exact kitAny_cons (b := true) (kit_ty (by decide +kernel)) (fun z => nomatch z) (fun _ => rfl)
          · exact kitAny_cons (b := false) (kit_ty (by decide +kernel)) (fun _ => kitAny_cons (b := true) (kit_ty (by decide +kernel)) (fun z => nomatch z) (fun _ => rfl)) (fun z => nomatch z)
        have typ : ∀ {H' : Hp} {v : V}, Same H H' → TyX K H v (.type nm) → (v = .ref ax ∨ v = .ref ay) → TyX K H' v (.type nm) := by
          intro H' v sm h hv
          rw [enm]
          rcases hv with rfl | rfl
          · exact ty_dp (dp_same sm dx)
          · exact ty_dp (dp_same sm dy)
        refine ⟨_, rfl, rfl, _, rfl, iteF ?_⟩
        refine ⟨_, rfl, _, _, _, _, false, rfl, .ty "bool", ty, kb, _, rfl, iteF ?_⟩
        refine ⟨_, rfl, _, _, _, _, false, rfl, .ty "bool", tx, kb, _, rfl, iteF ?_⟩
        refine ⟨_, rfl, (by show 2 ≤ sizeLine; decide), fun p np => ?_⟩
        have s1 : Same H (upd H p (.tup [.ty "int", .ty "str"])) := same_upd np
        refine ⟨_, p, _, _, _, false, rfl, upd_same, .cons (.ty "int") (.cons (.ty "str") .nil), typ s1 ty (.inr rfl), kk, _, rfl, iteF ?_⟩
        refine ⟨_, rfl, _, _, _, _, bl, rfl, .ty "list", typ s1 ty (.inr rfl), kl, ?_⟩
        refine ⟨_, rfl, _, _, _, _, bl, rfl, .ty "list", typ s1 tx (.inl rfl), kl, rfl, _, rfl, ifF (by simp) ?_⟩
        refine ⟨_, rfl, _, _, _, _, bt, rfl, .ty "tuple", typ s1 ty (.inr rfl), kt, ?_⟩
        refine ⟨_, rfl, _, _, _, _, bt, rfl, .ty "tuple", typ s1 tx (.inl rfl), kt, rfl, _, rfl, ifF (by simp) ?_⟩
        refine ⟨_, rfl, (by show 2 ≤ sizeLine; decide), fun p2 np2 => ?_⟩
        have s2 : Same H _ := s1.trans (same_upd (o := .tup [.ty "list", .ty "tuple"]) np2)
        refine ⟨_, p2, _, _, _, true, rfl, upd_same, .cons (.ty "list") (.cons (.ty "tuple") .nil), typ s2 tx (.inl rfl), kq, _, rfl, iteF ?_⟩
        have sq2 : ∀ {H' : Hp} {a : Addr} {zs : List V}, Same H H' → (SqL K H a zs ∨ SqT K H a zs) → (SqL K H' a zs ∨ SqT K H' a zs) := fun sm h => h.elim (fun z => .inl (sm.seq z)) (fun z => .inr (same_t sm z))
        refine ⟨_, rfl, ax, xs, rfl, sq2 s2 hsx, _, rfl, ay, ys, rfl, sq2 s2 hsy, rfl, _, rfl, ifF (by rw [dpa_len hax, dpa_len hay]; simp) ?_⟩
        refine ⟨_, rfl, ay, ys, rfl, sq2 s2 hsy, _, rfl, ?_, ?_, fun D nD => lc_range (lo := 0) (n := ((ys.length : Int)).toNat) (fun i H' => Same H H' ∧ H' D = some (.lst ((List.replicate i true).map V.bl))) ?_ ?_ ?_⟩
        · rw [dpa_len hay]
          omega
        · rw [dpa_len hay]
          omega
        · exact ⟨s2.trans (same_upd nD), upd_same⟩
        · rintro i H' hi ⟨sm, eD⟩
          rw [Int.toNat_natCast] at hi
          have hds : i < ds.length := by rw [← dpa_len hay]; exact hi
          obtain ⟨vx, gx, dvx⟩ := dpa_get hax (List.getElem?_eq_getElem hds)
          obtain ⟨vy, gy, dvy⟩ := dpa_get hay (List.getElem?_eq_getElem hds)
          have ix : ∀ {a : Addr} {zs : List V} {v : V} {Q' : VK}, (SqL K H a zs ∨ SqT K H a zs) → zs[i]? = some v → Q' v H' → rIx K (.ref a) (.int (0 + (i : Int))) H' Q' := by
            intro a zs v Q' h g q'
            have e : atI zs (0 + (i : Int)) = some v := by rw [Int.zero_add]; exact atI_nat g
            rcases sq2 sm h with h | h
            · exact .inl ⟨a, zs, _, v, rfl, rfl, h, e, q'⟩
            · exact .inr (.inl ⟨a, zs, _, v, rfl, rfl, h, e, q'⟩)
          refine ⟨rfl, tYes_by (iteT ?_)⟩
          refine ⟨_, rfl, _, rfl, ix hsx gx ?_⟩
          refine ⟨_, rfl, _, rfl, ix hsy gy ?_⟩
          refine ⟨vx, vy, ds[i], rfl, dp_same sm dvx, dp_same sm dvy, hn _ (List.getElem_mem hds), ?_, fun H2 s4 => ?_⟩
          · exact shaped_mem (List.getElem_mem hds) (hd.elim (fun z => .inl (z ▸ sd)) (fun z => .inr (z ▸ sd)))
          · refine ⟨_, s4 _ _ eD, ?_, ?_, ?_⟩
            · rw [List.length_map, List.length_replicate]
              exact Nat.lt_of_lt_of_le (show i < 100000 by omega) (by decide)
            · exact same_mut (sm.trans s4) (s2.free nD)
            · rw [upd_same, List.replicate_succ', List.map_append]
              rfl
        · rintro H' ⟨sm, eD⟩
          refine ⟨D, _, rfl, SqL.of eD, ?_⟩
          have e : (List.replicate ((ys.length : Int)).toNat true).all id = true := by simp
          rw [e]
          exact q _ sm
theorem sc__law_written : FnScope ["_law_figure", "_law_wide", "_law_found", "_law_k"] ["_law_figure", "_law_wide"] (defScope s__law_written) := ⟨rfl, rfl, rfl, by decide +kernel, rfl, by decide +kernel, by decide +kernel⟩
/-- a number in bits -/
def spWritten : Sp := fun vs H Q _ => ∃ (n : Int) (m : Nat), vs = [.int n, .int (m : Int)] ∧ m ≤ 1000 ∧ ∀ (H' : Hp) (p : Addr), Same H H' → H p = none → H' p = some (.lst ((wr m n).map V.int)) → Q (.ref p) H'
theorem ok__law_written {f : Addr} {fd : FuncData} {k : Nat} (F : Fun K "_law_written" "_law_written" s__law_written f fd) (n_range : mg "range" = none) : FnOk P w K mg base CX0 (k + 1) f fd ["_law_figure", "_law_wide"] spWritten := by
  have sc := sc__law_written
  refine F.ok sc (fun vs H Q E h => ?_) (fun cdv A outer s H vs Q E hr h => ?_)
  · obtain ⟨n, m, rfl, _⟩ := h
    rfl
  · obtain ⟨n, m, rfl, hm, q⟩ := h
    refine ⟨_, (pss_cons (ps_set (i := 2) sc.nd rfl (.inl rfl) (pe_lst pa_nil))
 (pss_cons (ps_for PassesOwn.never rfl (pi_range1 (by rfl) n_range (pa_cons (pv 1) pa_nil)) (pg_name (i := 3) sc.nd rfl (.inl rfl))
  (pss_cons (ps_expr (pe_bmK K rfl PySem.F.plainAttrs_list PySem.F.slot_list_insert PySem.F.type_list_insert mt_insert (pv 2) (pa_cons pe_int (pa_cons (pe_op op_mod (pv 0) pe_int) pa_nil))))
 (pss_one (ps_set (i := 0) sc.nd rfl (.inl rfl) (pe_op op_fdiv (pv 0) pe_int)))))
 (pss_one (ps_ret (pv 2))))), ?_⟩
    refine ⟨Nat.zero_le _, fun o no => ?_⟩
    refine ⟨_, rfl, _, rfl, by omega, by omega, for_range (lo := 0) (n := ((m : Int)).toNat) (fun i σ H' => ∃ y3, σ = [some (.int (n / 2 ^ i)), some (.int (m : Int)), some (.ref o), y3] ∧ Same H H' ∧ H' o = some (.lst ((wr i n).map V.int))) ?_ ?_ ?_⟩
    · refine ⟨none, ?_, same_upd no, upd_same⟩
      rw [Int.pow_zero, Int.ediv_one]
      rfl
    · rintro i σ H' hi ⟨y3, rfl, sm, eo⟩
      rw [Int.toNat_natCast] at hi
      refine ⟨_, rfl, .inl ⟨rfl, _, SqL.of eo⟩, _, rfl, _, _, rfl, rfl, (by show (0 : Int) < 2; decide), o, _, 0, _, rfl, rfl, eo, ?_, by decide, by decide, ?_⟩
      · rw [List.length_map, wr_len]
        exact small1000 (by omega)
      · refine ⟨_, rfl, _, _, rfl, rfl, ⟨by decide, by decide⟩, some (.int (0 + (i : Int))), ?_, same_mut sm no, upd_same⟩
        show _ = _
        rw [← half n i]
        rfl
    · rintro σ H' ⟨y3, rfl, sm, eo⟩
      rw [Int.toNat_natCast] at eo
      exact ⟨_, rfl, q H' o sm no eo⟩
theorem sc__law_row : FnScope ["_law_bag_here", "_law_most_here", "_law_few", "_law_kind", "_law_size", "_law_k"] ["_law_bag_here", "_law_most_here"] (defScope s__law_row) := ⟨rfl, rfl, rfl, by decide +kernel, rfl, by decide +kernel, by decide +kernel⟩
def spRow : Sp := fun vs H Q _ => ∃ (b : Addr × Addr) (m : Int), vs = [.ref b.1, .int m] ∧ Bag b H ∧ 0 ≤ m ∧ m ≤ 1000 ∧ ∀ (H' : Hp) (p : Addr) (ns : List Int), Mv b.1 H H' → Bag b H' → H p = none → H' p = some (.lst (ns.map V.int)) → Bytes ns → (ns.length : Int) ≤ m → Q (.ref p) H'
theorem rep1 (d : Int) : ∀ m : Nat, (List.replicate m [V.int d]).flatten = (List.replicate m d).map V.int
  | 0 => rfl
  | m + 1 => by
    rw [List.replicate_succ, List.flatten_cons, rep1 d m, List.replicate_succ]
    rfl
theorem bytes_nil : Bytes [] := fun _ h => absurd h List.not_mem_nil
theorem bytes_snoc {ns : List Int} {z : Int} (h : Bytes ns) (hz : isY z) : Bytes (ns ++ [z]) := fun y hy => by
  rcases List.mem_append.mp hy with e | e
  · exact h y e
  · rw [List.mem_singleton.mp e]
    exact hz
theorem ok__law_row {f : Addr} {fd : FuncData} {k : Nat} (F : Fun K "_law_row" "_law_row" s__law_row f fd) (n_range : mg "range" = none) (c__law_pick : Cal P w K mg base k "_law_pick" ["_law_bag_here", "_law_top"] spPick) : FnOk P w K mg base CX0 (k + 1) f fd ["_law_bag_here", "_law_most_here"] spRow := by
  have sc := sc__law_row
  refine F.ok sc (fun vs H Q E h => ?_) (fun cdv A outer s H vs Q E hr h => ?_)
  · obtain ⟨b, m, rfl, _⟩ := h
    rfl
  · obtain ⟨b, m, rfl, hB, hm0, hm1, q⟩ := h
    refine ⟨_, (pss_cons (ps_set (i := 2) sc.nd rfl (.inr rfl) (pe_lst (pa_cons (pe_callC c__law_pick hr (by rfl) (pa_cons (pv 0) (pa_cons pe_int pa_nil))) (pa_cons (pe_callC c__law_pick hr (by rfl) (pa_cons (pv 0) (pa_cons pe_int pa_nil))) (pa_cons pe_int pa_nil)))))
 (pss_cons (ps_set (i := 3) sc.nd rfl (.inr rfl) (pe_callC c__law_pick hr (by rfl) (pa_cons (pv 0) (pa_cons pe_int pa_nil))))
 (pss_cons (ps_set (i := 4) sc.nd rfl (.inl rfl) (pe_callC c__law_pick hr (by rfl) (pa_cons (pv 0) (pa_cons (pe_op op_add (pv 1) pe_int) pa_nil))))
 (pss_cons (ps_if (pt_cmpR op_eq (pv 3) pe_int (nomark _))
  (pss_one (ps_ret (pe_lc (own := [("_law_k", 5)]) (g := gName 5) (by rfl) sc.nd (pi_range1 (by rfl) n_range (pa_cons (pv 4) pa_nil)) (blkOk_by (own := [("_law_k", 5)]) (N := ["_law_bag_here", "_law_most_here", "_law_few", "_law_kind", "_law_size", "_law_k"]) (sc := defScope s__law_row) (by decide +kernel)) (fun _ _ _ _ _ => (pg_name (i := 5) sc.nd rfl (Or.inl rfl))) (fun _ _ _ _ _ => pts_nil) (fun _ _ _ _ _ => (pe_callC c__law_pick hr (by rfl) (pa_cons (pv 0) (pa_cons pe_int pa_nil)))))))
  pss_nil)
 (pss_cons (ps_if (pt_cmpR op_eq (pv 3) pe_int (nomark _))
  (pss_one (ps_ret (pe_op op_rep (pe_lst (pa_cons (pe_ix (ix_listK K rfl) (pv 2) pe_int (fun _ _ => rfl)) pa_nil)) (pv 4))))
  pss_nil)
 (pss_one (ps_ret (pe_lc (own := [("_law_k", 5)]) (g := gName 5) (by rfl) sc.nd (pi_range1 (by rfl) n_range (pa_cons (pv 4) pa_nil)) (blkOk_by (own := [("_law_k", 5)]) (N := ["_law_bag_here", "_law_most_here", "_law_few", "_law_kind", "_law_size", "_law_k"]) (sc := defScope s__law_row) (by decide +kernel)) (fun _ _ _ _ _ => (pg_name (i := 5) sc.nd rfl (Or.inl rfl))) (fun _ _ _ _ _ => pts_nil) (fun _ _ _ _ _ => (pe_ix (ix_listK K rfl) (pv 2) (pe_callC c__law_pick hr (by rfl) (pa_cons (pv 0) (pa_cons (pv 3) pa_nil))) (fun _ _ => rfl))))))))))), ?_⟩
    refine ⟨_, rfl, b, 256, rfl, hB, by decide, by decide, fun H1 x mv1 hB1 x0 x1 => ?_⟩
    refine ⟨_, rfl, b, 256, rfl, hB1, by decide, by decide, fun H2 y mv2 hB2 y0 y1 => ?_⟩
    refine ⟨(by show 3 ≤ sizeLine; decide), fun pf nf => ?_⟩
    have h3 := (SH.nil hB2).new (o := .lst [.int x, .int y, .int 43]) nf
    have m3 : Mv b.1 H _ := (mv1.trans mv2).trans (Mv.of (same_upd (o := .lst [.int x, .int y, .int 43]) nf))
    refine ⟨_, rfl, b, 4, rfl, h3.bag, by decide, by decide, fun H4 kd mv4 hB4 k0 k1 => ?_⟩
    have h4 := h3.mv mv4 hB4
    refine ⟨_, rfl, _, rfl, _, _, rfl, rfl, b, m + 1, rfl, hB4, by omega, by omega, fun H5 sz mv5 hB5 z0 z1 => ?_⟩
    have h5 := h4.mv mv5 hB5
    have m5 : Mv b.1 H H5 := (m3.trans mv4).trans mv5
    have done : ∀ (D : Addr) (H6 : Hp) (ns : List Int), H5 D = none → Mv b.1 H5 H6 → Bag b H6 → H6 D = some (.lst (ns.map V.int)) → Bytes ns → (ns.length : Int) ≤ sz → Q (.ref D) H6 := fun D H6 ns nD mv6 hB6 eD hby hl =>
      q H6 D ns (m5.trans mv6) hB6 (m5.none (hB5.ne nD) nD) eD hby (by omega)
    refine ⟨_, rfl, rfl, _, rfl, ite2 (fun e => ?_) (fun e => ?_)⟩
    · refine ⟨_, rfl, sz, rfl, by omega, by omega, fun D nD => lc_range (lo := 0) (n := sz.toNat) (fun i H' => Mv b.1 H5 H' ∧ ∃ ns : List Int, SH b H' [(D, .lst (ns.map V.int))] ∧ Bytes ns ∧ ns.length = i) ⟨Mv.of (same_upd nD), [], (SH.nil hB5).new nD, bytes_nil, rfl⟩ ?_ ?_⟩
      · rintro i H6 hi ⟨mv6, ns, h6, hby, hl⟩
        refine ⟨rfl, tYes_by (iteT ?_)⟩
        refine ⟨_, rfl, b, 256, rfl, h6.bag, by decide, by decide, fun H7 z mv7 hB7 z0' z1' => ?_⟩
        have h7 := h6.mv mv7 hB7
        refine ⟨_, h7.get (.head _), ?_, ?_, ns ++ [z], ?_, bytes_snoc hby ⟨z0', z1'⟩, by simp [hl]⟩
        · rw [List.length_map, hl]
          exact sz4l (by omega)
        · intro c o ne hc
          rw [upd_ne (ne_of_none hc nD)]
          exact mv7 c o ne (mv6 c o ne hc)
        · rw [List.map_append]
          exact h7.put (fun q hq => absurd hq List.not_mem_nil)
      · rintro H6 ⟨mv6, ns, h6, hby, hl⟩
        exact done D H6 ns nD mv6 h6.bag (h6.get (.head _)) hby (by omega)
    · have kne : ¬ kd = 0 := fun z => e (decide_eq_true (congrArg V.int z))
      refine ⟨_, rfl, rfl, _, rfl, ite2 (fun e2 => ?_) (fun e2 => ?_)⟩
      · refine ⟨_, rfl, pf, _, 0, .int x, rfl, rfl, SqL.of (h5.get (.head _)), rfl, (by show 1 ≤ sizeLine; decide), fun p6 n6 => ?_⟩
        have h6 := h5.new (o := .lst [.int x]) n6
        refine ⟨_, rfl, p6, sz, _, rfl, rfl, h6.get (.head _), by omega, by omega, ?_, fun p7 n7 => ?_⟩
        · show 1 * sz.toNat ≤ sizeLine
          exact sz4 (by omega)
        rw [rep1]
        have s7 := (same_upd (o := .lst [.int x]) n6).trans (same_upd (o := .lst ((List.replicate sz.toNat x).map V.int)) n7)
        exact done p7 _ (List.replicate sz.toNat x) ((same_upd n6).free n7) (Mv.of s7) (hB5.same s7) upd_same (fun z hz => by rw [List.eq_of_mem_replicate hz]; exact ⟨x0, x1⟩) (by rw [List.length_replicate]; omega)
      · have kne1 : ¬ kd = 1 := fun z => e2 (decide_eq_true (congrArg V.int z))
        refine ⟨_, rfl, sz, rfl, by omega, by omega, fun D nD => lc_range (lo := 0) (n := sz.toNat) (fun i H' => Mv b.1 H5 H' ∧ ∃ ns : List Int, SH b H' [(D, .lst (ns.map V.int)), (pf, .lst [.int x, .int y, .int 43])] ∧ Bytes ns ∧ ns.length = i) ⟨Mv.of (same_upd nD), [], h5.new nD, bytes_nil, rfl⟩ ?_ ?_⟩
        · rintro i H6 hi ⟨mv6, ns, h6, hby, hl⟩
          refine ⟨rfl, tYes_by (iteT ?_)⟩
          refine ⟨_, rfl, _, rfl, _, rfl, b, kd, rfl, h6.bag, by omega, by omega, fun H7 j mv7 hB7 j0 j1 => ?_⟩
          have h7 := h6.mv mv7 hB7
          obtain ⟨z, hz, hat⟩ : ∃ z : Int, isY z ∧ atI [V.int x, V.int y, V.int 43] j = some (.int z) := by
            have : j = 0 ∨ j = 1 ∨ j = 2 := by omega
            rcases this with rfl | rfl | rfl
            · exact ⟨x, ⟨x0, x1⟩, rfl⟩
            · exact ⟨y, ⟨y0, y1⟩, rfl⟩
            · exact ⟨43, ⟨by decide, by decide⟩, rfl⟩
          refine ⟨pf, _, j, _, rfl, rfl, SqL.of (h7.get (.tail _ (.head _))), hat, ?_⟩
          refine ⟨_, h7.get (.head _), ?_, ?_, ns ++ [z], ?_, bytes_snoc hby hz, by simp [hl]⟩
          · rw [List.length_map, hl]
            exact sz4l (by omega)
          · intro c o ne hc
            rw [upd_ne (ne_of_none hc nD)]
            exact mv7 c o ne (mv6 c o ne hc)
          · rw [List.map_append]
            exact h7.put (h5.apart nD)
        · rintro H6 ⟨mv6, ns, h6, hby, hl⟩
          exact done D H6 ns nD mv6 h6.bag (h6.get (.head _)) hby (by omega)
theorem sc__law_bytes_bits : FnScope ["_law_signs", "_law_found", "_law_one"] ["_law_signs"] (defScope s__law_bytes_bits) := ⟨rfl, rfl, rfl, by decide +kernel, rfl, by decide +kernel, by decide +kernel⟩
def spLbb (K : PySem.W.Frag) : Sp := fun vs H Q _ => ∃ (a : Addr) (ns : List Int), vs = [.ref a] ∧ SqL K H a (ns.map V.int) ∧ ns.length ≤ 1000 ∧ ∀ (H' : Hp) (p : Addr), Same H H' → H p = none → H' p = some (.lst ((bb ns).map V.int)) → Q (.ref p) H'
theorem ok__law_bytes_bits {f : Addr} {fd : FuncData} {k : Nat} (F : Fun K "_law_bytes_bits" "_law_bytes_bits" s__law_bytes_bits f fd) (c__law_written : Cal P w K mg base k "_law_written" ["_law_figure", "_law_wide"] spWritten) : FnOk P w K mg base CX0 (k + 1) f fd ["_law_signs"] (spLbb K) := by
  have sc := sc__law_bytes_bits
  refine F.ok sc (fun vs H Q E h => ?_) (fun cdv A outer s H vs Q E hr h => ?_)
  · obtain ⟨a, ns, rfl, _⟩ := h
    rfl
  · obtain ⟨a, ns, rfl, hS, hl, q⟩ := h
    refine ⟨_, (pss_cons (ps_set (i := 1) sc.nd rfl (.inl rfl) (pe_lst pa_nil))
 (pss_cons (ps_for PassesOwn.never rfl (pi_listK K rfl (pv 0)) (pg_name (i := 2) sc.nd rfl (.inl rfl))
  (pss_one (ps_set (i := 1) sc.nd rfl (.inl rfl) (pe_op op_cat (pv 1) (pe_callC c__law_written hr (by rfl) (pa_cons (pv 2) (pa_cons pe_int pa_nil)))))))
 (pss_one (ps_ret (pv 1))))), ?_⟩
    refine ⟨Nat.zero_le _, fun o no => ?_⟩
    have s2 : Same H _ := same_upd (o := .lst []) no
    refine ⟨_, rfl, a, rfl, ⟨_, s2.seq hS⟩, for_list (K := K) (a := a) (xs := ns.map V.int) (fun i σ H' => ∃ p y2, σ = [some (.ref a), some (.ref p), y2] ∧ Same H H' ∧ H p = none ∧ H' p = some (.lst ((bb (ns.take i)).map V.int))) ⟨o, none, rfl, s2, no, upd_same⟩ (fun i σ H' _ h => ?_) ?_ ?_⟩
    · obtain ⟨_, _, _, sm, _⟩ := h
      exact sm.seq hS
    · rintro i x σ H' hx ⟨p, y2, rfl, sm, np, ep⟩
      obtain ⟨z, hz, rfl⟩ := getI hx
      have hil : i < ns.length := (List.getElem?_eq_some_iff.mp hz).1
      refine ⟨_, rfl, _, rfl, z, 8, rfl, by decide, fun H3 p3 s3 n3 e3 => ?_⟩
      refine ⟨p, p3, _, _, rfl, rfl, s3 _ _ ep, e3, ?_, fun p4 n4 => ?_⟩
      · rw [List.length_map, List.length_map, bb_len, wr_len, List.length_take]
        exact sz4 (by omega)
      · rw [← List.map_append]
        have s4 := sm.trans s3
        refine ⟨p4, _, rfl, s4.trans (same_upd n4), s4.free n4, ?_⟩
        rw [upd_same, take_more hz, bb_app]
        rw [show bb [z] = wr 8 z from List.append_nil _]
    · rintro σ H' ⟨p, y2, rfl, sm, np, ep⟩
      rw [List.length_map, List.take_length] at ep
      exact ⟨_, rfl, q H' p sm np ep⟩
theorem sc__law_menu : FnScope ["_law_bag_here", "_law_k"] ["_law_bag_here"] (defScope s__law_menu) := ⟨rfl, rfl, rfl, by decide +kernel, rfl, by decide +kernel, by decide +kernel⟩
def spMenu : Sp := fun vs H Q _ => ∃ (b : Addr × Addr), vs = [.ref b.1] ∧ Bag b H ∧ ∀ (H' : Hp) (p : Addr) (ns : List Int), Mv b.1 H H' → Bag b H' → H p = none → H' p = some (.lst (ns.map V.int)) → Bytes ns → 0 < ns.length → ns.length ≤ 10 → Q (.ref p) H'
theorem ok__law_menu {f : Addr} {fd : FuncData} {k : Nat} (F : Fun K "_law_menu" "_law_menu" s__law_menu f fd) (n_range : mg "range" = none) (c__law_pick : Cal P w K mg base k "_law_pick" ["_law_bag_here", "_law_top"] spPick) : FnOk P w K mg base CX0 (k + 1) f fd ["_law_bag_here"] spMenu := by
  have sc := sc__law_menu
  refine F.ok sc (fun vs H Q E h => ?_) (fun cdv A outer s H vs Q E hr h => ?_)
  · obtain ⟨b, rfl, _⟩ := h
    rfl
  · obtain ⟨b, rfl, hB, q⟩ := h
    refine ⟨_, (pss_one (ps_ret (pe_lc (own := [("_law_k", 1)]) (g := gName 1) (by rfl) sc.nd (pi_range1 (by rfl) n_range (pa_cons (pe_op op_add pe_int (pe_callC c__law_pick hr (by rfl) (pa_cons (pv 0) (pa_cons pe_int pa_nil)))) pa_nil)) (blkOk_by (own := [("_law_k", 1)]) (N := ["_law_bag_here", "_law_k"]) (sc := defScope s__law_menu) (by decide +kernel)) (fun _ _ _ _ _ => (pg_name (i := 1) sc.nd rfl (Or.inl rfl))) (fun _ _ _ _ _ => pts_nil) (fun _ _ _ _ _ => (pe_callC c__law_pick hr (by rfl) (pa_cons (pv 0) (pa_cons pe_int pa_nil))))))), ?_⟩
    refine ⟨_, rfl, b, 3, rfl, hB, by decide, by decide, fun H1 sz mv1 hB1 z0 z1 => ⟨_, _, rfl, rfl, 2 + sz, rfl, by omega, by omega, fun D nD => ?_⟩⟩
    refine lc_range (lo := 0) (n := (2 + sz).toNat) (fun i H' => Mv b.1 H1 H' ∧ ∃ ns : List Int, SH b H' [(D, .lst (ns.map V.int))] ∧ Bytes ns ∧ ns.length = i) ⟨Mv.of (same_upd nD), [], (SH.nil hB1).new nD, bytes_nil, rfl⟩ ?_ ?_
    · rintro i H6 hi ⟨mv6, ns, h6, hby, hl⟩
      refine ⟨rfl, tYes_by (iteT ?_)⟩
      refine ⟨_, rfl, b, 256, rfl, h6.bag, by decide, by decide, fun H7 z mv7 hB7 z0' z1' => ?_⟩
      have h7 := h6.mv mv7 hB7
      refine ⟨_, h7.get (.head _), ?_, ?_, ns ++ [z], ?_, bytes_snoc hby ⟨z0', z1'⟩, by simp [hl]⟩
      · rw [List.length_map, hl]
        exact sz4l (by omega)
      · intro c o ne hc
        rw [upd_ne (ne_of_none hc nD)]
        exact mv7 c o ne (mv6 c o ne hc)
      · rw [List.map_append]
        exact h7.put (fun q hq => absurd hq List.not_mem_nil)
    · rintro H6 ⟨mv6, ns, h6, hby, hl⟩
      exact q H6 D ns (mv1.trans mv6) h6.bag (mv1.none (hB1.ne nD) nD) (h6.get (.head _)) hby (by omega) (by omega)
theorem sc__law_rich_row : FnScope ["_law_bag_here", "_law_menu_here", "_law_way", "_law_size", "_law_unit", "_law_k"] ["_law_bag_here", "_law_menu_here"] (defScope s__law_rich_row) := ⟨rfl, rfl, rfl, by decide +kernel, rfl, by decide +kernel, by decide +kernel⟩
def spRich : Sp := fun vs H Q _ => ∃ (b : Addr × Addr) (m : Addr) (ms : List Int), vs = [.ref b.1, .ref m] ∧ Bag b H ∧ m ≠ b.1 ∧ m ≠ b.2 ∧ H m = some (.lst (ms.map V.int)) ∧ Bytes ms ∧ 0 < ms.length ∧ ms.length ≤ 10 ∧ ∀ (H' : Hp) (p : Addr) (ns : List Int), Mv b.1 H H' → Bag b H' → H p = none → H' p = some (.lst (ns.map V.int)) → Bytes ns → ns.length ≤ 60 → Q (.ref p) H'
theorem mem_ints {ms : List Int} {v : V} (h : v ∈ ms.map V.int) : ∃ z ∈ ms, v = .int z := by
  obtain ⟨z, hz, rfl⟩ := List.mem_map.mp h
  exact ⟨z, hz, rfl⟩
theorem repN (u : List Int) : ∀ n : Nat, (List.replicate n (u.map V.int)).flatten = ((List.replicate n u).flatten).map V.int
  | 0 => rfl
  | n + 1 => by
    rw [List.replicate_succ, List.flatten_cons, repN u n, List.replicate_succ, List.flatten_cons, List.map_append]
theorem ok__law_rich_row {f : Addr} {fd : FuncData} {k : Nat} (F : Fun K "_law_rich_row" "_law_rich_row" s__law_rich_row f fd) (n_range : mg "range" = none) (c__law_pick : Cal P w K mg base k "_law_pick" ["_law_bag_here", "_law_top"] spPick) (c__law_of : Cal P w K mg base k "_law_of" ["_law_bag_here", "_law_some"] (spOf K)) (c__law_row : Cal P w K mg base k "_law_row" ["_law_bag_here", "_law_most_here"] spRow) : FnOk P w K mg base CX0 (k + 1) f fd ["_law_bag_here", "_law_menu_here"] spRich := by
  have sc := sc__law_rich_row
  refine F.ok sc (fun vs H Q E h => ?_) (fun cdv A outer s H vs Q E hr h => ?_)
  · obtain ⟨b, m, ms, rfl, _⟩ := h
    rfl
  · obtain ⟨b, m, ms, rfl, hB, nm1, nm2, hm, hmy, hm0, hm1, q⟩ := h
    refine ⟨_, (pss_cons (ps_set (i := 2) sc.nd rfl (.inl rfl) (pe_callC c__law_pick hr (by rfl) (pa_cons (pv 0) (pa_cons pe_int pa_nil))))
 (pss_cons (ps_if (pt_cmpR op_eq (pv 2) pe_int (nomark _))
  (pss_one (ps_ret (pe_callC c__law_row hr (by rfl) (pa_cons (pv 0) (pa_cons pe_int pa_nil)))))
  pss_nil)
 (pss_cons (ps_set (i := 3) sc.nd rfl (.inl rfl) (pe_ix (ix_listK K rfl) (pe_lst (pa_cons pe_int (pa_cons pe_int (pa_cons pe_int pa_nil)))) (pe_callC c__law_pick hr (by rfl) (pa_cons (pv 0) (pa_cons pe_int pa_nil))) (fun _ _ => rfl)))
 (pss_cons (ps_if (pt_cmpR op_eq (pv 2) pe_int (nomark _))
  (pss_cons (ps_setLc (i := 4) (own := [("_law_k", 5)]) (g := gName 5) (by rfl) sc.nd rfl rfl (sw_true rfl rfl rfl (by decide +kernel)) (pi_range1 (by rfl) n_range (pa_cons (pe_op op_add pe_int (pe_callC c__law_pick hr (by rfl) (pa_cons (pv 0) (pa_cons pe_int pa_nil)))) pa_nil)) (blkOk_by (own := [("_law_k", 5)]) (N := ["_law_bag_here", "_law_menu_here", "_law_way", "_law_size", "_law_unit", "_law_k"]) (sc := defScope s__law_rich_row) (by decide +kernel)) (fun _ _ _ _ _ => (pg_name (i := 5) sc.nd rfl (Or.inl rfl))) (fun _ _ _ _ _ => pts_nil) (fun _ _ _ _ _ => (pe_callC c__law_of hr (by rfl) (pa_cons (pv 0) (pa_cons (pv 1) pa_nil)))))
 (pss_one (ps_ret (pe_slice (sl_listK K rfl) (pe_op op_rep (pv 4) pe_int) po_none (po_some (pv 3))))))
  pss_nil)
 (pss_one (ps_ret (pe_lc (own := [("_law_k", 5)]) (g := gName 5) (by rfl) sc.nd (pi_range1 (by rfl) n_range (pa_cons (pe_callC c__law_pick hr (by rfl) (pa_cons (pv 0) (pa_cons (pe_op op_add (pv 3) pe_int) pa_nil))) pa_nil)) (blkOk_by (own := [("_law_k", 5)]) (N := ["_law_bag_here", "_law_menu_here", "_law_way", "_law_size", "_law_unit", "_law_k"]) (sc := defScope s__law_rich_row) (by decide +kernel)) (fun _ _ _ _ _ => (pg_name (i := 5) sc.nd rfl (Or.inl rfl))) (fun _ _ _ _ _ => pts_nil) (fun _ _ _ _ _ => (pe_callC c__law_of hr (by rfl) (pa_cons (pv 0) (pa_cons (pv 1) pa_nil))))))))))), ?_⟩
    have h0 : SH b H [(m, .lst (ms.map V.int))] := (SH.nil hB).add nm1 nm2 hm
    refine ⟨_, rfl, b, 4, rfl, hB, by decide, by decide, fun H1 wy mv1 hB1 w0 w1 => ?_⟩
    have h1 := h0.mv mv1 hB1
    refine name_by ?_
    dsimp only
    refine ⟨_, rfl, rfl, _, rfl, ite2 (fun e => ?_) (fun e => ?_)⟩
    · exact ⟨_, rfl, b, 60, rfl, hB1, by decide, by decide, fun H2 p ns mv2 hB2 np ep hby hl => q H2 p ns (mv1.trans mv2) hB2 (mv1.none (hB1.ne np) np) ep hby (by omega)⟩
    refine ⟨(by show 3 ≤ sizeLine; decide), fun p2 n2 => ?_⟩
    have h2 := h1.new (o := .lst [.int 60, .int 60, .int 20]) n2
    have m2 := mv1.trans (Mv.of (b := b.1) (same_upd (o := .lst [.int 60, .int 60, .int 20]) n2))
    refine ⟨_, rfl, b, 3, rfl, h2.bag, by decide, by decide, fun H3 j mv3 hB3 j0 j1 => ?_⟩
    have h3 := h2.mv mv3 hB3
    have m3 := m2.trans mv3
    obtain ⟨sz, hsz, hat⟩ : ∃ sz : Nat, sz ≤ 60 ∧ atI [V.int 60, V.int 60, V.int 20] j = some (.int (sz : Int)) := by
      have : j = 0 ∨ j = 1 ∨ j = 2 := by omega
      rcases this with rfl | rfl | rfl
      · exact ⟨60, by decide, rfl⟩
      · exact ⟨60, by decide, rfl⟩
      · exact ⟨20, by decide, rfl⟩
    refine ⟨p2, _, j, _, rfl, rfl, SqL.of (h3.get (.head _)), hat, ?_⟩
    have h3 := h3.sub (L' := [(m, .lst (ms.map V.int))]) (by simp)
    refine name_by ?_
    dsimp only
    refine ⟨_, rfl, rfl, _, rfl, ite2 (fun e2 => ?_) (fun e2 => ?_)⟩
    · refine ⟨_, rfl, b, 5, rfl, h3.bag, by decide, by decide, fun H4 un mv4 hB4 u0 u1 => ⟨_, _, rfl, rfl, 1 + un, rfl, by omega, by omega, fun D nD => ?_⟩⟩
      have h4 := h3.mv mv4 hB4
      have m4 := m3.trans mv4
      refine lc_range (lo := 0) (n := (1 + un).toNat) (fun i H' => Mv b.1 H4 H' ∧ ∃ ns : List Int, SH b H' [(D, .lst (ns.map V.int)), (m, .lst (ms.map V.int))] ∧ Bytes ns ∧ ns.length = i) ⟨Mv.of (same_upd nD), [], h4.new nD, bytes_nil, rfl⟩ ?_ ?_
      · rintro i H6 hi ⟨mv6, ns, h6, hby, hl⟩
        refine ⟨rfl, tYes_by (iteT ?_)⟩
        refine ⟨_, rfl, _, rfl, b, m, _, rfl, h6.bag, nm1, h6.get (.tail _ (.head _)), (by rw [List.length_map]; exact hm0), (by rw [List.length_map]; omega), fun H7 v mv7 hB7 hv => ?_⟩
        obtain ⟨z, hz, rfl⟩ := mem_ints hv
        have h7 := h6.mv mv7 hB7
        refine ⟨_, h7.get (.head _), ?_, ?_, ns ++ [z], ?_, bytes_snoc hby (hmy z hz), by simp [hl]⟩
        · rw [List.length_map, hl]
          exact sz4l (by omega)
        · intro c o ne hc
          rw [upd_ne (ne_of_none hc nD)]
          exact mv7 c o ne (mv6 c o ne hc)
        · rw [List.map_append]
          exact h7.put (h4.apart nD)
      · rintro H6 ⟨mv6, ns, h6, hby, hl⟩
        refine name_by ?_
        dsimp only
        have m6 := m4.trans mv6
        refine ⟨_, rfl, D, 60, _, rfl, rfl, h6.get (.head _), by decide, by decide, ?_, fun p7 n7 => ?_⟩
        · rw [List.length_map]
          show ns.length * 60 ≤ sizeLine
          exact sz4 (by omega)
        rw [show (60 : Int).toNat = 60 from rfl, repN]
        have s7 := same_upd (o := .lst (((List.replicate 60 ns).flatten).map V.int)) n7
        refine ⟨_, rfl, _, rfl, p7, _, rfl, SqL.of upd_same, fun p8 n8 => ?_⟩
        rw [cut_to_n, ← List.map_take]
        have s8 := s7.trans (same_upd (o := .lst ((((List.replicate 60 ns).flatten).take sz).map V.int)) n8)
        have n8' : H6 p8 = none := s7.free n8
        refine q _ p8 (((List.replicate 60 ns).flatten).take sz) (m6.trans (Mv.of s8)) (h6.bag.same s8) (m6.none (h6.bag.ne n8') n8') upd_same (fun z hz => ?_) (by rw [List.length_take]; omega)
        obtain ⟨l, hl2, hz⟩ := List.mem_flatten.mp (List.mem_of_mem_take hz)
        rw [List.eq_of_mem_replicate hl2] at hz
        exact hby z hz
    · refine ⟨_, rfl, _, rfl, _, _, rfl, rfl, b, (sz : Int) + 1, rfl, h3.bag, by omega, by omega, fun H4 un mv4 hB4 u0 u1 => ⟨un, rfl, by omega, by omega, fun D nD => ?_⟩⟩
      have h4 := h3.mv mv4 hB4
      have m4 := m3.trans mv4
      refine lc_range (lo := 0) (n := un.toNat) (fun i H' => Mv b.1 H4 H' ∧ ∃ ns : List Int, SH b H' [(D, .lst (ns.map V.int)), (m, .lst (ms.map V.int))] ∧ Bytes ns ∧ ns.length = i) ⟨Mv.of (same_upd nD), [], h4.new nD, bytes_nil, rfl⟩ ?_ ?_
      · rintro i H6 hi ⟨mv6, ns, h6, hby, hl⟩
        refine ⟨rfl, tYes_by (iteT ?_)⟩
        refine ⟨_, rfl, _, rfl, b, m, _, rfl, h6.bag, nm1, h6.get (.tail _ (.head _)), (by rw [List.length_map]; exact hm0), (by rw [List.length_map]; omega), fun H7 v mv7 hB7 hv => ?_⟩
        obtain ⟨z, hz, rfl⟩ := mem_ints hv
        have h7 := h6.mv mv7 hB7
        refine ⟨_, h7.get (.head _), ?_, ?_, ns ++ [z], ?_, bytes_snoc hby (hmy z hz), by simp [hl]⟩
        · rw [List.length_map, hl]
          exact sz4l (by omega)
        · intro c o ne hc
          rw [upd_ne (ne_of_none hc nD)]
          exact mv7 c o ne (mv6 c o ne hc)
        · rw [List.map_append]
          exact h7.put (h4.apart nD)
      · rintro H6 ⟨mv6, ns, h6, hby, hl⟩
        exact q H6 D ns (m4.trans mv6) h6.bag (m4.none (h4.bag.ne nD) nD) (h6.get (.head _)) hby (by omega)
theorem sc__law_book_begun : FnScope ["_law_words"] ["_law_words"] (defScope s__law_book_begun) := ⟨rfl, rfl, rfl, by decide +kernel, rfl, by decide +kernel, by decide +kernel⟩
theorem ok__law_book_begun {f : Addr} {fd : FuncData} {k : Nat} (F : Fun K "_law_book_begun" "_law_book_begun" s__law_book_begun f fd) (n_len : mg "len" = none) (n_list : mg "list" = none) : FnOk P w K mg base CX0 (k + 1) f fd ["_law_words"] (spWAB K) := by
  have sc := sc__law_book_begun
  refine F.ok sc (fun vs H Q E h => ?_) (fun cdv A outer s H vs Q E hr h => ?_)
  · obtain ⟨l, xs, rfl, _⟩ := h
    rfl
  · obtain ⟨l, xs, rfl, hl, q⟩ := h
    refine ⟨_, (pss_one (ps_ret (pe_ifExp (pt_cmpR op_gt (pe_callB (call_lenK K rfl) (by rfl) n_len PySem.boot_len (pa_cons (pv 0) pa_nil)) pe_int (nomark _)) (pe_lst pa_nil) (pe_callTy (call_listK K rfl) (by rfl) n_list (by decide +kernel) (pa_cons (pv 0) pa_nil))))), ?_⟩
    refine ⟨_, rfl, l, _, rfl, .inl hl, _, _, rfl, rfl, _, rfl, ite2 (fun e => ?_) (fun e => ?_)⟩
    · have e : ¬ xs.length < 44 := by
        have := of_decide_eq_true e
        omega
      rw [if_neg e] at q
      exact ⟨Nat.zero_le _, q⟩
    · have e : xs.length < 44 := by
        have : ¬ (43 : Int) < (xs.length : Int) := fun z => e (decide_eq_true z)
        omega
      rw [if_pos e] at q
      exact ⟨_, rfl, l, xs, rfl, .inl hl, q⟩
theorem sc__law_book_learn : FnScope ["_law_words", "_law_ahead", "_law_word", "_law_fresh"] ["_law_words", "_law_ahead", "_law_word"] (defScope s__law_book_learn) := ⟨rfl, rfl, rfl, by decide +kernel, rfl, by decide +kernel, by decide +kernel⟩
def spLLearn (K : PySem.W.Frag) : Sp := fun vs H Q _ => ∃ (l ta tu : Addr) (P : List WP) (a u : List Int), vs = [.ref l, .ref ta, .ref tu] ∧ H l = some (.lst (refsW P)) ∧ TF K (knW P) H ∧ SqT K H ta (a.map V.int) ∧ SqT K H tu (u.map V.int) ∧ a.length ≤ 1000 ∧ P.length ≤ 1000 ∧ a ≠ [] ∧
  ∀ (H' : Hp) (P' : List WP), MvF [l] H H' → H' l = some (.lst (refsW P')) → TF K (knW P') H' → wsOf P' = bkLearn (wsOf P) a u → Q .non H'
theorem ok__law_book_learn {f : Addr} {fd : FuncData} {k : Nat} (F : Fun K "_law_book_learn" "_law_book_learn" s__law_book_learn f fd) (n_len : mg "len" = none) : FnOk P w K mg base CX0 (k + 1) f fd ["_law_words", "_law_ahead", "_law_word"] (spLLearn K) := by
  have sc := sc__law_book_learn
  refine F.ok sc (fun vs H Q E h => ?_) (fun cdv A outer s H vs Q E hr h => ?_)
  · obtain ⟨l, ta, tu, P, a, u, rfl, _⟩ := h
    rfl
  · obtain ⟨l, ta, tu, P, a, u, rfl, hl, ht, hta, htu, hal, hPl, hne, q⟩ := h
    refine ⟨_, (pss_cons (ps_set (i := 3) sc.nd rfl (.inl rfl) (pe_op (op_catAK K rfl) (pv 1) (pe_slice (sl_tupAK K rfl) (pv 2) po_none (po_some pe_int))))
 (pss_one (ps_if (PW.pt (pw_and (pt_cmpR (op_notInDK K rfl hr) (pv 3) (pv 0) (by rfl)) (pw_and1 (pt_cmpR op_lt (pe_callB (call_lenK K rfl) (by rfl) n_len PySem.boot_len (pa_cons (pv 0) pa_nil)) pe_int (nomark _)))))
  (pss_one (ps_expr (pe_bmK K rfl PySem.F.plainAttrs_list PySem.F.slot_list_append PySem.F.type_list_append mt_append (pv 0) (pa_cons (pv 3) pa_nil))))
  pss_nil))), ?_⟩
    refine asg_by (J := fun v H1 => ∃ g, v = .ref g ∧ Same H H1 ∧ SqT K H1 g ((a ++ u.take 1).map V.int)) ?_ (fun rest => ?_)
    · rintro v H1 ⟨g, rfl, s1, hg⟩
      have stay : ¬ (a ≠ [] ∧ (wsOf P).length < 44 ∧ a ++ u.take 1 ∉ wsOf P) → Q .non H1 := fun no => q H1 P (.of s1) (s1 _ _ hl) (ht.same s1) (by unfold bkLearn; rw [if_neg no])
      refine ⟨_, rfl, _, rfl, .tuple ((a ++ u.take 1).map .int), _, .tup hg (dpa_ints _), dp_words (SqL.of (s1 _ _ hl)) (ht.same s1), shaped_tupI _, shaped_words _, ?_⟩
      rw [any_words]
      refine ⟨_, rfl, ite2 (fun e3 => ?_) (fun e3 => ?_)⟩
      · have e3 : a ++ u.take 1 ∉ wsOf P := fun z => by rw [decide_eq_true z] at e3; exact absurd e3 (by decide)
        refine ⟨_, rfl, l, _, rfl, .inl (SqL.of (s1 _ _ hl)), _, _, rfl, rfl, _, rfl, ite2 (fun e2 => ?_) (fun e2 => ?_)⟩
        · have e2 : (wsOf P).length < 44 := by
            have := of_decide_eq_true e2
            rw [List.length_map] at this
            rw [wsOf_len]
            omega
          refine ⟨_, rfl, .inl ⟨rfl, _, SqL.of (s1 _ _ hl)⟩, _, rfl, l, _, _, rfl, rfl, s1 _ _ hl, ?_, ?_⟩
          · rw [List.length_map]
            exact sz4l (by omega)
          refine q _ (P ++ [(g, a ++ u.take 1)]) ((MvF.of s1).upd (.head _)) ?_ ?_ ?_
          · rw [upd_same]
            show _ = some (HO.lst ((P ++ [(g, a ++ u.take 1)]).map rfW))
            rw [List.map_append]
            rfl
          · refine TF.mvf (F := [l]) ((MvF.refl [l] H1).upd (.head _)) (fun b hb o eo => ?_) (tf_snoc (ht.same s1) hg)
            rw [in1 hb, s1 _ _ hl] at eo
            cases eo
            trivial
          · rw [wsOf_app]
            unfold bkLearn
            rw [if_pos ⟨hne, e2, e3⟩]
            rfl
        · exact stay (fun z => e2 (decide_eq_true (by rw [List.length_map]; have := z.2.1; rw [wsOf_len] at this; omega)))
      · have e3 : a ++ u.take 1 ∈ wsOf P := by
          by_cases z : a ++ u.take 1 ∈ wsOf P
          · exact z
          · exact absurd (by rw [decide_eq_false z]; rfl) e3
        exact iteF (stay (fun z => z.2.2 e3))
    · have cat : ∀ (Z : VK), (∀ v H1, (∃ g, v = .ref g ∧ Same H H1 ∧ SqT K H1 g ((a ++ u.take 1).map V.int)) → Z v H1) → ∀ (H1 : Hp) (t : Addr), Same H H1 → SqT K H1 t ((u.take 1).map V.int) → rCatA K (.ref ta) (.ref t) H1 Z := by
        intro Z rest H1 t s1 htt
        refine ⟨ta, t, a.map V.int, (u.take 1).map V.int, rfl, rfl, same_t s1 hta, htt, ?_, (fun e => ?_), (fun e1 e2 => ?_), (fun e1 e2 p np => ?_)⟩
        · rw [List.length_map, List.length_map, List.length_take]
          exact sz4 (by omega)
        · have e : a = [] := List.map_eq_nil_iff.mp e
          exact rest _ _ ⟨t, rfl, s1, by rw [e, List.nil_append]; exact htt⟩
        · have e2 : u.take 1 = [] := List.map_eq_nil_iff.mp e2
          exact rest _ _ ⟨ta, rfl, s1, by rw [e2, List.append_nil]; exact same_t s1 hta⟩
        · exact rest _ _ ⟨p, rfl, s1.trans (same_upd np), by rw [List.map_append]; exact SqT.of upd_same⟩
      refine ⟨_, rfl, _, rfl, 1, rfl, tu, _, rfl, htu, (fun hw => ?_), (fun hw p np => ?_)⟩
      · refine cat _ (fun v H1 h => rest v H1 h) H tu (Same.refl _) ?_
        have : u.take 1 = u := by
          refine List.take_of_length_le ?_
          have := hw.2
          rw [show (some (1 : Int)) = some ((1 : Nat) : Int) from rfl, HT.sIx_nat, List.length_map] at this
          omega
        rw [this]
        exact htu
      · rw [cut1]
        exact cat _ (fun v H1 h => rest v H1 h) _ p (same_upd np) (SqT.of upd_same)
/-! ### the law's own book: the mathematics -/
theorem sl_to {H : Hp} {tr : Addr} {r : List Int} {n : Nat} {z : Int} {Z : VK} (h : SqT K H tr (r.map V.int)) (hz : z = (n : Int)) (q : ∀ (H2 : Hp) (t : Addr), Same H H2 → SqT K H2 t ((r.take n).map V.int) → Z (.ref t) H2) : rSlA K (.ref tr) none (some z) H Z := by
  subst hz
  refine ⟨tr, _, rfl, h, (fun hw => ?_), (fun hw p np => ?_)⟩
  · refine q H tr (Same.refl _) ?_
    have : r.take n = r := by
      refine List.take_of_length_le ?_
      have := hw.2
      rw [HT.sIx_nat, List.length_map] at this
      omega
    rw [this]
    exact h
  · rw [cut_to_n, ← List.map_take]
    exact q _ p (same_upd np) (SqT.of upd_same)
theorem sl_from {H : Hp} {tr : Addr} {r : List Int} {n : Nat} {z : Int} {Z : VK} (h : SqT K H tr (r.map V.int)) (hz : z = (n : Int)) (q : ∀ (H2 : Hp) (t : Addr), Same H H2 → SqT K H2 t ((r.drop n).map V.int) → Z (.ref t) H2) : rSlA K (.ref tr) (some z) none H Z := by
  subst hz
  refine ⟨tr, _, rfl, h, (fun hw => ?_), (fun hw p np => ?_)⟩
  · refine q H tr (Same.refl _) ?_
    have e := hw.1
    rw [HT.sIx_nat, List.length_map] at e
    by_cases z : n = 0
    · subst z
      exact h
    · have : r = [] := List.eq_nil_of_length_eq_zero (by omega)
      subst this
      rw [List.drop_nil]
      exact h
  · rw [cut_from_n, ← List.map_drop]
    exact q _ p (same_upd np) (SqT.of upd_same)
def fitB (r : List Int) (ws : Wds) (k : Nat) : Bool := match ws[k]? with
  | some u => decide (r.take u.length = u)
  | none => false
def fitsN (r : List Int) (ws : Wds) (n : Nat) : List Nat := (List.range n).filter (fitB r ws)
theorem fitsN_succ (r : List Int) (ws : Wds) (n : Nat) : fitsN r ws (n + 1) = if fitB r ws n = true then fitsN r ws n ++ [n] else fitsN r ws n := by
  unfold fitsN
  rw [List.range_succ, List.filter_append]
  by_cases h : fitB r ws n = true
  · rw [if_pos h, List.filter_cons_of_pos h]
    rfl
  · rw [if_neg h, List.filter_cons_of_neg h]
    simp
theorem fitB_at {r : List Int} {ws : Wds} {k : Nat} {u : List Int} (h : ws[k]? = some u) : fitB r ws k = decide (r.take u.length = u) := by
  unfold fitB
  rw [h]
theorem fitsN_mem {r : List Int} {ws : Wds} {n k : Nat} : k ∈ fitsN r ws n ↔ k < n ∧ fitB r ws k = true := by
  unfold fitsN
  rw [List.mem_filter, List.mem_range]
def lensN (r : List Int) (ws : Wds) : List Int := (fitsN r ws ws.length).map fun k => ((ws.getD k []).length : Int)
theorem max_size {r : List Int} {ws : Wds} {m : Int} (hr : r ≠ []) (hm : m ∈ lensN r ws ++ [1]) (hx : ∀ y, y ∈ lensN r ws ++ [1] → y ≤ m) : m = (bkSize r ws : Nat) := by
  obtain ⟨lo, hi, way, top⟩ := bk_is hr ws
  have h1 : (bkSize r ws : Int) ≤ m := by
    rcases way with ⟨e, _⟩ | ⟨e, j, hj, hw, _, _⟩
    · rw [e]
      exact hx 1 (List.mem_append_right _ (List.mem_singleton.mpr rfl))
    · refine hx _ (List.mem_append_left _ (List.mem_map.mpr ⟨j, fitsN_mem.mpr ⟨hj, ?_⟩, ?_⟩))
      · rw [fitB_at hw, List.length_take, Nat.min_eq_left hi]
        exact decide_eq_true rfl
      · show (((ws.getD j []).length : Nat) : Int) = _
        rw [List.getD_eq_getElem?_getD, hw]
        show (((r.take (bkSize r ws)).length : Nat) : Int) = _
        rw [List.length_take, Nat.min_eq_left hi]
  have h2 : m ≤ (bkSize r ws : Int) := by
    rcases List.mem_append.mp hm with h | h
    · obtain ⟨k, hk, rfl⟩ := List.mem_map.mp h
      obtain ⟨hk1, hk2⟩ := fitsN_mem.mp hk
      obtain ⟨u, hu⟩ := getElem?_ex hk1
      rw [fitB_at hu] at hk2
      have := top k u hk1 hu (of_decide_eq_true hk2)
      rw [List.getD_eq_getElem?_getD, hu]
      show ((u.length : Nat) : Int) ≤ _
      omega
    · rw [List.mem_singleton.mp h]
      omega
  omega
theorem sc__law_book_codes : FnScope ["_law_words", "_law_signs", "_law_rest", "_law_found", "_law_ahead", "_law_fits", "_law_size", "_law_word", "_law_code", "_law_k"] ["_law_words", "_law_signs"] (defScope s__law_book_codes) := ⟨rfl, rfl, rfl, by decide +kernel, rfl, by decide +kernel, by decide +kernel⟩
def spLCodes (K : PySem.W.Frag) : Sp := fun vs H Q _ => ∃ (l a : Addr) (P : List WP) (ns : List Int), vs = [.ref l, .ref a] ∧ H l = some (.lst (refsW P)) ∧ TF K (knW P) H ∧ W61 (wsOf P) ∧ H a = some (.lst (ns.map V.int)) ∧ a ≠ l ∧ Bytes ns ∧ ns.length ≤ 60 ∧
  ∀ (H' : Hp) (P' : List WP) (o : Addr), MvF [l] H H' → H' l = some (.lst (refsW P')) → TF K (knW P') H' → wsOf P' = (bkGo (wsOf P) [] ns).2 → H o = none → H' o = some (.lst ((bkGo (wsOf P) [] ns).1.map V.int)) → Q (.ref o) H'
theorem ok__law_book_codes {f : Addr} {fd : FuncData} {k : Nat} (F : Fun K "_law_book_codes" "_law_book_codes" s__law_book_codes f fd) (n_len : mg "len" = none) (n_max : mg "max" = none) (n_range : mg "range" = none) (n_tuple : mg "tuple" = none) (c__law_book_learn : Cal P w K mg base k "_law_book_learn" ["_law_words", "_law_ahead", "_law_word"] (spLLearn K)) : FnOk P w K mg base CX0 (k + 1) f fd ["_law_words", "_law_signs"] (spLCodes K) := by
  have sc := sc__law_book_codes
  refine F.ok sc (fun vs H Q E h => ?_) (fun cdv A outer s H vs Q E hr h => ?_)
  · obtain ⟨l, a, P, ns, rfl, _⟩ := h
    rfl
  · obtain ⟨l, a, P, ns, rfl, hl, ht, h61, ha, nal, hY, hn60, q⟩ := h
    refine ⟨_, (pss_cons (ps_set (i := 2) sc.nd rfl (.inr rfl) (pe_callTy (call_tupleK K rfl) (by rfl) n_tuple (by decide +kernel) (pa_cons (pv 1) pa_nil)))
 (pss_cons (ps_set (i := 3) sc.nd rfl (.inl rfl) (pe_lst pa_nil))
 (pss_cons (ps_set (i := 4) sc.nd rfl (.inl rfl) (pe_tup pa_nil))
 (pss_cons (ps_while PassesOwn.never (pt_cmpR op_gt (pe_callB (call_lenK K rfl) (by rfl) n_len PySem.boot_len (pa_cons (pv 2) pa_nil)) pe_int (nomark _))
  (pss_cons (ps_setLc (i := 5) (own := [("_law_k", 9)]) (g := gName 9) (by rfl) sc.nd rfl rfl (sw_true rfl rfl rfl (by decide +kernel)) (pi_range1 (by rfl) n_range (pa_cons (pe_callB (call_lenK K rfl) (by rfl) n_len PySem.boot_len (pa_cons (pv 0) pa_nil)) pa_nil)) (blkOk_by (own := [("_law_k", 9)]) (N := ["_law_words", "_law_signs", "_law_rest", "_law_found", "_law_ahead", "_law_fits", "_law_size", "_law_word", "_law_code", "_law_k"]) (sc := defScope s__law_book_codes) (by decide +kernel)) (fun _ _ _ _ _ => (pg_name (i := 9) sc.nd rfl (Or.inl rfl))) (fun _ _ _ _ _ => (pts_one (pt_cmpR (op_eqDK K rfl hr.units) (pe_slice (sl_tupAK K rfl) (pv 2) po_none (po_some (pe_callB (call_lenK K rfl) (by rfl) n_len PySem.boot_len (pa_cons (pe_ix (ix_listK K rfl) (pv 0) (pv 9) (fun _ _ => rfl)) pa_nil)))) (pe_ix (ix_listK K rfl) (pv 0) (pv 9) (fun _ _ => rfl)) (nomark _)))) (fun _ _ _ _ _ => (pv 9)))
 (pss_cons (ps_set (i := 6) sc.nd rfl (.inl rfl) (pe_callB (cr_maxK K rfl rfl) (by rfl) n_max (by decide +kernel) (pa_cons (pe_op op_cat (pe_lc (own := [("_law_k", 9)]) (g := gName 9) (by rfl) sc.nd (pi_listK K rfl (pv 5)) (blkOk_by (own := [("_law_k", 9)]) (N := ["_law_words", "_law_signs", "_law_rest", "_law_found", "_law_ahead", "_law_fits", "_law_size", "_law_word", "_law_code", "_law_k"]) (sc := defScope s__law_book_codes) (by decide +kernel)) (fun _ _ _ _ _ => (pg_name (i := 9) sc.nd rfl (Or.inl rfl))) (fun _ _ _ _ _ => pts_nil) (fun _ _ _ _ _ => (pe_callB (call_lenK K rfl) (by rfl) n_len PySem.boot_len (pa_cons (pe_ix (ix_listK K rfl) (pv 0) (pv 9) (fun _ _ => rfl)) pa_nil)))) (pe_lst (pa_cons pe_int pa_nil))) pa_nil)))
 (pss_cons (ps_set (i := 7) sc.nd rfl (.inl rfl) (pe_slice (sl_tupAK K rfl) (pv 2) po_none (po_some (pv 6))))
 (pss_cons (ps_set (i := 8) sc.nd rfl (.inl rfl) (pe_ifExp (pt_cmpR op_eq (pv 6) pe_int (nomark _)) (pe_ix (ix_tupK K rfl) (pv 7) pe_int (fun _ _ => rfl)) (pe_op op_add pe_int (pe_bmK K rfl PySem.F.plainAttrs_list PySem.F.slot_list_index PySem.F.type_list_index (mt_indexDK K rfl hr) (pv 0) (pa_cons (pv 7) pa_nil)))))
 (pss_cons (ps_if (pt_cmpR (op_neDK K rfl hr.units) (pv 4) (pe_tup pa_nil) (nomark _))
  (pss_one (ps_expr (pe_callC c__law_book_learn hr (by rfl) (pa_cons (pv 0) (pa_cons (pv 4) (pa_cons (pv 7) pa_nil))))))
  pss_nil)
 (pss_cons (ps_expr (pe_bmK K rfl PySem.F.plainAttrs_list PySem.F.slot_list_append PySem.F.type_list_append mt_append (pv 3) (pa_cons (pv 8) pa_nil)))
 (pss_cons (ps_set (i := 4) sc.nd rfl (.inl rfl) (pv 7))
 (pss_one (ps_set (i := 2) sc.nd rfl (.inr rfl) (pe_slice (sl_tupAK K rfl) (pv 2) (po_some (pv 6)) po_none)))))))))))
 (pss_one (ps_ret (pv 3))))))), ?_⟩
    refine ⟨_, rfl, a, _, rfl, .inl ⟨SqL.of ha, fun tr nr => ?_⟩⟩
    have s1 := same_upd (o := .tup (ns.map V.int)) nr
    have hr1 : SqT K (upd H tr (.tup (ns.map V.int))) tr (ns.map V.int) := SqT.of upd_same
    generalize upd H tr (.tup (ns.map V.int)) = H1 at s1 hr1 ⊢
    refine name_by ?_
    dsimp only
    refine ⟨Nat.zero_le _, fun lf nf => ?_⟩
    have s2 := s1.trans (same_upd (o := .lst []) nf)
    have hr2 := same_t (same_upd (o := .lst []) nf) hr1
    have ef2 : upd H1 lf (.lst []) lf = some (.lst (([] : List Int).map V.int)) := upd_same
    have nf0 : H lf = none := s1.free nf
    generalize upd H1 lf (.lst []) = H2 at s2 hr2 ef2 ⊢
    refine name_by ?_
    dsimp only
    refine ⟨Nat.zero_le _, fun ta na => ?_⟩
    have s3 := s2.trans (same_upd (o := .tup []) na)
    have hr3 := same_t (same_upd (o := .tup []) na) hr2
    have ef3 := same_upd (o := .tup []) na _ _ ef2
    have ha3 : SqT K (upd H2 ta (.tup [])) ta (([] : List Int).map V.int) := SqT.of upd_same
    generalize upd H2 ta (.tup []) = H3 at s3 hr3 ef3 ha3 ⊢
    refine name_by ?_
    dsimp only
    have nlf : l ≠ lf := ne_of_none hl nf0
    clear s1 s2 hr1 hr2 ef2
    refine ⟨fun m σ H' => ∃ (i : Nat) (P' : List WP) (cs av : List Int) (tr ta : Addr) (y5 y6 y7 y8 y9 : Option V), σ = [some (.ref l), some (.ref a), some (.ref tr), some (.ref lf), some (.ref ta), y5, y6, y7, y8, y9] ∧ MvF [l] H H' ∧ H' l = some (.lst (refsW P')) ∧ TF K (knW P') H' ∧ W61 (wsOf P') ∧ H' lf = some (.lst (cs.map V.int)) ∧ SqT K H' tr ((ns.drop i).map V.int) ∧ SqT K H' ta (av.map V.int) ∧ av.length ≤ 60 ∧ i ≤ ns.length ∧ cs.length ≤ i ∧ m = ns.length - i ∧ bkGo (wsOf P) [] ns = (cs ++ (bkGo (wsOf P') av (ns.drop i)).1, (bkGo (wsOf P') av (ns.drop i)).2),
      ⟨_, 0, P, [], [], tr, ta, _, _, _, _, _, rfl, .of s3, s3 _ _ hl, ht.same s3, h61, ef3, hr3, ha3, Nat.zero_le _, Nat.zero_le _, Nat.le_refl _, rfl, rfl⟩, ?_⟩
    clear hr3 ef3 ha3 s3
    rintro m σ H5 ⟨i, P', cs, av, tr, ta, y5, y6, y7, y8, y9, rfl, m5, el5, ht5, h615, ef5, hr5, ha5, hav, hi, hcs, rfl, eq5⟩
    refine ⟨_, rfl, tr, _, rfl, .inr hr5, _, _, rfl, rfl, _, rfl, ite2 (fun e2 => ?_) (fun e2 => ?_)⟩
    · have e2 : i < ns.length := by
        have := of_decide_eq_true e2
        rw [List.length_map, List.length_drop] at this
        omega
      refine ⟨_, fun _ _ h => h, ?_⟩
      have hne : ns.drop i ≠ [] := fun z => by
        have := congrArg List.length z
        rw [List.length_drop] at this
        have : ns.length - i = 0 := this
        omega
      have hYd : ∀ z ∈ ns.drop i, 0 ≤ z ∧ z < 256 := fun z hz => hY z (List.mem_of_mem_drop hz)
      obtain ⟨hc01, hw⟩ := bk_code_word (ws := wsOf P') hne hYd
      obtain ⟨lo, hszl, way, _⟩ := bk_is hne (wsOf P')
      have hP44 : P'.length ≤ 44 := by have := h615.1; rw [wsOf_len] at this; exact this
      have hdl : (ns.drop i).length = ns.length - i := List.length_drop
      rw [hdl] at hszl
      -- fits
      refine ⟨_, rfl, l, _, rfl, .inl (SqL.of el5), ((refsW P').length : Int), rfl, (by rw [List.length_map]; omega), (by rw [List.length_map]; omega), fun D nD => ?_⟩
      rw [List.length_map]
      have nDl : D ≠ l := (ne_of_none el5 nD).symm
      refine lc_range (lo := 0) (n := (P'.length : Int).toNat) (fun j H' => Same H5 H' ∧ H' D = some (.lst ((fitsN (ns.drop i) (wsOf P') j).map fun k => V.int (k : Nat)))) ⟨same_upd nD, upd_same⟩ ?_ ?_
      · rintro j H6 hj ⟨s6, eD⟩
        have hj : j < P'.length := by omega
        obtain ⟨p, hp⟩ := getElem?_ex hj
        have hx : (refsW P')[j]? = some (.ref p.1) := by rw [List.getElem?_map, hp]; rfl
        have hpt : SqT K H6 p.1 (p.2.map V.int) := same_t s6 (tf_at ht5 hp)
        have hat : atI (refsW P') (0 + (j : Int)) = some (.ref p.1) := by rw [Int.zero_add]; exact atI_nat hx
        refine ⟨rfl, ?_⟩
        refine ⟨_, rfl, _, rfl, _, rfl, l, _, _, _, rfl, rfl, SqL.of (s6 _ _ el5), hat, p.1, _, rfl, .inr hpt, _, rfl, sl_to (same_t s6 hr5) (n := p.2.length) (by rw [List.length_map]) (fun H7 t s7 htt => ?_)⟩
        refine ⟨_, rfl, _, rfl, l, _, _, _, rfl, rfl, SqL.of (s7 _ _ (s6 _ _ el5)), hat, .tuple (((ns.drop i).take p.2.length).map .int), .tuple (p.2.map .int), .tup htt (dpa_ints _), .tup (same_t s7 hpt) (dpa_ints _), shaped_tupI _, shaped_tupI _, ?_⟩
        rw [eqv_tupI]
        have ef : fitB (ns.drop i) (wsOf P') j = decide ((ns.drop i).take p.2.length = p.2) := fitB_at (wsOf_at hp)
        have s67 := s6.trans s7
        refine ⟨_, rfl, ite2 (fun e3 => ?_) (fun e3 => ?_)⟩
        · refine ⟨_, rfl, _, s7 _ _ eD, ?_, same_mut s67 nD, ?_⟩
          · rw [List.length_map]
            refine sz4l (Nat.lt_of_le_of_lt (List.length_filter_le _ _) ?_)
            rw [List.length_range]
            omega
          · rw [upd_same, fitsN_succ, ef, if_pos e3, List.map_append, Int.zero_add]
            rfl
        · refine ⟨s67, ?_⟩
          rw [fitsN_succ, ef, if_neg e3]
          exact s7 _ _ eD
      rintro H6 ⟨s6, eD⟩
      rw [Int.toNat_natCast] at eD
      refine name_by ?_
      dsimp only
      have el6 := s6 _ _ el5
      have ht6 := ht5.same s6
      have ef6 := s6 _ _ ef5
      have hr6 := same_t s6 hr5
      have ha6 := same_t s6 ha5
      have m6 := m5.same s6
      clear el5 ht5 ef5 hr5 ha5 m5
      -- size
      refine ⟨_, rfl, D, rfl, ⟨_, SqL.of eD⟩, fun D2 nD2 => ?_⟩
      refine lc_list (K := K) (a := D) (xs := (fitsN (ns.drop i) (wsOf P') P'.length).map fun k => V.int (k : Nat)) (fun j H' => Same H6 H' ∧ H' D2 = some (.lst ((((fitsN (ns.drop i) (wsOf P') P'.length).take j).map fun k => (((wsOf P').getD k []).length : Int)).map V.int))) ⟨same_upd nD2, upd_same⟩ (fun j H' _ h => SqL.of (h.1 _ _ eD)) ?_ ?_
      · rintro j y H7 hy ⟨s7, eD2⟩
        obtain ⟨kk, hk, rfl⟩ : ∃ kk : Nat, (fitsN (ns.drop i) (wsOf P') P'.length)[j]? = some kk ∧ y = V.int (kk : Nat) := by
          rw [List.getElem?_map] at hy
          cases e : (fitsN (ns.drop i) (wsOf P') P'.length)[j]? with
          | none => rw [e] at hy; cases hy
          | some kk => rw [e] at hy; exact ⟨kk, rfl, (Option.some.inj hy).symm⟩
        obtain ⟨p, hp⟩ := getElem?_ex ((fitsN_mem.mp (List.mem_of_getElem? hk)).1)
        have hx : (refsW P')[kk]? = some (.ref p.1) := by rw [List.getElem?_map, hp]; rfl
        refine ⟨rfl, tYes_by (iteT ?_)⟩
        refine ⟨_, rfl, _, rfl, l, _, _, _, rfl, rfl, SqL.of (s7 _ _ el6), atI_nat hx, p.1, _, rfl, .inr (same_t s7 (tf_at ht6 hp)), ?_⟩
        refine ⟨_, eD2, ?_, same_mut s7 nD2, ?_⟩
        · rw [List.length_map, List.length_map, List.length_take]
          refine sz4l (Nat.lt_of_le_of_lt (Nat.min_le_right _ _) (Nat.lt_of_le_of_lt (List.length_filter_le _ _) ?_))
          rw [List.length_range]
          omega
        · rw [upd_same, take_more hk, List.map_append, List.map_append, List.length_map]
          show _ = some (HO.lst (_ ++ [V.int (((wsOf P').getD kk []).length : Nat)]))
          rw [List.getD_eq_getElem?_getD, wsOf_at hp]
          rfl
      rintro H7 ⟨s7, eD2⟩
      rw [List.length_map, List.take_length] at eD2
      have eD2 : H7 D2 = some (.lst ((lensN (ns.drop i) (wsOf P')).map V.int)) := by
        unfold lensN
        rw [wsOf_len]
        exact eD2
      have hll : (lensN (ns.drop i) (wsOf P')).length ≤ 44 := by
        unfold lensN
        rw [List.length_map]
        refine Nat.le_trans (List.length_filter_le _ _) ?_
        rw [List.length_range, wsOf_len]
        exact hP44
      refine ⟨(by show 1 ≤ sizeLine; decide), fun p8 n8 => ?_⟩
      have s8 := s7.trans (same_upd (o := .lst [.int 1]) n8)
      refine ⟨D2, p8, _, _, rfl, rfl, same_upd n8 _ _ eD2, upd_same, (by rw [List.length_map]; exact sz4 (by show _ + 1 ≤ 100000; omega)), fun p9 n9 => ?_⟩
      have s9 := s8.trans (same_upd (o := .lst ((lensN (ns.drop i) (wsOf P')).map V.int ++ [.int 1])) n9)
      refine ⟨p9, lensN (ns.drop i) (wsOf P') ++ [1], rfl, (by rw [List.map_append]; exact SqL.of upd_same), (by rw [List.length_append]; show 0 < _ + 1; omega), fun mx hmx hmax => ?_⟩
      obtain rfl := max_size hne hmx hmax
      generalize upd (upd H7 p8 (.lst [.int 1])) p9 (.lst ((lensN (ns.drop i) (wsOf P')).map V.int ++ [.int 1])) = H9 at s9 ⊢
      clear hmx hmax eD2 s7 s8 n8 n9 hll
      refine name_by ?_
      dsimp only
      -- word
      refine ⟨_, rfl, _, rfl, _, rfl, sl_to (same_t s9 hr6) (n := bkSize (ns.drop i) (wsOf P')) rfl (fun H10 tw s10 htw => ?_)⟩
      have s11 := s9.trans s10
      refine name_by ?_
      dsimp only
      have el10 := s11 _ _ el6
      have ht10 := ht6.same s11
      have ef10 := s11 _ _ ef6
      have hr10 := same_t s11 hr6
      have ha10 := same_t s11 ha6
      have m10 := m6.same s11
      clear el6 ht6 ef6 hr6 ha6 m6 s9 s10 s11 s6 eD nD2
      refine asg_by (J := fun v H1 => v = .int (bkCode (ns.drop i) (wsOf P')) ∧ H1 = H10) ?_ (fun rest => ?_)
      · rintro v H11 ⟨rfl, rfl⟩
        refine if_by (J := fun σ1 H1 => ∃ P9 : List WP, σ1 = [some (.ref l), some (.ref a), some (.ref tr), some (.ref lf), some (.ref ta), some (.ref D), some (.int (bkSize (ns.drop i) (wsOf P') : Nat)), some (.ref tw), some (.int (bkCode (ns.drop i) (wsOf P'))), y9] ∧ MvF [l] H11 H1 ∧ H1 l = some (.lst (refsW P9)) ∧ TF K (knW P9) H1 ∧ wsOf P9 = bkLearn (wsOf P') av ((ns.drop i).take (bkSize (ns.drop i) (wsOf P')))) ?_ (fun rest => ?_)
        · rintro σ1 H12 ⟨P9, rfl, m12, el12, ht12, e12⟩
          have nol : ∀ b ∈ [l], ∀ o, H11 b = some o → noT o := fun b hb o eo => by
            rw [in1 hb, el10] at eo
            cases eo
            trivial
          have htw12 := sqT_mvf m12 nol htw
          have hr12 := sqT_mvf m12 nol hr10
          have ef12 : H12 lf = some (.lst (cs.map V.int)) := m12.kp _ _ (fun z => nlf (in1 z).symm) ef10
          refine ⟨_, rfl, .inl ⟨rfl, _, SqL.of ef12⟩, _, rfl, lf, _, _, rfl, rfl, ef12, (by rw [List.length_map]; exact sz4l (by omega)), ?_⟩
          have m13 : MvF [lf] H12 (upd H12 lf (.lst (cs.map V.int ++ [.int (bkCode (ns.drop i) (wsOf P'))]))) := (MvF.refl _ _).upd (.head _)
          have nolf : ∀ b ∈ [lf], ∀ o, H12 b = some o → noT o := fun b hb o eo => by
            rw [in1 hb, ef12] at eo
            cases eo
            trivial
          have el13 : upd H12 lf (.lst (cs.map V.int ++ [.int (bkCode (ns.drop i) (wsOf P'))])) l = some (.lst (refsW P9)) := by rw [upd_ne nlf]; exact el12
          have ef13 : upd H12 lf (.lst (cs.map V.int ++ [.int (bkCode (ns.drop i) (wsOf P'))])) lf = some (.lst ((cs ++ [bkCode (ns.drop i) (wsOf P')]).map V.int)) := by rw [upd_same, List.map_append]; rfl
          have ht13 := ht12.mvf m13 nolf
          have htw13 := sqT_mvf m13 nolf htw12
          have hr13 := sqT_mvf m13 nolf hr12
          have m14 : MvF [l] H (upd H12 lf (.lst (cs.map V.int ++ [.int (bkCode (ns.drop i) (wsOf P'))]))) := (m10.trans m12).trans2 m13 (fun b hb => .inr (by rw [in1 hb]; exact nf0))
          generalize upd H12 lf (.lst (cs.map V.int ++ [.int (bkCode (ns.drop i) (wsOf P'))])) = H13 at m14 el13 ef13 ht13 htw13 hr13 ⊢
          clear m13 m12 el12 ht12 htw12 hr12 ef12 nolf nol m10 el10 ht10 ef10 hr10 ha10
          refine ⟨_, rfl, ?_⟩
          refine name_by ?_
          dsimp only
          refine ⟨_, rfl, _, rfl, _, rfl, ?_⟩
          dsimp only [tNoPart]
          refine sl_from hr13 (n := bkSize (ns.drop i) (wsOf P')) rfl (fun H14 tr' s14 hr14 => ?_)
          rw [List.drop_drop] at hr14
          refine name_by ?_
          refine ⟨ns.length - (i + bkSize (ns.drop i) (wsOf P')), by omega, i + bkSize (ns.drop i) (wsOf P'), P9, cs ++ [bkCode (ns.drop i) (wsOf P')], (ns.drop i).take (bkSize (ns.drop i) (wsOf P')), tr', tw, _, _, _, _, _, rfl, m14.same s14, s14 _ _ el13, ht13.same s14, (by rw [e12]; exact w61_learn h615 hav), s14 _ _ ef13, hr14, same_t s14 htw13, (by rw [List.length_take]; omega), by omega, (by rw [List.length_append]; show cs.length + 1 ≤ _; omega), rfl, ?_⟩
          rw [eq5, bkGo_cons hne, e12, List.drop_drop, List.append_assoc]
          rfl
        · refine ⟨_, rfl, Nat.zero_le _, fun p11 n11 => ?_⟩
          have s11 := same_upd (o := .tup []) n11
          refine ⟨.tuple (av.map .int), .tuple (([] : List Int).map .int), .tup (same_t s11 ha10) (dpa_ints _), .tup (SqT.of upd_same) (dpa_ints []), shaped_tupI _, shaped_tupI _, ?_⟩
          rw [eqv_tupI]
          refine ⟨_, rfl, ite2 (fun e3 => ?_) (fun e3 => ?_)⟩
          · have e3 : av ≠ [] := fun z => by
              rw [decide_eq_true z] at e3
              exact absurd e3 (by decide)
            refine ⟨_, rfl, _, rfl, _, rfl, l, ta, tw, P', av, _, rfl, s11 _ _ el10, ht10.same s11, same_t s11 ha10, same_t s11 htw, by omega, by omega, e3, fun H12 P9 m12 el12 ht12 e12 => ?_⟩
            exact rest _ _ ⟨P9, rfl, (MvF.of s11).trans m12, el12, ht12, e12⟩
          · have e3 : av = [] := by
              by_cases z : av = []
              · exact z
              · exact absurd (by rw [decide_eq_false z]; rfl) e3
            refine rest _ _ ⟨P', rfl, .of s11, s11 _ _ el10, ht10.same s11, ?_⟩
            unfold bkLearn
            rw [if_neg (fun z => z.1 e3)]
      · have hlen : ((ns.drop i).take (bkSize (ns.drop i) (wsOf P'))).length = bkSize (ns.drop i) (wsOf P') := by
          rw [List.length_take, hdl]
          omega
        refine ⟨_, rfl, rfl, _, rfl, ite2 (fun e3 => ?_) (fun e3 => ?_)⟩
        · have e3 : bkSize (ns.drop i) (wsOf P') = 1 := by
            have := V.int.inj (of_decide_eq_true e3)
            omega
          rcases way with ⟨_, ec⟩ | ⟨h1, _⟩
          · have hx0 : (((ns.drop i).take (bkSize (ns.drop i) (wsOf P'))).map V.int)[0]? = some (.int (bkCode (ns.drop i) (wsOf P'))) := by
              rw [e3, ec]
              cases hcs2 : ns.drop i with
              | nil => exact absurd hcs2 hne
              | cons x t => rfl
            refine ⟨_, rfl, tw, _, _, _, rfl, rfl, htw, atI_nat (j := 0) hx0, rest _ _ ⟨rfl, rfl⟩⟩
          · omega
        · rcases way with ⟨h1, _⟩ | ⟨h1, j, hj, hwj, ec, hfirst⟩
          · exact absurd (decide_eq_true (by rw [h1]; rfl)) e3
          · refine ⟨_, rfl, .inl ⟨rfl, _, SqL.of el10⟩, _, rfl, l, .ref tw, .tuple (((ns.drop i).take (bkSize (ns.drop i) (wsOf P'))).map .int), _, j, .tuple (((ns.drop i).take (bkSize (ns.drop i) (wsOf P'))).map .int), rfl, rfl, dp_words (SqL.of el10) ht10, .tup htw (dpa_ints _), shaped_words _, shaped_tupI _, (by rw [List.getElem?_map, hwj]; rfl), (by rw [eqv_tupI]; exact decide_eq_true rfl), (fun mm z' hmm hz' => ?_), _, _, rfl, rfl, rest _ _ ⟨by rw [ec], rfl⟩⟩
            rw [List.getElem?_map] at hz'
            cases em : (wsOf P')[mm]? with
            | none => rw [em] at hz'; cases hz'
            | some v =>
              rw [em] at hz'
              cases hz'
              rw [eqv_tupI]
              refine decide_eq_false (fun z => hfirst mm hmm ?_)
              rw [em, z]
    · have e2 : i = ns.length := by
        have : ¬ (0 : Int) < (((ns.drop i).map V.int).length : Int) := fun z => e2 (decide_eq_true z)
        rw [List.length_map, List.length_drop] at this
        omega
      rw [e2, List.drop_length, bkGo_nil, List.append_nil] at eq5
      exact ⟨_, rfl, q H5 P' lf m5 el5 ht5 (by rw [eq5]) nf0 (by rw [eq5]; exact ef5)⟩
theorem sc__law_book_right : FnScope ["_law_book", "_law_words", "_law_told"] ["_law_book", "_law_words"] (defScope s__law_book_right) := ⟨rfl, rfl, rfl, by decide +kernel, rfl, by decide +kernel, by decide +kernel⟩
def spLRight (K : PySem.W.Frag) (C : Addr) : Sp := fun vs H Q _ => ∃ (r l lw : Addr) (P Pw : List WP), vs = [.ref r, .ref lw] ∧ Bk C r l P H ∧ TF K (knW P) H ∧ SqL K H lw (refsW Pw) ∧ TF K (knW Pw) H ∧ W61 (wsOf P) ∧ wsOf Pw = wsOf P ∧ ∀ H', Same H H' → Q (.bl true) H'
def dR3 (ws : Wds) (n : Int) (x : Str) : PyData := .list [dW ws, .int n, .str x]
def dR (ws : Wds) : PyData := dR3 ws (ws.length : Int) (reprBk ws.length)
theorem strOk_repr : ∀ n, n < 45 → PyData.strOk (reprBk n) = true := by decide +kernel
theorem shaped_R3 (ws : Wds) (n : Int) (x : Str) (hx : PyData.strOk x = true) : SeqAt.shaped (dR3 ws n x) = true := by
  unfold SeqAt.shaped dR3 dW
  rw [Bool.and_eq_true]
  constructor
  · simp only [PyData.canLay0, PyData.canLayAll0, canLay_words, Bool.and_true, hx]
  · refine decide_eq_true ?_
    simp only [PyData.depth, PyData.depthAll]
    have := depth_words ws
    omega
theorem shaped_R {ws : Wds} (h : W61 ws) : SeqAt.shaped (dR ws) = true := shaped_R3 _ _ _ (strOk_repr _ (by have := h.1; omega))
theorem dn_R {ws : Wds} (h : W61 ws) : Dn 4 (dR ws) := .inr (.inr (.inr (.inr ⟨_, .inl rfl, (by show 3 ≤ 100000; decide), fun e he => by
  rcases List.mem_cons.mp he with rfl | he
  · exact dn_words h 0
  rcases List.mem_cons.mp he with rfl | he
  · exact .inr (.inl ⟨_, rfl⟩)
  · rw [List.mem_singleton.mp he]
    exact .inr (.inr (.inl ⟨_, rfl⟩))⟩)))
theorem ok__law_book_right {f C : Addr} {fd : FuncData} {k : Nat} (F : Fun K "_law_book_right" "_law_book_right" s__law_book_right f fd) (n_len : mg "len" = none) (n_bool : mg "bool" = none) (n_repr : mg "repr" = none) (n_str : mg "str" = none) (ob_Book : PySem.W.findIn K (.ref C) "__bool__" = some none) (ol_Book : OwnF P w K mg base 1 C "__len__" (spBkLen C)) (or_Book : OwnF P w K mg base 1 C "__repr__" (spBkRepr C))
    (c_Book_learnt : CalM CX0 P w K mg base (k + 4) C "learnt" ["self"] (spLearnt C)) (c__law_same : Cal P w K mg base (k + 4) "_law_same" ["_law_found", "_law_due"] (spSame K 4)) : FnOk P w K mg base CX0 (k + 5) f fd ["_law_book", "_law_words"] (spLRight K C) := by
  have sc := sc__law_book_right
  refine F.ok sc (fun vs H Q E h => ?_) (fun cdv A outer s H vs Q E hr h => ?_)
  · obtain ⟨r, l, lw, P, Pw, rfl, _⟩ := h
    rfl
  · obtain ⟨r, l, lw, P, Pw, rfl, hbk, ht, hlw, htw, h61, ew, q⟩ := h
    refine ⟨_, (pss_cons (ps_set (i := 2) sc.nd rfl (.inl rfl) (pe_lst (pa_cons (pe_methC0 (pv 0) c_Book_learnt hr) (pa_cons (pe_callB (call_lenO ol_Book (hr.mono (by omega))) (by rfl) n_len PySem.boot_len (pa_cons (pv 0) pa_nil)) (pa_cons (pe_callB (call_reprO or_Book (hr.mono (by omega))) (by rfl) n_repr (by decide +kernel) (pa_cons (pv 0) pa_nil)) pa_nil)))))
 (pss_cons (ps_if (pt_not (pt_val (pe_callC c__law_same hr (by rfl) (pa_cons (pv 2) (pa_cons (pe_lst (pa_cons (pv 1) (pa_cons (pe_callB (call_lenK K rfl) (by rfl) n_len PySem.boot_len (pa_cons (pv 1) pa_nil)) (pa_cons (pe_op op_add_str (pe_op op_add_str pe_str (pe_callTy call_str_int (by rfl) n_str (by decide +kernel) (pa_cons (pe_callB (call_lenK K rfl) (by rfl) n_len PySem.boot_len (pa_cons (pv 1) pa_nil)) pa_nil))) pe_str) pa_nil)))) pa_nil)))))
  (pss_one (ps_ret pe_bl))
  pss_nil)
 (pss_cons (ps_expr (pe_bmK K rfl PySem.F.plainAttrs_list PySem.F.slot_list_append PySem.F.type_list_append mt_append (pe_methC0 (pv 0) c_Book_learnt hr) (pa_cons (pe_tup (pa_cons pe_int (pa_cons pe_int pa_nil))) pa_nil)))
 (pss_one (ps_ret (pe_cmpR op_eq (pe_callTy (call_boolO ob_Book ol_Book (hr.mono (by omega))) (by rfl) n_bool (by decide +kernel) (pa_cons (pv 0) pa_nil)) (pe_cmpR op_gt (pe_callB (call_lenK K rfl) (by rfl) n_len PySem.boot_len (pa_cons (pv 1) pa_nil)) pe_int (nomark _)) (nomark _))))))), ?_⟩
    obtain ⟨⟨dx, hins⟩, hmem⟩ := id hbk
    have hPl : P.length ≤ 44 := by have := h61.1; rw [wsOf_len] at this; exact this
    have ePl : Pw.length = P.length := by rw [← wsOf_len Pw, ew, wsOf_len]
    refine ⟨_, rfl, r, dx, _, rfl, hins, rfl, r, l, P, rfl, hbk, fun p1 n1 => ?_⟩
    have s1 := same_upd (o := .lst (refsW P)) n1
    refine ⟨_, rfl, r, dx, _, rfl, s1 _ _ hins, r, l, P, rfl, hbk.same s1, _, rfl, by omega, by omega, ?_⟩
    refine ⟨_, rfl, r, dx, _, rfl, s1 _ _ hins, r, l, P, rfl, hbk.same s1, by omega, _, rfl, ?_⟩
    refine ⟨(by show 3 ≤ sizeLine; decide), fun p2 n2 => ?_⟩
    have s2 := s1.trans (same_upd (o := .lst [.ref p1, .int (P.length : Int), .str (reprBk P.length)]) n2)
    have e1 : upd (upd H p1 (.lst (refsW P))) p2 (.lst [.ref p1, .int (P.length : Int), .str (reprBk P.length)]) p1 = some (.lst (refsW P)) := same_upd n2 _ _ upd_same
    have e2 : upd (upd H p1 (.lst (refsW P))) p2 (.lst [.ref p1, .int (P.length : Int), .str (reprBk P.length)]) p2 = some (.lst [.ref p1, .int (P.length : Int), .str (reprBk P.length)]) := upd_same
    generalize upd (upd H p1 (.lst (refsW P))) p2 (.lst [.ref p1, .int (P.length : Int), .str (reprBk P.length)]) = H2 at s2 e1 e2 ⊢
    refine name_by ?_
    dsimp only
    have hi : ((Pw.length : Int)).natAbs.log2 < 1000 := log_le (by omega)
    have el := PySem.int_text_length_le (k := 1000) (a := (Pw.length : Int)) (by decide) hi
    have els := PySem.ofString_length (toString (Pw.length : Int))
    have h5 : (("Book(" : Str)).length ≤ 1000 := by decide +kernel
    have h8 : ((" learnt)" : Str)).length ≤ 1000 := by decide +kernel
    refine ⟨_, rfl, _, rfl, _, rfl, lw, _, rfl, .inl (s2.seq hlw), _, rfl, lw, _, rfl, .inl (s2.seq hlw), (Pw.length : Int), (by rw [List.length_map]), (by omega), _, _, rfl, rfl, ?_, _, _, rfl, rfl, ?_, (by show 3 ≤ sizeLine; decide), fun p3 n3 => ?_⟩
    · rw [PySem.sizeLine_eq]
      omega
    · rw [PySem.Str.length_append, PySem.sizeLine_eq]
      omega
    have er : ("Book(" : Str) ++ (toString (Pw.length : Int) : String) ++ (" learnt)" : Str) = reprBk P.length := by
      rw [ePl]
      rfl
    rw [er, List.length_map, ePl]
    have s3 := s2.trans (same_upd (o := .lst [.ref lw, .int (P.length : Int), .str (reprBk P.length)]) n3)
    have s23 := same_upd (o := .lst [.ref lw, .int (P.length : Int), .str (reprBk P.length)]) n3
    have el' : (P.length : Int) = ((wsOf P).length : Int) := by rw [wsOf_len]
    have elr : reprBk P.length = reprBk (wsOf P).length := by rw [wsOf_len]
    refine ⟨.ref p2, .ref p3, dR (wsOf P), rfl, ?_, ?_, dn_R h61, shaped_R h61, fun H4 s4 => ⟨_, rfl, iteF ?_⟩⟩
    · rw [el', elr] at e2
      exact .lst (SqL.of (s23 _ _ e2)) (.cons (dp_words (SqL.of (s23 _ _ e1)) (ht.same s3)) (.cons (.int _) (.cons (.str _) .nil)))
    · refine .lst (SqL.of (show _ = some (HO.lst [.ref lw, .int ((wsOf P).length : Int), .str (reprBk (wsOf P).length)]) by rw [upd_same, el', elr])) (.cons ?_ (.cons (.int _) (.cons (.str _) .nil)))
      rw [← ew]
      exact dp_words (s3.seq hlw) (htw.same s3)
    have s5 := s3.trans s4
    refine ⟨_, rfl, r, dx, _, rfl, s5 _ _ hins, rfl, r, l, P, rfl, hbk.same s5, fun p6 n6 => ?_⟩
    have s6 := s5.trans (same_upd (o := .lst (refsW P)) n6)
    refine ⟨.inl ⟨rfl, _, SqL.of upd_same⟩, (by show 2 ≤ sizeLine; decide), fun p7 n7 => ?_⟩
    have s7 := s6.trans (same_upd (o := .tup [.int 1, .int 1]) n7)
    refine ⟨p6, _, _, rfl, rfl, same_upd n7 _ _ upd_same, (by rw [List.length_map]; exact sz4l (by omega)), ?_⟩
    have s8 : Same H (upd (upd (upd H4 p6 (.lst (refsW P))) p7 (.tup [.int 1, .int 1])) p6 (.lst (refsW P ++ [.ref p7]))) := same_mut s7 (s5.free n6)
    generalize upd (upd (upd H4 p6 (.lst (refsW P))) p7 (.tup [.int 1, .int 1])) p6 (.lst (refsW P ++ [.ref p7])) = H8 at s8 ⊢
    refine ⟨_, rfl, r, dx, _, rfl, s8 _ _ hins, r, l, P, rfl, hbk.same s8, _, rfl, by omega, by omega, ?_⟩
    refine ⟨_, rfl, lw, _, rfl, .inl (s8.seq hlw), _, _, rfl, rfl, rfl, ?_⟩
    have eb : decide (V.bl ((P.length : Int) != 0) = V.bl (decide ((0 : Int) < ((refsW Pw).length : Int)))) = true := by
      rw [List.length_map, ePl]
      by_cases z : P.length = 0
      · rw [z]
        decide
      · rw [decide_eq_true (show (0 : Int) < (P.length : Int) by omega), show ((P.length : Int) != 0) = true from by simpa using z]
        decide
    have := q H8 s8
    show Q (V.bl (decide (V.bl ((P.length : Int) != 0) = V.bl (decide ((0 : Int) < ((refsW Pw).length : Int)))))) H8
    rw [eb]
    exact this
/-! ### books among things that stand apart -/
theorem dn_ints (ns : List Int) (h : ns.length ≤ 100000) (n : Nat) : Dn (n + 2) (dI ns) := .inr (.inr (.inr (.inr ⟨_, .inl rfl, by rw [List.length_map]; exact h, fun e he => by
  obtain ⟨z, _, rfl⟩ := List.mem_map.mp he
  exact .inr (.inl ⟨z, rfl⟩)⟩)))
theorem in2b {a r b : Addr} (h : a ∈ [r, b]) : a = r ∨ a = b := by simpa using h
section
variable {L L' : List (Addr × List V)} {T0 : List (Addr × Str)} {Ts : List Th} {H H' : Hp} {C r l l' o x dx lt : Addr} {P P' : List WP} {xs ys zs : List V}
theorem Hw.knows (h : Hw K L T0 Ts H) (t : TF K L' H) : Hw K (L' ++ L) T0 Ts H := ⟨h.hs, fun p hp => (List.mem_append.mp hp).elim (t p) (h.tf p)⟩
theorem Hw.bkOp (h : Hw K L T0 Ts H) (i : Nat) (hi : Ts[i]? = some (tBk C r l P)) (m : MvF [r] H H') (nl : H l' = none) (no : H o = none) (nol : o ≠ l') (bk : Bk C r l' P' H') (ht : TF K (knW P') H') (eo : H' o = some (.lst xs)) : Hw K (knW P' ++ L) T0 (tL o xs :: Ts.set i (tBk C r l' P')) H' := by
  have hb : Bk C r l P H := h.get i hi
  obtain ⟨⟨dx, h1⟩, h2⟩ := hb
  refine (h.opNew (T := tBk C r l P) (T' := tBk C r l' P') (N := tL o xs) i hi m (fun a ha => by rw [in1 ha]; exact .inl (.head _)) bk (fun a ha => ?_) ⟨eo, trivial⟩ (fun a ha => ?_)).knows ht
  · rcases in2b ha with rfl | rfl
    · exact .inl (.head _)
    · exact .inr nl
  · rw [in1 ha]
    refine ⟨no, fun z => ?_⟩
    rcases in2b z with y | y
    · rw [y, h1] at no
      cases no
    · exact nol y
theorem Hw.lstOp (h : Hw K L T0 Ts H) (i : Nat) (hi : Ts[i]? = some (tL lt ys)) (m : MvF [lt] H H') (e : H' lt = some (.lst zs)) (ht : TF K L' H') (no : H o = none) (eo : H' o = some (.lst xs)) : Hw K (L' ++ L) T0 (tL o xs :: Ts.set i (tL lt zs)) H' := by
  have hb : H lt = some (.lst ys) := h.at i hi
  refine (h.opNew (T := tL lt ys) (T' := tL lt zs) (N := tL o xs) i hi m (fun a ha => .inl ha) ⟨e, trivial⟩ (fun a ha => .inl ha) ⟨eo, trivial⟩ (fun a ha => ?_)).knows ht
  rw [in1 ha]
  refine ⟨no, fun z => ?_⟩
  rw [in1 z, hb] at no
  cases no
theorem Hw.bkNew (h : Hw K L T0 Ts H) (nx : H x = none) (ndx : H dx = none) (m : MvF [x] (upd (upd H dx (.own x)) x (.ins C dx [])) H') (nl : upd (upd H dx (.own x)) x (.ins C dx []) l = none) (bk : Bk C x l [] H') : Hw K L T0 (tBk C x l [] :: Ts) H' :=
  h.new (T := tBk C x l []) (made_same nx ndx m) bk (fun a ha => by
    rcases in2b ha with rfl | rfl
    · exact nx
    · exact made_none nl)
theorem Hw.bk (h : Hw K L T0 Ts H) (i : Nat) (hi : Ts[i]? = some (tBk C r l P)) : Bk C r l P H := h.get i hi
theorem Hw.newL (h : Hw K L T0 Ts H) (n : H o = none) : Hw K L T0 (tL o xs :: Ts) (upd H o (.lst xs)) := h.newHU (o := .lst xs) n
end
theorem sc__law_at : FnScope ["_law_act", "e"] ["_law_act"] (defScope s__law_at) := ⟨rfl, rfl, rfl, by decide +kernel, rfl, by decide +kernel, by decide +kernel⟩
theorem at_gives {X : Cx} {g cB cY cF cC cL : Addr} {cdg : Value} {q : Str} (aB : AtC X.K X.mg "BadBit" cB) (aY : AtC X.K X.mg "BadByte" cY) (aF : AtC X.K X.mg "BadFrame" cF) (aC : AtC X.K X.mg "BadCode" cC) (gL : X.mg "LineError" = some (.ref cL))
    (bb : PySem.W.exmOne X.K (.ref cB) (.ref cB) = some true) (yb : PySem.W.exmOne X.K (.ref cY) (.ref cB) = some false) (yy : PySem.W.exmOne X.K (.ref cY) (.ref cY) = some true)
    (fb : PySem.W.exmOne X.K (.ref cF) (.ref cB) = some false) (fy : PySem.W.exmOne X.K (.ref cF) (.ref cY) = some false) (ff : PySem.W.exmOne X.K (.ref cF) (.ref cF) = some true)
    (cb : PySem.W.exmOne X.K (.ref cC) (.ref cB) = some false) (cy : PySem.W.exmOne X.K (.ref cC) (.ref cY) = some false) (cf : PySem.W.exmOne X.K (.ref cC) (.ref cF) = some false) (cc : PySem.W.exmOne X.K (.ref cC) (.ref cC) = some true) :
    LamX.GivesTo X ["_law_act", "e"] "_law_at" (defScope s__law_at) g cdg (defBody s__law_at) "_law_act" q (TAt [(cB, "BadBit"), (cY, "BadByte"), (cF, "BadFrame"), (cC, "BadCode")]) := by
  intro f c' s H Q tl act hc h
  have sc := sc__law_at
  refine ⟨_, pss_cons (ps_try_manyA (X := (cxOf C8.CX0 X.prog X.w X.K X.mg X.base ["_law_act", "e"] "_law_at" (defScope s__law_at) g cdg X.A X.stack s H C8.E0).nox) (n := "e") (i := 1)
      (tb := fun W D σ H => ∃ Ech : XK, (∀ cls d σ' H', Ech cls d H' → σ'.length = 2 → W cls d σ' H') ∧ σ[0]? = some (some (.ref f)) ∧ H c' = some (LamX.CodeO c' q) ∧ tl Ech H (fun _ H1 => D.nx σ H1))
      rfl rfl sc.nd rfl rfl LamX.takes0 (fun W pn xe tk _ => ?_)
      (.cons (c := .ref cB) ⟨by rfl, by decide, .inl aB.gC⟩ (fun a oe cls d pn hz hf => pss_one (ps_ret (pe_lst (pa_cons pe_str (pa_cons (pe_xf aB.xf aB.no hz hf (pv 1)) pa_nil)))))
      (.cons (c := .ref cY) ⟨by rfl, by decide, .inl aY.gC⟩ (fun a oe cls d pn hz hf => pss_one (ps_ret (pe_lst (pa_cons pe_str (pa_cons (pe_xf aY.xf aY.no hz hf (pv 1)) pa_nil)))))
      (.cons (c := .ref cF) ⟨by rfl, by decide, .inl aF.gC⟩ (fun a oe cls d pn hz hf => pss_one (ps_ret (pe_lst (pa_cons pe_str (pa_cons (pe_xf aF.xf aF.no hz hf (pv 1)) pa_nil)))))
      (.cons (c := .ref cC) ⟨by rfl, by decide, .inl aC.gC⟩ (fun a oe cls d pn hz hf => pss_one (ps_ret (pe_lst (pa_cons pe_str (pa_cons (pe_xf aC.xf aC.no hz hf (pv 1)) pa_nil)))))
      (.cons (c := .ref cL) ⟨by rfl, by decide, .inl gL⟩ (fun a oe cls d pn hz hf => pss_one ps_never) .nil)))))) (pss_one ps_never), ?_⟩
  · refine ⟨fun pins s' σ H' D I h' => ?_⟩
    obtain ⟨Ech, hW, h1, h2, h3⟩ := h'
    exact PSs.run (pss_one (ps_expr (act _ pn xe Ech _ _ (takes_len tk) (fun cls d σ' H' e hl => hW cls d σ' H' e hl)))) pins s' σ H' D I ⟨h1, h2, h3⟩
  · refine ⟨_, fun cls d σ' H' e hl => ?_, rfl, hc, h⟩
    obtain ⟨e, he, rfl, dd, v, rfl, hd, q'⟩ := e
    have g1 : ∀ a : Addr, (σ'.set 1 (some (V.ref a)))[1]? = some (some (V.ref a)) := fun a => set_get (by omega)
    have fin : ∀ (a : Addr) (nm : Str), H' dd = some (.xd [(("at" : Str), v), (("word" : Str), .str nm)]) → (∀ p, H' p = none → Q (.ref p) (upd H' p (.lst [.str nm, v]))) → ∀ (C : Addr), 
        tRet (tLst (tCons (tC (.str nm)) (tCons (tXf a (.ref C) (some dd) C "at" (tVar 1)) tNil))) (asEnds 1 { nx := fun _ H' => Q .non H', rt := Q }) (σ'.set 1 (some (.ref a))) H' := fun a nm h1 h2 C =>
      ⟨_, g1 a, rfl, rfl, dd, _, v, rfl, h1, rfl, (by show 2 ≤ sizeLine; decide), h2⟩
    rcases List.mem_cons.mp he with rfl | he
    · exact ⟨true, bb, fun _ a _ => fin a _ hd q' _, fun z => by cases z⟩
    rcases List.mem_cons.mp he with rfl | he
    · exact ⟨false, yb, (fun z => by cases z), fun _ => ⟨true, yy, fun _ a _ => fin a _ hd q' _, fun z => by cases z⟩⟩
    rcases List.mem_cons.mp he with rfl | he
    · exact ⟨false, fb, (fun z => by cases z), fun _ => ⟨false, fy, (fun z => by cases z), fun _ => ⟨true, ff, fun _ a _ => fin a _ hd q' _, fun z => by cases z⟩⟩⟩
    rw [List.mem_singleton.mp he] at hd q' ⊢
    exact ⟨false, cb, (fun z => by cases z), fun _ => ⟨false, cy, (fun z => by cases z), fun _ => ⟨false, cf, (fun z => by cases z), fun _ => ⟨true, cc, fun _ a _ => fin a _ hd q' _, fun z => by cases z⟩⟩⟩⟩
theorem sc__law_most : FnScope ["_law_act", "e"] ["_law_act"] (defScope s__law_most) := ⟨rfl, rfl, rfl, by decide +kernel, rfl, by decide +kernel, by decide +kernel⟩
theorem most_gives {X : Cx} {g cT cU cL : Addr} {cdg : Value} {q : Str} (gT : X.mg "TooLong" = some (.ref cT)) (xT : XfC X.K cT) (noT : PySem.W.findIn X.K (.ref cT) "most" = some none) (gU : X.mg "Full" = some (.ref cU)) (gL : X.mg "LineError" = some (.ref cL))
    (tt : PySem.W.exmOne X.K (.ref cT) (.ref cT) = some true) :
    LamX.GivesTo X ["_law_act", "e"] "_law_most" (defScope s__law_most) g cdg (defBody s__law_most) "_law_act" q (TMost cT "TooLong") := by
  intro f c' s H Q tl act hc h
  have sc := sc__law_most
  refine ⟨_, pss_cons (ps_try_manyA (X := (cxOf C8.CX0 X.prog X.w X.K X.mg X.base ["_law_act", "e"] "_law_most" (defScope s__law_most) g cdg X.A X.stack s H C8.E0).nox) (n := "e") (i := 1)
      (tb := fun W D σ H => ∃ Ech : XK, (∀ cls d σ' H', Ech cls d H' → σ'.length = 2 → W cls d σ' H') ∧ σ[0]? = some (some (.ref f)) ∧ H c' = some (LamX.CodeO c' q) ∧ tl Ech H (fun _ H1 => D.nx σ H1))
      rfl rfl sc.nd rfl rfl LamX.takes0 (fun W pn xe tk _ => ?_)
      (.cons (c := .ref cT) ⟨by rfl, by decide, .inl gT⟩ (fun a oe cls d pn hz hf => pss_one (ps_ret (pe_lst (pa_cons pe_str (pa_cons (pe_xf xT noT hz hf (pv 1)) pa_nil)))))
      (.cons (c := .ref cU) ⟨by rfl, by decide, .inl gU⟩ (fun a oe cls d pn hz hf => pss_one ps_never)
      (.cons (c := .ref cL) ⟨by rfl, by decide, .inl gL⟩ (fun a oe cls d pn hz hf => pss_one ps_never) .nil)))) (pss_one ps_never), ?_⟩
  · refine ⟨fun pins s' σ H' D I h' => ?_⟩
    obtain ⟨Ech, hW, h1, h2, h3⟩ := h'
    exact PSs.run (pss_one (ps_expr (act _ pn xe Ech _ _ (takes_len tk) (fun cls d σ' H' e hl => hW cls d σ' H' e hl)))) pins s' σ H' D I ⟨h1, h2, h3⟩
  · refine ⟨_, fun cls d σ' H' e hl => ?_, rfl, hc, h⟩
    obtain ⟨rfl, dd, v, rfl, hd, q'⟩ := e
    have g1 : ∀ a : Addr, (σ'.set 1 (some (V.ref a)))[1]? = some (some (V.ref a)) := fun a => set_get (by omega)
    exact ⟨true, tt, fun _ a _ => ⟨_, g1 a, rfl, rfl, dd, _, v, rfl, hd, rfl, (by show 2 ≤ sizeLine; decide), q'⟩, fun z => by cases z⟩
theorem Hw.extN {L : List (Addr × List V)} {T0 : List (Addr × Str)} {Ts : List Th} {H H' : Hp} (h : Hw K L T0 Ts H) (e : LamX.ExtN H H') (t : LamX.Tabs T0 H') : Hw K L T0 Ts H' := ⟨h.hs.extN e t, fun p hp => by
  rcases h.tf p hp with (g | ⟨o, g⟩) | g
  · exact .inl (.inl (e _ _ g (fun ps z => by cases z)))
  · exact .inl (.inr ⟨o, e _ _ g (fun ps z => by cases z)⟩)
  · exact .inr g⟩
theorem Hw.tab {L : List (Addr × List V)} {T0 : List (Addr × Str)} {Ts : List Th} {H : Hp} (h : Hw K L T0 Ts H) : LamX.Tabs T0 H := h.hs.tab
abbrev qLam : Str := "law.<locals>.<lambda>"
def spLaw (K : PySem.W.Frag) (tP : Addr) : Sp := fun vs H Q _ => ∃ (a : Addr) (ns : List Int), vs = [.ref a] ∧ SqL K H a (ns.map V.int) ∧ H tP = some (.tbl #[]) ∧ ∀ H', Q (.bl true) H'
theorem dp_si {H : Hp} {a : Addr} {x : Str} {i : Int} (h : H a = some (.lst [.str x, .int i])) : Dp K H (.ref a) (.list [.str x, .int i]) := .lst (SqL.of h) (.cons (.str x) (.cons (.int i) .nil))
theorem shaped_si {x : Str} (hx : PyData.canLay0 (.str x) = true) (i : Int) : SeqAt.shaped (.list [.str x, .int i]) = true := by
  unfold SeqAt.shaped
  rw [Bool.and_eq_true]
  refine ⟨?_, decide_eq_true (by show max 0 (max 0 0) + 1 ≤ 64; decide)⟩
  show (PyData.canLay0 (.str x) && (true && true)) = true
  rw [hx]
  rfl
theorem lay_BadFrame : PyData.canLay0 (.str "BadFrame") = true := by decide +kernel
theorem lay_BadBit : PyData.canLay0 (.str "BadBit") = true := by decide +kernel
theorem lay_BadByte : PyData.canLay0 (.str "BadByte") = true := by decide +kernel
theorem lay_BadCode : PyData.canLay0 (.str "BadCode") = true := by decide +kernel
theorem lay_TooLong : PyData.canLay0 (.str "TooLong") = true := by decide +kernel
/-- what was told is what was due: != tells False -/
theorem neD_si {H : Hp} {a c : Addr} {x : Str} {i : Int} {Q : VK} (hx : PyData.canLay0 (.str x) = true) (h1 : H a = some (.lst [.str x, .int i])) (h2 : H c = some (.lst [.str x, .int i])) (q : Q (.bl false) H) : rNeD K (.ref a) (.ref c) H Q := by
  refine ⟨_, _, dp_si h1, dp_si h2, shaped_si hx _, shaped_si hx _, ?_⟩
  rw [SeqAt.eqv_refl _ (SeqAt.canLay_of_shaped (shaped_si hx i))]
  exact q
/-! ### unpack refused -/
theorem bkUn_uneven {ws : Wds} {row e : List Int} (h1 : 1 ≤ e.length) (h2 : e.length ≤ 7) : bkUnpack ws (bkPack ws row ++ e) = .frame (bkPack ws row ++ e).length := by
  unfold bkPack
  split
  · rw [List.cons_append, bkUnpack_cons, if_neg (by decide), List.length_append, bb_len, if_pos (by omega), List.length_cons, List.length_append, bb_len]
  · rw [List.cons_append, bkUnpack_cons, if_pos rfl, List.length_append, nb_len, if_pos (by omega), List.length_cons, List.length_append, nb_len]
theorem bkUn_first {ws : Wds} {f : Int} {e : List Int} {k : Nat} (hf : f = 0 ∧ e.length = 9 * k ∨ f = 1 ∧ e.length = 8 * k) (h1 : 1 ≤ k) (h2 : k ≤ 7) : bkUnpack ws (f :: e) = .frame (f :: e).length := by
  rw [bkUnpack_cons]
  rcases hf with ⟨rfl, he⟩ | ⟨rfl, he⟩
  · rw [if_neg (by decide), if_pos (by omega)]
    rfl
  · rw [if_pos rfl, if_pos (by omega)]
    rfl
theorem bkUn_wide {ws : Wds} {e : List Int} {k : Nat} (he : e.length = 8 * k) (hk : 60 < k) : bkUnpack ws (0 :: e) = .long := by
  rw [bkUnpack_cons, if_neg (by decide), if_neg (by omega), if_pos (by omega)]
theorem bkUn_longer {ws : Wds} {e : List Int} (he : e.length % 8 ≠ 0) : bkUnpack ws (0 :: e) = .frame (0 :: e).length := by
  rw [bkUnpack_cons, if_neg (by decide), if_pos he]
  rfl
theorem bkLen_cons' (ws : Wds) (a f : List Int) (i : Nat) (c : Int) (cs : List Int) : bkLen ws a f i (c :: cs) = if c < 0 ∨ 256 + (ws.length : Int) ≤ c then .inl i
    else if 60 < f.length + (bkWord ws c).length then .inl i else bkLen (bkLearn ws a (bkWord ws c)) (bkWord ws c) (f ++ bkWord ws c) (i + 1) cs := rfl
theorem bkLen_pre (rest : List Int) : ∀ (k : Nat) (r : List Int) (ws : Wds) (a f : List Int) (i : Nat), (∀ z ∈ r, 0 ≤ z ∧ z < 256) → f.length + r.length ≤ 60 → ws.length ≤ 44 → ∃ (ws' : Wds) (a' f' : List Int), ws'.length ≤ 44 ∧ bkLen ws a f i ((bkGo ws a r).1.take k ++ rest) = bkLen ws' a' f' (i + min k (bkGo ws a r).1.length) rest
  | 0, r, ws, a, f, i, _, _, h => ⟨ws, a, f, h, by rw [List.take_zero, List.nil_append, Nat.zero_min, Nat.add_zero]⟩
  | k + 1, [], ws, a, f, i, _, _, h => ⟨ws, a, f, h, by rw [bkGo_nil, List.take_nil, List.nil_append, List.length_nil, Nat.min_zero, Nat.add_zero]⟩
  | k + 1, x :: r, ws, a, f, i, hb, h60, h => by
    have hne : x :: r ≠ [] := by simp
    obtain ⟨hc, hw⟩ := bk_code_word (ws := ws) hne hb
    have hi := (bk_is hne ws).hi
    obtain ⟨ws', a', f', h', e⟩ := bkLen_pre rest k ((x :: r).drop (bkSize (x :: r) ws)) (bkLearn ws a ((x :: r).take (bkSize (x :: r) ws))) ((x :: r).take (bkSize (x :: r) ws)) (f ++ (x :: r).take (bkSize (x :: r) ws)) (i + 1) (fun z hz => hb z (List.mem_of_mem_drop hz)) (by rw [List.length_append, List.length_take, List.length_drop]; omega) (bkLearn_room h)
    refine ⟨ws', a', f', h', ?_⟩
    rw [bkGo_cons hne, List.take_succ_cons, List.cons_append, bkLen_cons', if_neg (by omega), hw, if_neg (by rw [List.length_take]; omega), e]
    congr 1
    rw [List.length_cons]
    omega
theorem bkUn_strange {ws : Wds} {row : List Int} {x : Int} (hb : Bytes row) (hl : row.length ≤ 60) (hw : W61 ws) (h0 : 0 ≤ x) (h1 : x < 212) : bkUnpack ws (1 :: nb 9 ((bkShort ws row).1.take 3 ++ [300 + x, 5])) = .code (min 3 (bkShort ws row).1.length) := by
  rw [bkUnpack_codes (fun c hc => by
    rcases List.mem_append.mp hc with h | h
    · have := bkShort_codes (ws := ws) hb c (List.mem_of_mem_take h)
      omega
    rcases List.mem_cons.mp h with rfl | h
    · omega
    · rw [List.mem_singleton.mp h]
      decide)]
  unfold bkUn1 bkLong bkShort
  obtain ⟨ws', a', f', h', e⟩ := bkLen_pre [300 + x, 5] 3 row (bkBegun ws) [] [] 0 hb (by simpa using hl) (bkBegun_room ws)
  rw [e, bkLen_cons', if_pos (by omega), Nat.zero_add]
section
variable {C cB cF cL cC r l a : Addr} {P : List WP} {bs : List Int} {H : Hp} {Q : VK} {E : XK}
theorem unp_frame {n : Nat} (hb : Bk C r l P H) (ht : TF K (knW P) H) (w : W61 (wsOf P)) (hS : SqL K H a (bs.map V.int)) (hl : bs.length ≤ 10000) (hB : Bits bs) (eu : bkUnpack (wsOf P) bs = .frame n)
    (q : ∀ H' d, Same H H' → H d = none → H' d = some (.xd [(("at" : Str), .int (n : Int)), (("word" : Str), .str "BadFrame")]) → E (.ref cF) (some d) H') : spUnpack K C cB cF cL cC [.ref r, .ref a] H Q E :=
  ⟨r, l, a, P, bs, rfl, hb, ht, w, hS, hl, (fun _ row ws' e => by rw [eu] at e; cases e), (fun _ m e => by rw [eu] at e; cases e; exact q), (fun _ e => by rw [eu] at e; cases e), (fun _ i e => by rw [eu] at e; cases e), (fun i z hz nz => absurd (hB z (List.mem_of_getElem? hz)) nz)⟩
theorem unp_long (hb : Bk C r l P H) (ht : TF K (knW P) H) (w : W61 (wsOf P)) (hS : SqL K H a (bs.map V.int)) (hl : bs.length ≤ 10000) (hB : Bits bs) (eu : bkUnpack (wsOf P) bs = .long)
    (q : ∀ H' d, Same H H' → H d = none → H' d = some (.xd [(("most" : Str), .int 60), (("word" : Str), .str "TooLong")]) → E (.ref cL) (some d) H') : spUnpack K C cB cF cL cC [.ref r, .ref a] H Q E :=
  ⟨r, l, a, P, bs, rfl, hb, ht, w, hS, hl, (fun _ row ws' e => by rw [eu] at e; cases e), (fun _ m e => by rw [eu] at e; cases e), (fun _ _ => q), (fun _ i e => by rw [eu] at e; cases e), (fun i z hz nz => absurd (hB z (List.mem_of_getElem? hz)) nz)⟩
theorem unp_code {n : Nat} (hb : Bk C r l P H) (ht : TF K (knW P) H) (w : W61 (wsOf P)) (hS : SqL K H a (bs.map V.int)) (hl : bs.length ≤ 10000) (hB : Bits bs) (eu : bkUnpack (wsOf P) bs = .code n)
    (q : ∀ H' d, Same H H' → H d = none → H' d = some (.xd [(("at" : Str), .int (n : Int)), (("word" : Str), .str "BadCode")]) → E (.ref cC) (some d) H') : spUnpack K C cB cF cL cC [.ref r, .ref a] H Q E :=
  ⟨r, l, a, P, bs, rfl, hb, ht, w, hS, hl, (fun _ row ws' e => by rw [eu] at e; cases e), (fun _ m e => by rw [eu] at e; cases e), (fun _ e => by rw [eu] at e; cases e), (fun _ i e => by rw [eu] at e; cases e; exact q), (fun i z hz nz => absurd (hB z (List.mem_of_getElem? hz)) nz)⟩
theorem unp_bit {n : Nat} (hb : Bk C r l P H) (ht : TF K (knW P) H) (w : W61 (wsOf P)) (hS : SqL K H a (bs.map V.int)) (hl : bs.length ≤ 10000) (hB : ¬ Bits bs) (hn : ∀ (j : Nat) (y : Int), bs[j]? = some y → ¬ isB y → Bits (bs.take j) → j = n)
    (q : ∀ H' d, Same H H' → H d = none → H' d = some (.xd [(("at" : Str), .int (n : Int)), (("word" : Str), .str "BadBit")]) → E (.ref cB) (some d) H') : spUnpack K C cB cF cL cC [.ref r, .ref a] H Q E :=
  ⟨r, l, a, P, bs, rfl, hb, ht, w, hS, hl, (fun hh => absurd hh hB), (fun hh => absurd hh hB), (fun hh => absurd hh hB), (fun hh => absurd hh hB), (fun i z hz nz hbi => by rw [hn i z hz nz hbi]; exact q)⟩
theorem unp_ok {row : List Int} {ws' : Wds} (hb : Bk C r l P H) (ht : TF K (knW P) H) (w : W61 (wsOf P)) (hS : SqL K H a (bs.map V.int)) (hl : bs.length ≤ 10000) (hB : Bits bs) (eu : bkUnpack (wsOf P) bs = .ok row ws')
    (q : ∀ (H' : Hp) (l' o : Addr) (P' : List WP), MvF [r] H H' → H l' = none → H o = none → o ≠ l' → Bk C r l' P' H' → TF K (knW P') H' → wsOf P' = ws' → H' o = some (.lst (row.map V.int)) → Q (.ref o) H') : spUnpack K C cB cF cL cC [.ref r, .ref a] H Q E :=
  ⟨r, l, a, P, bs, rfl, hb, ht, w, hS, hl, (fun _ row' ws'' e => by rw [eu] at e; cases e; exact q), (fun _ m e => by rw [eu] at e; cases e), (fun _ e => by rw [eu] at e; cases e), (fun _ i e => by rw [eu] at e; cases e), (fun i z hz nz => absurd (hB z (List.mem_of_getElem? hz)) nz)⟩
end
theorem sc__law_full_then_none : FnScope ["_law_bag_here", "_law_first", "_law_by", "_law_row_here", "_law_books", "_law_told", "_law_k", "_law_book"] ["_law_bag_here"] (defScope s__law_full_then_none) := ⟨rfl, rfl, rfl, by decide +kernel, rfl, by decide +kernel, by decide +kernel⟩
def spFull : Sp := fun vs H Q _ => ∃ (b : Addr × Addr), vs = [.ref b.1] ∧ Bag b H ∧ ∀ H', Q (.bl true) H'
def dLL (ls : List (List Int)) : PyData := .list (ls.map dI)
theorem canLay_LL : ∀ ls : List (List Int), PyData.canLayAll0 (ls.map dI) = true
  | [] => rfl
  | u :: ls => by
    show (PyData.canLayAll0 (u.map PyData.int) && PyData.canLayAll0 (ls.map dI)) = true
    rw [canLay_ints, canLay_LL ls]
    rfl
theorem depth_LL : ∀ ls : List (List Int), PyData.depthAll (ls.map dI) ≤ 1
  | [] => Nat.zero_le _
  | u :: ls => by
    show max (PyData.depthAll (u.map PyData.int) + 1) (PyData.depthAll (ls.map dI)) ≤ 1
    rw [depth_ints]
    exact Nat.max_le.mpr ⟨Nat.le_refl _, depth_LL ls⟩
theorem shaped_LL (ls : List (List Int)) : SeqAt.shaped (dLL ls) = true := by
  unfold SeqAt.shaped
  rw [Bool.and_eq_true]
  refine ⟨canLay_LL ls, decide_eq_true ?_⟩
  show PyData.depthAll (ls.map dI) + 1 ≤ 64
  have := depth_LL ls
  omega
theorem dn_LL {ls : List (List Int)} (h : ls.length ≤ 1000) (h2 : ∀ u ∈ ls, u.length ≤ 1000) (n : Nat) : Dn (n + 3) (dLL ls) := .inr (.inr (.inr (.inr ⟨_, .inl rfl, by rw [List.length_map]; omega, fun e he => by
  obtain ⟨u, hu, rfl⟩ := List.mem_map.mp he
  exact dn_ints u (by have := h2 u hu; omega) n⟩)))
theorem dpa_nils {H : Hp} : ∀ ps : List Addr, (∀ p ∈ ps, H p = some (.lst [])) → DpAll K H (ps.map V.ref) ((List.replicate ps.length ([] : List Int)).map dI)
  | [], _ => .nil
  | p :: ps, h => .cons (dp_ints (ns := []) (SqL.of (h p (.head _)))) (dpa_nils ps (fun q hq => h q (.tail _ hq)))
theorem short_none {ws : Wds} (h : ws.length = 44) : bkShort ws [] = ([], []) := by
  unfold bkShort
  rw [bkGo_nil]
  unfold bkBegun
  rw [if_neg (by omega)]
theorem long_none {ws : Wds} (h : ws.length = 44) : bkLong ws [] = .inr ([], []) := by
  unfold bkLong bkBegun
  rw [if_neg (by omega)]
  rfl
theorem pack_none {ws : Wds} : bkPack ws [] = [0] := by
  unfold bkPack
  rw [if_pos (show 8 * ([] : List Int).length ≤ 9 * (bkShort ws []).1.length from Nat.zero_le _)]
  rfl
theorem unpack_none {ws : Wds} (h : ws.length = 44) : bkUnpack ws [0] = .ok [] [] := by
  have := bkUnpack_bytes (ws := ws) (row := []) (fun z hz => absurd hz List.not_mem_nil) (Nat.zero_le _)
  rw [short_none h] at this
  exact this
theorem ok__law_full_then_none {f C cY cL cB cF cC : Addr} {fd : FuncData} {k : Nat} (F : Fun K "_law_full_then_none" "_law_full_then_none" s__law_full_then_none f fd) (n_len : mg "len" = none) (n_list : mg "list" = none) (n_range : mg "range" = none) (c_Book : CalN P w K mg base (k + 2) "Book" C ["self"] (spBkI C)) (c_Book_shorten : CalM (L2.CX P w) P w K mg base (k + 3) C "shorten" ["self", "row"] (spShort K C cY cL)) (c_Book_lengthen : CalM (L2.CX P w) P w K mg base (k + 3) C "lengthen" ["self", "codes"] (spLong K C cC)) (c_Book_pack : CalM (L2.CX P w) P w K mg base (k + 3) C "pack" ["self", "row"] (spPack K C cY cL)) (c_Book_unpack : CalM (L2.CX P w) P w K mg base (k + 3) C "unpack" ["self", "bits"] (spUnpack K C cB cF cL cC)) (c_Book_learnt : CalM CX0 P w K mg base (k + 3) C "learnt" ["self"] (spLearnt C)) (ol_Book : OwnF P w K mg base 1 C "__len__" (spBkLen C))
    (c__law_pick : Cal P w K mg base (k + 3) "_law_pick" ["_law_bag_here", "_law_top"] spPick) (c__law_same : Cal P w K mg base (k + 3) "_law_same" ["_law_found", "_law_due"] (spSame K 4)) (c__law_bytes_bits : Cal P w K mg base (k + 3) "_law_bytes_bits" ["_law_signs"] (spLbb K)) : FnOk P w K mg base CX0 (k + 4) f fd ["_law_bag_here"] spFull := by
  have sc := sc__law_full_then_none
  refine F.ok sc (fun vs H Q E h => ?_) (fun cdv A outer s H vs Q E hr h => ?_)
  · obtain ⟨b, rfl, _⟩ := h
    rfl
  · obtain ⟨b, rfl, hB, q⟩ := h
    refine ⟨_, (pss_cons (ps_asg (pe_tup (pa_cons (pe_callC c__law_pick hr (by rfl) (pa_cons (pv 0) (pa_cons pe_int pa_nil))) (pa_cons (pe_op op_add pe_int (pe_op op_mul pe_int (pe_callC c__law_pick hr (by rfl) (pa_cons (pv 0) (pa_cons pe_int pa_nil))))) pa_nil))) (pg_tup rfl (pgs_cons (pg_name (i := 1) sc.nd rfl (.inr rfl)) (pgs_cons (pg_name (i := 2) sc.nd rfl (.inr rfl)) pgs_nil))))
 (pss_cons (ps_setLc (i := 3) (own := [("_law_k", 6)]) (g := gName 6) (by rfl) sc.nd rfl rfl (sw_true rfl rfl rfl (by decide +kernel)) (pi_range1 (by rfl) n_range (pa_cons pe_int pa_nil)) (blkOk_by (own := [("_law_k", 6)]) (N := ["_law_bag_here", "_law_first", "_law_by", "_law_row_here", "_law_books", "_law_told", "_law_k", "_law_book"]) (sc := defScope s__law_full_then_none) (by decide +kernel)) (fun _ _ _ _ _ => (pg_name (i := 6) sc.nd rfl (Or.inl rfl))) (fun _ _ _ _ _ => pts_nil) (fun _ _ _ _ _ => (pe_op op_mod (pe_op op_add (pv 1) (pe_op op_mul (pv 6) (pv 2))) pe_int)))
 (pss_cons (ps_set (i := 4) sc.nd rfl (.inl rfl) (pe_lst (pa_cons (pe_makeC0 c_Book hr (by rfl)) (pa_cons (pe_makeC0 c_Book hr (by rfl)) (pa_cons (pe_makeC0 c_Book hr (by rfl)) (pa_cons (pe_makeC0 c_Book hr (by rfl)) pa_nil))))))
 (pss_cons (ps_set (i := 5) sc.nd rfl (.inl rfl) (pe_lst (pa_cons (pe_methF (pe_ix (ix_listK K rfl) (pv 4) pe_int (fun _ _ => rfl)) c_Book_shorten hr (pa_cons (pe_callTy (call_listK K rfl) (by rfl) n_list (by decide +kernel) (pa_cons (pv 3) pa_nil)) pa_nil)) (pa_cons (pe_methF (pe_ix (ix_listK K rfl) (pv 4) pe_int (fun _ _ => rfl)) c_Book_lengthen hr (pa_cons (pe_callTy (call_listK K rfl) (by rfl) n_list (by decide +kernel) (pa_cons (pv 3) pa_nil)) pa_nil)) pa_nil))))
 (pss_cons (ps_set (i := 5) sc.nd rfl (.inl rfl) (pe_op op_cat (pv 5) (pe_lst (pa_cons (pe_methF (pe_ix (ix_listK K rfl) (pv 4) pe_int (fun _ _ => rfl)) c_Book_pack hr (pa_cons (pe_callTy (call_listK K rfl) (by rfl) n_list (by decide +kernel) (pa_cons (pv 3) pa_nil)) pa_nil)) (pa_cons (pe_methF (pe_ix (ix_listK K rfl) (pv 4) pe_int (fun _ _ => rfl)) c_Book_unpack hr (pa_cons (pe_op op_cat (pe_lst (pa_cons pe_int pa_nil)) (pe_callC c__law_bytes_bits hr (by rfl) (pa_cons (pv 3) pa_nil))) pa_nil)) pa_nil)))))
 (pss_cons (ps_if (PW.pt (pw_or (pt_not (pt_val (pe_callC c__law_same hr (by rfl) (pa_cons (pv 5) (pa_cons (pe_lst (pa_cons (pv 3) (pa_cons (pv 3) (pa_cons (pe_op op_cat (pe_lst (pa_cons pe_int pa_nil)) (pe_callC c__law_bytes_bits hr (by rfl) (pa_cons (pv 3) pa_nil))) (pa_cons (pv 3) pa_nil))))) pa_nil))))) (pw_or1 (pt_cmpR (op_neDK K rfl hr.units) (pe_lc (own := [("_law_book", 7)]) (g := gName 7) (by rfl) sc.nd (pi_listK K rfl (pv 4)) (blkOk_by (own := [("_law_book", 7)]) (N := ["_law_bag_here", "_law_first", "_law_by", "_law_row_here", "_law_books", "_law_told", "_law_k", "_law_book"]) (sc := defScope s__law_full_then_none) (by decide +kernel)) (fun _ _ _ _ _ => (pg_name (i := 7) sc.nd rfl (Or.inl rfl))) (fun _ _ _ _ _ => pts_nil) (fun _ _ _ _ _ => (pe_callB (call_lenO ol_Book (hr.mono (by omega))) (by rfl) n_len PySem.boot_len (pa_cons (pv 7) pa_nil)))) (pe_op op_rep (pe_lst (pa_cons pe_int pa_nil)) pe_int) (nomark _)))))
  (pss_one (ps_ret pe_bl))
  pss_nil)
 (pss_cons (ps_set (i := 5) sc.nd rfl (.inl rfl) (pe_lst (pa_cons (pe_methF (pe_ix (ix_listK K rfl) (pv 4) pe_int (fun _ _ => rfl)) c_Book_shorten hr (pa_cons (pe_lst pa_nil) pa_nil)) (pa_cons (pe_methF (pe_ix (ix_listK K rfl) (pv 4) pe_int (fun _ _ => rfl)) c_Book_lengthen hr (pa_cons (pe_lst pa_nil) pa_nil)) (pa_cons (pe_methF (pe_ix (ix_listK K rfl) (pv 4) pe_int (fun _ _ => rfl)) c_Book_pack hr (pa_cons (pe_lst pa_nil) pa_nil)) (pa_cons (pe_methF (pe_ix (ix_listK K rfl) (pv 4) pe_int (fun _ _ => rfl)) c_Book_unpack hr (pa_cons (pe_lst (pa_cons pe_int pa_nil)) pa_nil)) pa_nil))))))
 (pss_one (ps_ret (pe_and (pe_callC c__law_same hr (by rfl) (pa_cons (pv 5) (pa_cons (pe_lst (pa_cons (pe_lst pa_nil) (pa_cons (pe_lst pa_nil) (pa_cons (pe_lst (pa_cons pe_int pa_nil)) (pa_cons (pe_lst pa_nil) pa_nil))))) pa_nil))) (pe_one (pe_cmpR (op_eqDK K rfl hr.units) (pe_lc (own := [("_law_book", 7)]) (g := gName 7) (by rfl) sc.nd (pi_listK K rfl (pv 4)) (blkOk_by (own := [("_law_book", 7)]) (N := ["_law_bag_here", "_law_first", "_law_by", "_law_row_here", "_law_books", "_law_told", "_law_k", "_law_book"]) (sc := defScope s__law_full_then_none) (by decide +kernel)) (fun _ _ _ _ _ => (pg_name (i := 7) sc.nd rfl (Or.inl rfl))) (fun _ _ _ _ _ => pts_nil) (fun _ _ _ _ _ => (pe_methC0 (pv 7) c_Book_learnt hr))) (pe_op op_rep (pe_lst (pa_cons (pe_lst pa_nil) pa_nil)) pe_int) (nomark _))))))))))))), ?_⟩
    have h0 : Hw K [] [] [tB b] H := .of (Hs.nil0.cons hB (fun j y hj => by cases hj))
    refine ⟨_, rfl, b, 256, rfl, h0.bag, by decide, by decide, fun H1 x mv1 hB1 x0 x1 => ⟨_, rfl, b, 128, rfl, hB1, by decide, by decide, fun H2 d mv2 hB2 d0 d1 => ⟨_, _, rfl, rfl, .inl ⟨by decide, by decide⟩, _, _, rfl, rfl, (by show 2 ≤ sizeLine; decide), fun p3 n3 => ?_⟩⟩⟩
    have h2 := (h0.mv mv1 hB1).mv mv2 hB2
    have h3 := h2.same (same_upd (o := .tup [.int x, .int (1 + 2 * d)]) n3)
    have t3 : SqT K (upd H2 p3 (.tup [.int x, .int (1 + 2 * d)])) p3 [.int x, .int (1 + 2 * d)] := SqT.of upd_same
    refine ⟨p3, _, rfl, t3, rfl, _, _, rfl, _, _, rfl, rfl, ?_⟩
    generalize upd H2 p3 (.tup [.int x, .int (1 + 2 * d)]) = H3 at h3 ⊢
    clear h0 h2 t3 n3 mv1 hB1 mv2 hB2 hB
    obtain ⟨xn, rfl⟩ : ∃ n : Nat, x = (n : Int) := ⟨x.toNat, by omega⟩
    obtain ⟨dn, rfl⟩ : ∃ n : Nat, d = (n : Int) := ⟨d.toNat, by omega⟩
    have hd : dn < 128 := by omega
    -- the row
    refine ⟨60, rfl, by decide, by decide, fun D nD => ?_⟩
    refine lc_range (lo := 0) (n := 60) (fun i H' => Hw K [] [] [tL D (((fullRow xn dn).take i).map V.int), tB b] H') (h3.newL nD) ?_ ?_
    · rintro i H4 hi h4
      refine ⟨rfl, tYes_by (iteT ?_)⟩
      have hi : i < 60 := hi
      have hx : (fullRow xn dn)[i]? = some (((xn : Int) + (i : Int) * (1 + 2 * (dn : Int))) % 256) := by
        unfold fullRow
        rw [List.getElem?_map, List.getElem?_range hi]
        rfl
      refine ⟨_, rfl, _, rfl, _, rfl, _, _, rfl, rfl, .inl ⟨by omega, by omega⟩, _, _, rfl, rfl, _, _, rfl, rfl, (by show (0 : Int) < 256; decide), ?_⟩
      refine ⟨_, h4.at 0 rfl, ?_, ?_⟩
      · rw [List.length_map, List.length_take]
        exact sz4l (by omega)
      · rw [take_more hx, List.map_append]
        have := h4.put (ys := ((fullRow xn dn).take i).map V.int ++ [.int (((xn : Int) + (i : Int) * (1 + 2 * (dn : Int))) % 256)]) 0 rfl
        rw [Int.zero_add]
        exact this
    rintro H4 h4
    have h4 : Hw K [] [] [tL D ((fullRow xn dn).map V.int), tB b] H4 := by
      rw [List.take_of_length_le (by rw [fullRow_len]; exact Nat.le_refl _)] at h4
      exact h4
    have hY : Bytes (fullRow xn dn) := fullRow_bytes xn dn
    have hl := fullRow_len xn dn
    obtain ⟨fs1, fs2⟩ := full_short (x := xn) hd
    generalize fullRow xn dn = row at h4 hY hl fs1 fs2
    refine name_by ?_
    dsimp only
    -- the four books
    refine fun r0 d0 nx0 nd0 ne0 => ⟨r0, d0, rfl, upd_same, fun H5 l0 m5 nl0 bk0 => ⟨rfl, ?_⟩⟩
    have h5 := h4.bkNew nx0 nd0 m5 nl0 bk0
    clear h4 nx0 nd0 ne0 m5 nl0 bk0
    refine fun r1 d0 nx0 nd0 ne0 => ⟨r1, d0, rfl, upd_same, fun H6 l1 m5 nl0 bk0 => ⟨rfl, ?_⟩⟩
    have h6 := h5.bkNew nx0 nd0 m5 nl0 bk0
    clear h5 nx0 nd0 ne0 m5 nl0 bk0
    refine fun r2 d0 nx0 nd0 ne0 => ⟨r2, d0, rfl, upd_same, fun H7 l2 m5 nl0 bk0 => ⟨rfl, ?_⟩⟩
    have h7 := h6.bkNew nx0 nd0 m5 nl0 bk0
    clear h6 nx0 nd0 ne0 m5 nl0 bk0
    refine fun r3 d0 nx0 nd0 ne0 => ⟨r3, d0, rfl, upd_same, fun H8 l3 m5 nl0 bk0 => ⟨rfl, ?_⟩⟩
    have h8 := h7.bkNew nx0 nd0 m5 nl0 bk0
    clear h7 nx0 nd0 ne0 m5 nl0 bk0
    refine ⟨(by show 4 ≤ sizeLine; decide), fun lb nlb => ?_⟩
    have h9 : Hw K [] [] [tL lb [.ref r0, .ref r1, .ref r2, .ref r3], tBk C r0 l0 [], tBk C r1 l1 [], tBk C r2 l2 [], tBk C r3 l3 [], tL D (row.map V.int)] _ := (h8.newL (xs := [.ref r0, .ref r1, .ref r2, .ref r3]) nlb).sel [0, 4, 3, 2, 1, 5] (by decide)
    generalize upd H8 lb (.lst [.ref r0, .ref r1, .ref r2, .ref r3]) = H9 at h9 ⊢
    clear h8 nlb
    refine name_by ?_
    dsimp only
    -- shorten
    obtain ⟨dx, hins⟩ := (h9.bk 1 rfl).ins
    refine ⟨_, rfl, lb, _, _, _, rfl, rfl, SqL.of (h9.at 0 rfl), atI_nat (j := 0) rfl, r0, dx, _, rfl, hins, rfl, _, rfl, D, _, rfl, .inl (SqL.of (h9.at 5 rfl)), fun q0 nq0 => ?_⟩
    have h10 := h9.newL (xs := row.map V.int) nq0
    generalize upd H9 q0 (.lst (row.map V.int)) = H10 at h10 ⊢
    clear h9 nq0 hins
    refine ⟨r0, l0, q0, [], row, rfl, h10.bk 2 rfl, tf_nil, w61_nil, SqL.of (h10.at 0 rfl), by omega, (fun _ _ H11 l0' o0 P0 m nl no nol bk ht e0 eo => ?_), (fun _ h60 => absurd h60 (by omega)), (fun i z hz nz => absurd (hY z (List.mem_of_getElem? hz)) nz)⟩
    have h11 := h10.bkOp 2 rfl m nl no nol bk ht eo
    rw [show (bkShort (wsOf []) row).1 = row from fs1] at h11
    clear h10 m nl no nol bk ht eo
    have h11 : Hw K (knW P0) [] [tL o0 (row.map V.int), tL lb [.ref r0, .ref r1, .ref r2, .ref r3], tBk C r0 l0' P0, tBk C r1 l1 [], tBk C r2 l2 [], tBk C r3 l3 [], tL D (row.map V.int)] H11 := (h11.sel [0, 2, 3, 4, 5, 6, 7] (by decide)).selT (fun q hq => by simp [hq])
    -- lengthen
    obtain ⟨dx, hins⟩ := (h11.bk 3 rfl).ins
    refine ⟨_, rfl, lb, _, _, _, rfl, rfl, SqL.of (h11.at 1 rfl), atI_nat (j := 1) rfl, r1, dx, _, rfl, hins, rfl, _, rfl, D, _, rfl, .inl (SqL.of (h11.at 6 rfl)), fun q1 nq1 => ?_⟩
    have h12 := h11.newL (xs := row.map V.int) nq1
    generalize upd H11 q1 (.lst (row.map V.int)) = H12 at h12 ⊢
    clear h11 nq1 hins
    have eLong : bkLong (wsOf []) row = .inr (row, (bkShort [] row).2) := by
      have := bkLong_short (ws := []) hY (by omega : row.length ≤ 60)
      rw [fs1] at this
      exact this
    refine ⟨r1, l1, q1, [], row, rfl, h12.bk 4 rfl, tf_nil, w61_nil, SqL.of (h12.at 0 rfl), by omega, (fun rw_ ws' er H13 l1' o1 P1 m nl no nol bk ht e1 eo => ?_), (fun i ei => by rw [eLong] at ei; cases ei)⟩
    rw [eLong] at er
    cases er
    have h13 := h12.bkOp 4 rfl m nl no nol bk ht eo
    clear h12 m nl no nol bk ht eo
    have h13 : Hw K (knW P1 ++ knW P0) [] [tL o1 (row.map V.int), tL o0 (row.map V.int), tL lb [.ref r0, .ref r1, .ref r2, .ref r3], tBk C r0 l0' P0, tBk C r1 l1' P1, tBk C r2 l2 [], tBk C r3 l3 [], tL D (row.map V.int)] H13 := h13.sel [0, 2, 3, 4, 5, 6, 7, 8] (by decide)
    refine ⟨(by show 2 ≤ sizeLine; decide), fun t1 nt1 => ?_⟩
    have h14 := h13.newL (xs := [.ref o0, .ref o1]) nt1
    generalize upd H13 t1 (.lst [.ref o0, .ref o1]) = H14 at h14 ⊢
    clear h13 nt1
    refine name_by ?_
    dsimp only
    -- pack
    obtain ⟨dx, hins⟩ := (h14.bk 6 rfl).ins
    refine ⟨_, rfl, _, rfl, lb, _, _, _, rfl, rfl, SqL.of (h14.at 3 rfl), atI_nat (j := 2) rfl, r2, dx, _, rfl, hins, rfl, _, rfl, D, _, rfl, .inl (SqL.of (h14.at 8 rfl)), fun q2 nq2 => ?_⟩
    have h15 := h14.newL (xs := row.map V.int) nq2
    generalize upd H14 q2 (.lst (row.map V.int)) = H15 at h15 ⊢
    clear h14 nq2 hins
    have ePack : bkPack (wsOf []) row = 0 :: bb row := by
      unfold bkPack
      rw [show (bkShort (wsOf []) row).1 = row from fs1, if_pos (by omega)]
    refine ⟨r2, l2, q2, [], row, rfl, h15.bk 7 rfl, tf_nil, w61_nil, SqL.of (h15.at 0 rfl), by omega, (fun _ _ H16 l2' o2 P2 m nl no nol bk ht e2 eo => ?_), (fun _ h60 => absurd h60 (by omega)), (fun i z hz nz => absurd (hY z (List.mem_of_getElem? hz)) nz)⟩
    rw [ePack] at eo
    have h16 := h15.bkOp 7 rfl m nl no nol bk ht eo
    clear h15 m nl no nol bk ht eo
    have h16 : Hw K (knW P2 ++ (knW P1 ++ knW P0)) [] [tL o2 ((0 :: bb row).map V.int), tL t1 [.ref o0, .ref o1], tL o1 (row.map V.int), tL o0 (row.map V.int), tL lb [.ref r0, .ref r1, .ref r2, .ref r3], tBk C r0 l0' P0, tBk C r1 l1' P1, tBk C r2 l2' P2, tBk C r3 l3 [], tL D (row.map V.int)] H16 := h16.sel [0, 2, 3, 4, 5, 6, 7, 8, 9, 10] (by decide)
    -- unpack
    obtain ⟨dx, hins⟩ := (h16.bk 8 rfl).ins
    refine ⟨_, rfl, lb, _, _, _, rfl, rfl, SqL.of (h16.at 4 rfl), atI_nat (j := 3) rfl, r3, dx, _, rfl, hins, rfl, (by show 1 ≤ sizeLine; decide), fun z0 nz0 => ?_⟩
    have h17 := h16.newL (xs := [.int 0]) nz0
    generalize upd H16 z0 (.lst [.int 0]) = H17 at h17 ⊢
    clear h16 nz0 hins
    refine ⟨_, rfl, D, row, rfl, SqL.of (h17.at 10 rfl), by omega, fun H18 z1 s18 nz1 ez1 => ?_⟩
    have h18 := h17.newH s18 nz1 ez1
    clear h17 s18 nz1 ez1
    refine ⟨z0, z1, _, _, rfl, rfl, h18.at 1 rfl, h18.at 0 rfl, (by rw [List.length_map, bb_len]; exact sz4 (by show 1 + _ ≤ _; omega)), fun z2 nz2 => ?_⟩
    have h19 : Hw K (knW P2 ++ (knW P1 ++ knW P0)) [] [tL z2 ((0 :: bb row).map V.int), tL o2 ((0 :: bb row).map V.int), tL t1 [.ref o0, .ref o1], tL o1 (row.map V.int), tL o0 (row.map V.int), tL lb [.ref r0, .ref r1, .ref r2, .ref r3], tBk C r0 l0' P0, tBk C r1 l1' P1, tBk C r2 l2' P2, tBk C r3 l3 [], tL D (row.map V.int)] _ := (h18.newL (xs := (0 :: bb row).map V.int) nz2).sel [0, 3, 4, 5, 6, 7, 8, 9, 10, 11, 12] (by decide)
    have ec : [V.int 0] ++ (bb row).map V.int = (0 :: bb row).map V.int := rfl
    rw [ec]
    generalize upd H18 z2 (.lst ((0 :: bb row).map V.int)) = H19 at h19 ⊢
    clear h18 nz2
    have hbits : Bits (0 :: bb row) := by
      have := bkPack_bits [] row
      rw [show bkPack [] row = 0 :: bb row from ePack] at this
      exact this
    dsimp only [tNil]
    refine unp_ok (h19.bk 9 rfl) tf_nil w61_nil (SqL.of (h19.at 0 rfl)) (by rw [List.length_cons, bb_len]; omega) hbits (bkUnpack_bytes hY (by omega)) (fun H20 l3' o3 P3 m nl no nol bk ht e3 eo => ?_)
    have h20 := h19.bkOp 9 rfl m nl no nol bk ht eo
    clear h19 m nl no nol bk ht eo
    have h20 : Hw K (knW P3 ++ (knW P2 ++ (knW P1 ++ knW P0))) [] [tL o3 (row.map V.int), tL o2 ((0 :: bb row).map V.int), tL t1 [.ref o0, .ref o1], tL o1 (row.map V.int), tL o0 (row.map V.int), tL lb [.ref r0, .ref r1, .ref r2, .ref r3], tBk C r0 l0' P0, tBk C r1 l1' P1, tBk C r2 l2' P2, tBk C r3 l3' P3, tL D (row.map V.int)] H20 := h20.sel [0, 2, 3, 4, 5, 6, 7, 8, 9, 10, 11] (by decide)
    refine ⟨(by show 2 ≤ sizeLine; decide), fun t2 nt2 => ?_⟩
    have h21 := h20.newL (xs := [.ref o2, .ref o3]) nt2
    generalize upd H20 t2 (.lst [.ref o2, .ref o3]) = H21 at h21 ⊢
    clear h20 nt2
    refine ⟨t1, t2, _, _, rfl, rfl, h21.at 3 rfl, h21.at 0 rfl, (by show 4 ≤ sizeLine; decide), fun t3 nt3 => ?_⟩
    have h22 : Hw K (knW P3 ++ (knW P2 ++ (knW P1 ++ knW P0))) [] [tL t3 [.ref o0, .ref o1, .ref o2, .ref o3], tL o0 (row.map V.int), tL o1 (row.map V.int), tL o2 ((0 :: bb row).map V.int), tL o3 (row.map V.int), tL lb [.ref r0, .ref r1, .ref r2, .ref r3], tBk C r0 l0' P0, tBk C r1 l1' P1, tBk C r2 l2' P2, tBk C r3 l3' P3, tL D (row.map V.int)] _ := (h21.newL (xs := [.ref o0, .ref o1, .ref o2, .ref o3]) nt3).sel [0, 6, 5, 3, 2, 7, 8, 9, 10, 11, 12] (by decide)
    have ec : [V.ref o0, V.ref o1] ++ [V.ref o2, V.ref o3] = [.ref o0, .ref o1, .ref o2, .ref o3] := rfl
    rw [ec]
    generalize upd H21 t3 (.lst [.ref o0, .ref o1, .ref o2, .ref o3]) = H22 at h22 ⊢
    clear h21 nt3
    refine name_by ?_
    try unfold tNext
    try dsimp only
    -- all alike
    refine ⟨_, rfl, _, rfl, _, rfl, (by show 1 ≤ sizeLine; decide), fun z0 nz0 => ?_⟩
    have h23 := h22.newL (xs := [.int 0]) nz0
    generalize upd H22 z0 (.lst [.int 0]) = H23 at h23 ⊢
    clear h22 nz0
    refine ⟨_, rfl, D, row, rfl, SqL.of (h23.at 11 rfl), by omega, fun H24 z1 s18 nz1 ez1 => ?_⟩
    have h24 := h23.newH s18 nz1 ez1
    clear h23 s18 nz1 ez1
    refine ⟨z0, z1, _, _, rfl, rfl, h24.at 1 rfl, h24.at 0 rfl, (by rw [List.length_map, bb_len]; exact sz4 (by show 1 + _ ≤ _; omega)), fun z2 nz2 => ?_⟩
    have h25 := (h24.newL (xs := (0 :: bb row).map V.int) nz2).sel [0, 3, 4, 5, 6, 7, 8, 9, 10, 11, 12, 13] (by decide)
    have ec : [V.int 0] ++ (bb row).map V.int = (0 :: bb row).map V.int := rfl
    rw [ec]
    generalize upd H24 z2 (.lst ((0 :: bb row).map V.int)) = H25 at h25 ⊢
    clear h24 nz2
    refine ⟨_, rfl, (by show 4 ≤ sizeLine; decide), fun t4 nt4 => ?_⟩
    have h26 := h25.newL (xs := [.ref D, .ref D, .ref z2, .ref D]) nt4
    generalize upd H25 t4 (.lst [.ref D, .ref D, .ref z2, .ref D]) = H26 at h26 ⊢
    clear h25 nt4
    have dD : Dp K H26 (.ref D) (dI row) := dp_ints (SqL.of (h26.at 12 rfl))
    refine ⟨.ref t3, .ref t4, dLL [row, row, 0 :: bb row, row], rfl, .lst (SqL.of (h26.at 2 rfl)) (.cons (dp_ints (SqL.of (h26.at 3 rfl))) (.cons (dp_ints (SqL.of (h26.at 4 rfl))) (.cons (dp_ints (SqL.of (h26.at 5 rfl))) (.cons (dp_ints (SqL.of (h26.at 6 rfl))) .nil)))), .lst (SqL.of (h26.at 0 rfl)) (.cons dD (.cons dD (.cons (dp_ints (SqL.of (h26.at 1 rfl))) (.cons dD .nil)))), dn_LL (by show 4 ≤ 1000; decide) (fun u hu => ?_) 1, shaped_LL _, fun H27 s27 => ⟨_, rfl, iteF ?_⟩⟩
    · simp only [List.mem_cons, List.not_mem_nil, or_false] at hu
      rcases hu with rfl | rfl | rfl | rfl
      · omega
      · omega
      · rw [List.length_cons, bb_len]; omega
      · omega
    have h27 : Hw K (knW P3 ++ (knW P2 ++ (knW P1 ++ knW P0))) [] [tL lb [.ref r0, .ref r1, .ref r2, .ref r3], tBk C r0 l0' P0, tBk C r1 l1' P1, tBk C r2 l2' P2, tBk C r3 l3' P3] H27 := (h26.same s27).sel [7, 8, 9, 10, 11] (by decide)
    clear h26 s27 dD
    have z0 : P0.length = 44 := by rw [← wsOf_len, e0]; exact fs2
    have z1 : P1.length = 44 := by rw [← wsOf_len, e1]; exact fs2
    have z2 : P2.length = 44 := by rw [← wsOf_len, e2]; exact fs2
    have z3 : P3.length = 44 := by rw [← wsOf_len, e3]; exact fs2
    have w0 : W61 (wsOf P0) := by rw [e0]; exact w61_short w61_nil (by omega)
    have w1 : W61 (wsOf P1) := by rw [e1]; exact w61_short w61_nil (by omega)
    have w2 : W61 (wsOf P2) := by rw [e2]; exact w61_short w61_nil (by omega)
    have w3 : W61 (wsOf P3) := by rw [e3]; exact w61_short w61_nil (by omega)
    have x0 : (wsOf P0).length = 44 := by rw [wsOf_len]; exact z0
    have x1 : (wsOf P1).length = 44 := by rw [wsOf_len]; exact z1
    have x2 : (wsOf P2).length = 44 := by rw [wsOf_len]; exact z2
    have x3 : (wsOf P3).length = 44 := by rw [wsOf_len]; exact z3
    clear e0 e1 e2 e3 fs1 fs2 ePack eLong hbits
    refine ⟨_, rfl, lb, rfl, ⟨_, SqL.of (h27.at 0 rfl)⟩, fun D1 nD1 => lc_list (K := K) (a := lb) (xs := [V.ref r0, V.ref r1, V.ref r2, V.ref r3]) (fun m H' => Hw K (knW P3 ++ (knW P2 ++ (knW P1 ++ knW P0))) [] [tL D1 ((List.replicate m (44 : Int)).map V.int), tL lb [.ref r0, .ref r1, .ref r2, .ref r3], tBk C r0 l0' P0, tBk C r1 l1' P1, tBk C r2 l2' P2, tBk C r3 l3' P3] H') (h27.newL nD1) (fun m H' _ h => SqL.of (h.at 1 rfl)) ?_ ?_⟩
    · rintro m v H3 hm h3
      have hm4 : m < 4 := (List.getElem?_eq_some_iff.mp hm).1
      obtain ⟨r, l, P, rfl, hbk, hl44⟩ : ∃ (r l : Addr) (P : List WP), v = V.ref r ∧ Bk C r l P H3 ∧ P.length = 44 := by
        match m, hm with
        | 0, hm => exact ⟨r0, _, _, (Option.some.inj hm).symm, h3.bk 2 rfl, z0⟩
        | 1, hm => exact ⟨r1, _, _, (Option.some.inj hm).symm, h3.bk 3 rfl, z1⟩
        | 2, hm => exact ⟨r2, _, _, (Option.some.inj hm).symm, h3.bk 4 rfl, z2⟩
        | 3, hm => exact ⟨r3, _, _, (Option.some.inj hm).symm, h3.bk 5 rfl, z3⟩
        | m + 4, hm => cases hm
      obtain ⟨dx, hins⟩ := hbk.ins
      refine ⟨rfl, tYes_by (iteT ?_)⟩
      refine ⟨_, rfl, r, dx, _, rfl, hins, r, l, P, rfl, hbk, _, rfl, by omega, by omega, _, h3.at 0 rfl, (by rw [List.length_map, List.length_replicate]; exact sz4l (by omega)), ?_⟩
      rw [hl44]
      have := h3.put (ys := (List.replicate (m + 1) (44 : Int)).map V.int) 0 rfl
      rw [show (List.replicate m (44 : Int)).map V.int ++ [V.int ((44 : Nat) : Int)] = (List.replicate (m + 1) (44 : Int)).map V.int from by rw [List.replicate_succ', List.map_append]; rfl]
      exact this
    rintro H28 h28
    refine ⟨(by show 1 ≤ sizeLine; decide), fun p29 n29 => ?_⟩
    have h29 := h28.newL (xs := [.int 44]) n29
    generalize upd H28 p29 (.lst [.int 44]) = H29 at h29 ⊢
    clear h28 n29
    refine ⟨p29, 4, _, rfl, rfl, h29.at 0 rfl, by decide, by decide, (by show 4 ≤ sizeLine; decide), fun p30 n30 => ?_⟩
    have h30 := h29.newL (xs := (List.replicate 4 (44 : Int)).map V.int) n30
    have ec : (List.replicate (4 : Int).toNat [V.int 44]).flatten = (List.replicate 4 (44 : Int)).map V.int := rfl
    rw [ec]
    generalize upd H29 p30 (.lst ((List.replicate 4 (44 : Int)).map V.int)) = H30 at h30 ⊢
    clear h29 n30
    refine ⟨dI (List.replicate 4 44), dI (List.replicate 4 44), dp_ints (SqL.of (h30.at 2 rfl)), dp_ints (SqL.of (h30.at 0 rfl)), shaped_ints _, shaped_ints _, ?_⟩
    rw [eqv_ints, decide_eq_true rfl]
    refine ⟨_, rfl, iteF ?_⟩
    have h31 : Hw K (knW P3 ++ (knW P2 ++ (knW P1 ++ knW P0))) [] [tL lb [.ref r0, .ref r1, .ref r2, .ref r3], tBk C r0 l0' P0, tBk C r1 l1' P1, tBk C r2 l2' P2, tBk C r3 l3' P3] H30 := h30.sel [3, 4, 5, 6, 7] (by decide)
    clear h30
    -- none, four ways
    obtain ⟨dx, hins⟩ := (h31.bk 1 rfl).ins
    refine ⟨_, rfl, lb, _, _, _, rfl, rfl, SqL.of (h31.at 0 rfl), atI_nat (j := 0) rfl, r0, dx, _, rfl, hins, rfl, Nat.zero_le _, fun q0 nq0 => ?_⟩
    have h32 := h31.newL (xs := []) nq0
    have ec : H30 = H30 := rfl
    generalize upd H30 q0 (.lst []) = H32 at h32 ⊢
    clear h31 nq0 hins ec
    refine ⟨r0, l0', q0, P0, [], rfl, h32.bk 2 rfl, (fun p hp => h32.tf p (by simp [hp])), w0, SqL.of (h32.at 0 rfl), by decide, (fun _ _ H33 l0'' o0 Q0 m nl no nol bk ht e0 eo => ?_), (fun _ h60 => absurd h60 (by simp)), (fun i z hz nz => by simp at hz)⟩
    rw [short_none x0] at e0 eo
    obtain rfl : Q0 = [] := List.map_eq_nil_iff.mp e0
    have h33 := h32.bkOp 2 rfl m nl no nol bk ht eo
    clear h32 m nl no nol bk ht eo e0
    have h33 : Hw K (knW P3 ++ (knW P2 ++ (knW P1 ++ knW P0))) [] [tL o0 (([] : List Int).map V.int), tL lb [.ref r0, .ref r1, .ref r2, .ref r3], tBk C r0 l0'' [], tBk C r1 l1' P1, tBk C r2 l2' P2, tBk C r3 l3' P3] H33 := h33.sel [0, 2, 3, 4, 5, 6] (by decide)
    obtain ⟨dx, hins⟩ := (h33.bk 3 rfl).ins
    refine ⟨_, rfl, lb, _, _, _, rfl, rfl, SqL.of (h33.at 1 rfl), atI_nat (j := 1) rfl, r1, dx, _, rfl, hins, rfl, Nat.zero_le _, fun q0 nq0 => ?_⟩
    have h34 := h33.newL (xs := []) nq0
    generalize upd H33 q0 (.lst []) = H34 at h34 ⊢
    clear h33 nq0 hins
    refine ⟨r1, l1', q0, P1, [], rfl, h34.bk 4 rfl, (fun p hp => h34.tf p (by simp [hp])), w1, SqL.of (h34.at 0 rfl), by decide, (fun rw_ ws' er H35 l1'' o1 Q0 m nl no nol bk ht e0 eo => ?_), (fun i ei => by rw [long_none x1] at ei; cases ei)⟩
    rw [long_none x1] at er
    cases er
    obtain rfl : Q0 = [] := List.map_eq_nil_iff.mp e0
    have h35 := h34.bkOp 4 rfl m nl no nol bk ht eo
    clear h34 m nl no nol bk ht eo e0
    have h35 : Hw K (knW P3 ++ (knW P2 ++ (knW P1 ++ knW P0))) [] [tL o1 (([] : List Int).map V.int), tL o0 (([] : List Int).map V.int), tL lb [.ref r0, .ref r1, .ref r2, .ref r3], tBk C r0 l0'' [], tBk C r1 l1'' [], tBk C r2 l2' P2, tBk C r3 l3' P3] H35 := h35.sel [0, 2, 3, 4, 5, 6, 7] (by decide)
    obtain ⟨dx, hins⟩ := (h35.bk 5 rfl).ins
    refine ⟨_, rfl, lb, _, _, _, rfl, rfl, SqL.of (h35.at 2 rfl), atI_nat (j := 2) rfl, r2, dx, _, rfl, hins, rfl, Nat.zero_le _, fun q0 nq0 => ?_⟩
    have h36 := h35.newL (xs := []) nq0
    generalize upd H35 q0 (.lst []) = H36 at h36 ⊢
    clear h35 nq0 hins
    refine ⟨r2, l2', q0, P2, [], rfl, h36.bk 6 rfl, (fun p hp => h36.tf p (by simp [hp])), w2, SqL.of (h36.at 0 rfl), by decide, (fun _ _ H37 l2'' o2 Q0 m nl no nol bk ht e0 eo => ?_), (fun _ h60 => absurd h60 (by simp)), (fun i z hz nz => by simp at hz)⟩
    rw [pack_none] at eo
    rw [short_none x2] at e0
    obtain rfl : Q0 = [] := List.map_eq_nil_iff.mp e0
    have h37 := h36.bkOp 6 rfl m nl no nol bk ht eo
    clear h36 m nl no nol bk ht eo e0
    have h37 : Hw K (knW P3 ++ (knW P2 ++ (knW P1 ++ knW P0))) [] [tL o2 (([0] : List Int).map V.int), tL o1 (([] : List Int).map V.int), tL o0 (([] : List Int).map V.int), tL lb [.ref r0, .ref r1, .ref r2, .ref r3], tBk C r0 l0'' [], tBk C r1 l1'' [], tBk C r2 l2'' [], tBk C r3 l3' P3] H37 := h37.sel [0, 2, 3, 4, 5, 6, 7, 8] (by decide)
    obtain ⟨dx, hins⟩ := (h37.bk 7 rfl).ins
    refine ⟨_, rfl, lb, _, _, _, rfl, rfl, SqL.of (h37.at 3 rfl), atI_nat (j := 3) rfl, r3, dx, _, rfl, hins, rfl, (by show 1 ≤ sizeLine; decide), fun q0 nq0 => ?_⟩
    have h38 := h37.newL (xs := ([0] : List Int).map V.int) nq0
    have ec : [V.int 0] = ([0] : List Int).map V.int := rfl
    rw [ec]
    generalize upd H37 q0 (.lst (([0] : List Int).map V.int)) = H38 at h38 ⊢
    clear h37 nq0 hins
    dsimp only [tNil]
    refine unp_ok (h38.bk 8 rfl) (fun p hp => h38.tf p (by simp [hp])) w3 (SqL.of (h38.at 0 rfl)) (by decide) (bits_one (.inl rfl)) (unpack_none x3) (fun H39 l3'' o3 Q0 m nl no nol bk ht e0 eo => ?_)
    obtain rfl : Q0 = [] := List.map_eq_nil_iff.mp e0
    have h39 := h38.bkOp 8 rfl m nl no nol bk ht eo
    clear h38 m nl no nol bk ht eo e0
    have h39 : Hw K (knW P3 ++ (knW P2 ++ (knW P1 ++ knW P0))) [] [tL o3 (([] : List Int).map V.int), tL o2 (([0] : List Int).map V.int), tL o1 (([] : List Int).map V.int), tL o0 (([] : List Int).map V.int), tL lb [.ref r0, .ref r1, .ref r2, .ref r3], tBk C r0 l0'' [], tBk C r1 l1'' [], tBk C r2 l2'' [], tBk C r3 l3'' []] H39 := h39.sel [0, 2, 3, 4, 5, 6, 7, 8, 9] (by decide)
    refine ⟨(by show 4 ≤ sizeLine; decide), fun t5 nt5 => ?_⟩
    have h40 := h39.newL (xs := [.ref o0, .ref o1, .ref o2, .ref o3]) nt5
    generalize upd H39 t5 (.lst [.ref o0, .ref o1, .ref o2, .ref o3]) = H40 at h40 ⊢
    clear h39 nt5
    refine name_by ?_
    try unfold tNext
    try dsimp only
    refine ⟨_, rfl, Nat.zero_le _, fun u0 nu0 => ?_⟩
    have h41 := h40.newL (xs := []) nu0
    generalize upd H40 u0 (.lst []) = H41 at h41 ⊢
    clear h40 nu0
    refine ⟨Nat.zero_le _, fun u1 nu0 => ?_⟩
    have h42 := h41.newL (xs := []) nu0
    generalize upd H41 u1 (.lst []) = H42 at h42 ⊢
    clear h41 nu0
    refine ⟨(by show 1 ≤ sizeLine; decide), fun u2 nu0 => ?_⟩
    have h43 := h42.newL (xs := ([0] : List Int).map V.int) nu0
    have ec : [V.int 0] = ([0] : List Int).map V.int := rfl
    rw [ec]
    generalize upd H42 u2 (.lst (([0] : List Int).map V.int)) = H43 at h43 ⊢
    clear h42 nu0
    refine ⟨Nat.zero_le _, fun u3 nu0 => ?_⟩
    have h44 := h43.newL (xs := []) nu0
    generalize upd H43 u3 (.lst []) = H44 at h44 ⊢
    clear h43 nu0
    refine ⟨(by show 4 ≤ sizeLine; decide), fun u4 nu0 => ?_⟩
    have h45 := h44.newL (xs := [.ref u0, .ref u1, .ref u2, .ref u3]) nu0
    generalize upd H44 u4 (.lst [.ref u0, .ref u1, .ref u2, .ref u3]) = H45 at h45 ⊢
    clear h44 nu0
    refine ⟨.ref t5, .ref u4, dLL [[], [], [0], []], rfl, .lst (SqL.of (h45.at 5 rfl)) (.cons (dp_ints (SqL.of (h45.at 9 rfl))) (.cons (dp_ints (SqL.of (h45.at 8 rfl))) (.cons (dp_ints (SqL.of (h45.at 7 rfl))) (.cons (dp_ints (SqL.of (h45.at 6 rfl))) .nil)))), .lst (SqL.of (h45.at 0 rfl)) (.cons (dp_ints (SqL.of (h45.at 4 rfl))) (.cons (dp_ints (SqL.of (h45.at 3 rfl))) (.cons (dp_ints (SqL.of (h45.at 2 rfl))) (.cons (dp_ints (SqL.of (h45.at 1 rfl))) .nil)))), dn_LL (by show 4 ≤ 1000; decide) (by decide) 1, shaped_LL _, fun H46 s46 => ⟨_, rfl, iteT ?_⟩⟩
    have h46 : Hw K (knW P3 ++ (knW P2 ++ (knW P1 ++ knW P0))) [] [tL lb [.ref r0, .ref r1, .ref r2, .ref r3], tBk C r0 l0'' [], tBk C r1 l1'' [], tBk C r2 l2'' [], tBk C r3 l3'' []] H46 := (h45.same s46).sel [10, 11, 12, 13, 14] (by decide)
    clear h45 s46
    refine ⟨_, rfl, lb, rfl, ⟨_, SqL.of (h46.at 0 rfl)⟩, fun D1 nD1 => lc_list (K := K) (a := lb) (xs := [V.ref r0, V.ref r1, V.ref r2, V.ref r3]) (fun m H' => ∃ ps : List Addr, ps.length = m ∧ Hw K (knW P3 ++ (knW P2 ++ (knW P1 ++ knW P0))) [] [tG (ps.map fun p => tL p []), tL D1 (ps.map V.ref), tL lb [.ref r0, .ref r1, .ref r2, .ref r3], tBk C r0 l0'' [], tBk C r1 l1'' [], tBk C r2 l2'' [], tBk C r3 l3'' []] H') ⟨[], rfl, (h46.newL nD1).gnil⟩ (fun m H' _ h => by obtain ⟨ps, _, h⟩ := h; exact SqL.of (h.at 2 rfl)) ?_ ?_⟩
    · rintro m v H3 hm ⟨ps, hps, h3⟩
      have hm4 : m < 4 := (List.getElem?_eq_some_iff.mp hm).1
      obtain ⟨r, l, rfl, hbk⟩ : ∃ (r l : Addr), v = V.ref r ∧ Bk C r l [] H3 := by
        match m, hm with
        | 0, hm => exact ⟨r0, _, (Option.some.inj hm).symm, h3.bk 3 rfl⟩
        | 1, hm => exact ⟨r1, _, (Option.some.inj hm).symm, h3.bk 4 rfl⟩
        | 2, hm => exact ⟨r2, _, (Option.some.inj hm).symm, h3.bk 5 rfl⟩
        | 3, hm => exact ⟨r3, _, (Option.some.inj hm).symm, h3.bk 6 rfl⟩
        | m + 4, hm => cases hm
      obtain ⟨dx, hins⟩ := hbk.ins
      refine ⟨rfl, tYes_by (iteT ?_)⟩
      refine ⟨_, rfl, r, dx, _, rfl, hins, rfl, r, l, [], rfl, hbk, fun pn npn => ?_⟩
      have h4 := h3.newL (xs := []) npn
      have eU : H3 = H3 := rfl
      refine ⟨_, h4.at 2 rfl, (by rw [List.length_map]; exact sz4l (by omega)), ps ++ [pn], by rw [List.length_append, hps]; rfl, ?_⟩
      have h5 := h4.put (ys := ps.map V.ref ++ [V.ref pn]) 2 rfl
      rw [show (ps ++ [pn]).map V.ref = ps.map V.ref ++ [V.ref pn] from by rw [List.map_append]; rfl]
      exact Hw.gadd (f := fun p => tL p []) h5
    rintro H47 ⟨ps, hps, h47⟩
    have hps : ps.length = 4 := hps
    refine ⟨Nat.zero_le _, fun v0 nv0 => ?_⟩
    have h48 := h47.newL (xs := []) nv0
    generalize upd H47 v0 (.lst []) = H48 at h48 ⊢
    clear h47 nv0
    refine ⟨(by show 1 ≤ sizeLine; decide), fun v1 nv0 => ?_⟩
    have h49 := h48.newL (xs := [.ref v0]) nv0
    generalize upd H48 v1 (.lst [.ref v0]) = H49 at h49 ⊢
    clear h48 nv0
    refine ⟨v1, 4, _, rfl, rfl, h49.at 0 rfl, by decide, by decide, (by show 4 ≤ sizeLine; decide), fun v2 nv0 => ?_⟩
    have h50 := h49.newL (xs := [v0, v0, v0, v0].map V.ref) nv0
    have ec : (List.replicate (4 : Int).toNat [V.ref v0]).flatten = [v0, v0, v0, v0].map V.ref := rfl
    rw [ec]
    generalize upd H49 v2 (.lst ([v0, v0, v0, v0].map V.ref)) = H50 at h50 ⊢
    clear h49 nv0
    have dA := dpa_nils (K := K) (H := H50) ps (fun p hp => by
      obtain ⟨j, hj⟩ := List.getElem?_of_mem hp
      exact (h50.gget (f := fun p => tL p []) 3 rfl hj).1)
    have dB := dpa_nils (K := K) (H := H50) [v0, v0, v0, v0] (fun p hp => by
      simp only [List.mem_cons, List.not_mem_nil, or_false, or_self] at hp
      rw [hp]
      exact h50.at 2 rfl)
    rw [hps] at dA
    refine ⟨dLL (List.replicate 4 []), dLL (List.replicate 4 []), .lst (SqL.of (h50.at 4 rfl)) dA, .lst (SqL.of (h50.at 0 rfl)) dB, shaped_LL _, shaped_LL _, ?_⟩
    rw [SeqAt.eqv_refl _ (SeqAt.canLay_of_shaped (shaped_LL _))]
    exact q _
theorem sc_law : FnScope ["_law_script", "_law_bag_here", "_law_books", "_law_heaps", "_law_menu_here", "_law_turn", "_law_which", "_law_row_here", "_law_due", "_law_handed", "_law_told", "_law_wide", "_law_at_here", "_law_odd"] ["_law_script"] (defScope s_law) := ⟨rfl, rfl, rfl, by decide +kernel, rfl, by decide +kernel, by decide +kernel⟩
theorem ixN_nat {i n : Nat} (h : i < n) : ixN n (i : Int) = some i := by
  unfold ixN
  rw [if_pos (by omega), if_pos (by omega)]
  simp
def prW {α : Type} (w : Nat) (x y : α) : List α := if w = 0 then [x, y] else [y, x]
theorem prW_at {α : Type} {w : Nat} {x y : α} (h : w < 2) : (prW w x y)[w]? = some x := by
  match w, h with
  | 0, _ => rfl
  | 1, _ => rfl
theorem prW_set {α : Type} {w : Nat} {x y z : α} (h : w < 2) : (prW w x y).set w z = prW w z y := by
  match w, h with
  | 0, _ => rfl
  | 1, _ => rfl
theorem prW_len {α : Type} {w : Nat} {x y : α} : (prW w x y).length = 2 := by
  unfold prW
  split <;> rfl
theorem dn_ii (a c : Int) : Dn 4 (dI [a, c]) := dn_ints _ (by show 2 ≤ 100000; decide) 2
theorem ok_law {t1_ t2_ : Tok} {f c tP gA gM cB cY cF cC cL cLg cU C : Addr} {k : Nat} {ocM : Value} {odM anM : Option Addr} {oslM : Array (Option Value)} {kVM docM pmM cdM ctM : Value} {oc : Value} {od an : Option Addr} {osl : Array (Option Value)} {kV doc pm ct : Value} {ocA : Value} {odA anA : Option Addr} {oslA : Array (Option Value)} {kVA docA pmA cdA ctA : Value}
    (lk : K.lookup f = some ⟨oc, od, .func (PySem.W.fnOf "law" "law" (defArgs s_law) (defBody s_law) (defScope s_law) .none kV doc pm an (.ref c) ct), osl⟩) (hcd : PySem.W.codeIn K (.ref c) "law" = true)
    (lA : K.lookup gA = some ⟨ocA, odA, .func (PySem.W.fnOf "_law_at" "_law_at" (defArgs s__law_at) (defBody s__law_at) (defScope s__law_at) .none kVA docA pmA anA cdA ctA), oslA⟩) (hcA : PySem.W.codeIn K cdA "_law_at" = true) (kA : PySem.W.keepIn K (.ref gA) = true) (mA : mg "_law_at" = some (.ref gA))
    (bA : Binds K (PySem.W.fnOf "_law_at" "_law_at" (defArgs s__law_at) (defBody s__law_at) (defScope s__law_at) .none kVA docA pmA anA cdA ctA) ["_law_act"] [])
    (aB : AtC K mg "BadBit" cB) (aY : AtC K mg "BadByte" cY) (aF : AtC K mg "BadFrame" cF) (aC : AtC K mg "BadCode" cC) (gL : mg "LineError" = some (.ref cL))
    (bb_ : PySem.W.exmOne K (.ref cB) (.ref cB) = some true) (yb : PySem.W.exmOne K (.ref cY) (.ref cB) = some false) (yy : PySem.W.exmOne K (.ref cY) (.ref cY) = some true)
    (fb : PySem.W.exmOne K (.ref cF) (.ref cB) = some false) (fy : PySem.W.exmOne K (.ref cF) (.ref cY) = some false) (ff : PySem.W.exmOne K (.ref cF) (.ref cF) = some true)
    (cb : PySem.W.exmOne K (.ref cC) (.ref cB) = some false) (cy : PySem.W.exmOne K (.ref cC) (.ref cY) = some false) (cf : PySem.W.exmOne K (.ref cC) (.ref cF) = some false) (cc : PySem.W.exmOne K (.ref cC) (.ref cC) = some true)
    (TB : LamX.TabB base mg c tP)
    (lM : K.lookup gM = some ⟨ocM, odM, .func (PySem.W.fnOf "_law_most" "_law_most" (defArgs s__law_most) (defBody s__law_most) (defScope s__law_most) .none kVM docM pmM anM cdM ctM), oslM⟩) (hcM : PySem.W.codeIn K cdM "_law_most" = true) (kM : PySem.W.keepIn K (.ref gM) = true) (mM : mg "_law_most" = some (.ref gM))
    (bM : Binds K (PySem.W.fnOf "_law_most" "_law_most" (defArgs s__law_most) (defBody s__law_most) (defScope s__law_most) .none kVM docM pmM anM cdM ctM) ["_law_act"] [])
    (gT : mg "TooLong" = some (.ref cLg)) (xT : XfC K cLg) (noT_ : PySem.W.findIn K (.ref cLg) "most" = some none) (gU : mg "Full" = some (.ref cU)) (tt : PySem.W.exmOne K (.ref cLg) (.ref cLg) = some true)
    (g_MOST_WORDS : mg "MOST_WORDS" = some (.int 300 t1_)) (g_LONGEST_ROW : mg "LONGEST_ROW" = some (.int 60 t2_)) (n_len : mg "len" = none) (n_list : mg "list" = none) (n_range : mg "range" = none)
    (c_Book : CalN P w K mg base (k + 2) "Book" C ["self"] (spBkI C)) (c_Book_shorten : CalM (L2.CX P w) P w K mg base (k + 3) C "shorten" ["self", "row"] (spShort K C cY cLg)) (cl_Book_shorten : CalM (L2.CX P w) P w K mg base (k + 1) C "shorten" ["self", "row"] (spShort K C cY cLg))
    (c__law_bag : Cal P w K mg base (k + 3) "_law_bag" ["_law_script"] (spBag K)) (c__law_pick : Cal P w K mg base (k + 3) "_law_pick" ["_law_bag_here", "_law_top"] spPick) (c__law_same : Cal P w K mg base (k + 3) "_law_same" ["_law_found", "_law_due"] (spSame K 4)) (c__law_of : Cal P w K mg base (k + 3) "_law_of" ["_law_bag_here", "_law_some"] (spOf K))
    (c__law_menu : Cal P w K mg base (k + 3) "_law_menu" ["_law_bag_here"] spMenu) (c__law_rich_row : Cal P w K mg base (k + 3) "_law_rich_row" ["_law_bag_here", "_law_menu_here"] spRich) (c__law_book_begun : Cal P w K mg base (k + 3) "_law_book_begun" ["_law_words"] (spWAB K)) (c__law_book_codes : Cal P w K mg base (k + 3) "_law_book_codes" ["_law_words", "_law_signs"] (spLCodes K)) (c__law_book_right : Cal P w K mg base (k + 3) "_law_book_right" ["_law_book", "_law_words"] (spLRight K C)) (c__law_full_then_none : Cal P w K mg base (k + 3) "_law_full_then_none" ["_law_bag_here"] spFull) :
    FnOk P w K mg base CX0 (k + 4) f (PySem.W.fnOf "law" "law" (defArgs s_law) (defBody s_law) (defScope s_law) .none kV doc pm an (.ref c) ct) ["_law_script"] (spLaw K tP) := by
  have sc := sc_law
  refine okL lk hcd sc (fun vs H Q E h => ?_) (fun A outer s H vs Q E hr h => ?_)
  · obtain ⟨a, ns, rfl, _⟩ := h
    rfl
  · obtain ⟨a, ns0, rfl, hS, hT0, q⟩ := h
    have LA__law_at : LamTo (cxOf CX0 P w K mg base ["_law_script", "_law_bag_here", "_law_books", "_law_heaps", "_law_menu_here", "_law_turn", "_law_which", "_law_row_here", "_law_due", "_law_handed", "_law_told", "_law_wide", "_law_at_here", "_law_odd"] "law" (defScope s_law) f (.ref c) A outer s H E).nox [(tP, qLam)] "_law_at" (TAt [(cB, "BadBit"), (cY, "BadByte"), (cF, "BadFrame"), (cC, "BadCode")]) := fun {params body scope t p lpos pos k} hr L hd hbn hbody =>
      LamX.pe_lamcall (by rfl) mA kA lA hcA bA sc__law_at rfl (.inl rfl) (at_gives aB aY aF aC gL bb_ yb yy fb fy ff cb cy cf cc) TB rfl (List.mem_singleton.mpr rfl) (fun p hp _ => by rw [List.mem_singleton.mp hp]; rfl) hr L hd hbn hbody
    have LA__law_most : LamTo (cxOf CX0 P w K mg base ["_law_script", "_law_bag_here", "_law_books", "_law_heaps", "_law_menu_here", "_law_turn", "_law_which", "_law_row_here", "_law_due", "_law_handed", "_law_told", "_law_wide", "_law_at_here", "_law_odd"] "law" (defScope s_law) f (.ref c) A outer s H E).nox [(tP, qLam)] "_law_most" (TMost cLg "TooLong") := fun {params body scope t p lpos pos k} hr L hd hbn hbody =>
      LamX.pe_lamcall (by rfl) mM kM lM hcM bM sc__law_most rfl (.inl rfl) (most_gives gT xT noT_ gU gL tt) TB rfl (List.mem_singleton.mpr rfl) (fun p hp _ => by rw [List.mem_singleton.mp hp]; rfl) hr L hd hbn hbody
    refine ⟨_, (pss_cons (ps_set (i := 1) sc.nd rfl (.inl rfl) (pe_callC c__law_bag hr (by rfl) (pa_cons (pv 0) pa_nil)))
 (pss_cons (ps_set (i := 2) sc.nd rfl (.inr rfl) (pe_lst (pa_cons (pe_makeC0 c_Book hr (by rfl)) (pa_cons (pe_makeC0 c_Book hr (by rfl)) pa_nil))))
 (pss_cons (ps_set (i := 3) sc.nd rfl (.inl rfl) (pe_lst (pa_cons (pe_lst pa_nil) (pa_cons (pe_lst pa_nil) pa_nil))))
 (pss_cons (ps_set (i := 4) sc.nd rfl (.inl rfl) (pe_callC c__law_menu hr (by rfl) (pa_cons (pv 1) pa_nil)))
 (pss_cons (ps_for PassesOwn.never rfl (pi_range1 (by rfl) n_range (pa_cons pe_int pa_nil)) (pg_name (i := 5) sc.nd rfl (.inl rfl))
  (pss_cons (ps_set (i := 6) sc.nd rfl (.inr rfl) (pe_callC c__law_pick hr (by rfl) (pa_cons (pv 1) (pa_cons pe_int pa_nil))))
 (pss_cons (ps_set (i := 7) sc.nd rfl (.inl rfl) (pe_callC c__law_rich_row hr (by rfl) (pa_cons (pv 1) (pa_cons (pv 4) pa_nil))))
 (pss_cons (ps_asg (pe_callC c__law_book_begun hr (by rfl) (pa_cons (pe_ix (ix_listK K rfl) (pv 3) (pv 6) (fun _ _ => rfl)) pa_nil)) (pg_sub (pv 3) (pv 6) set_list))
 (pss_cons (ps_set (i := 8) sc.nd rfl (.inl rfl) (pe_callC c__law_book_codes hr (by rfl) (pa_cons (pe_ix (ix_listK K rfl) (pv 3) (pv 6) (fun _ _ => rfl)) (pa_cons (pv 7) pa_nil))))
 (pss_cons (ps_set (i := 9) sc.nd rfl (.inl rfl) (pe_callTy (call_listK K rfl) (by rfl) n_list (by decide +kernel) (pa_cons (pv 7) pa_nil)))
 (pss_cons (ps_set (i := 10) sc.nd rfl (.inl rfl) (pe_methF (pe_ix (ix_listK K rfl) (pv 2) (pv 6) (fun _ _ => rfl)) c_Book_shorten hr (pa_cons (pv 9) pa_nil)))
 (pss_cons (ps_if (PW.pt (pw_or (pt_not (pt_val (pe_callC c__law_same hr (by rfl) (pa_cons (pv 10) (pa_cons (pv 8) pa_nil))))) (pw_or1 (pt_cmpR (op_neDK K rfl hr.units) (pv 9) (pv 7) (nomark _)))))
  (pss_one (ps_ret pe_bl))
  pss_nil)
 (pss_cons (ps_expr (pe_bmK K rfl PySem.F.plainAttrs_list PySem.F.slot_list_append PySem.F.type_list_append mt_append (pv 10) (pa_cons pe_int pa_nil)))
 (pss_cons (ps_set (i := 11) sc.nd rfl (.inr rfl) (pe_slice (sl_listK K rfl) (pe_op op_cat (pv 7) (pe_op op_rep (pe_lst (pa_cons pe_int pa_nil)) pe_int)) po_none (po_some (pe_op op_add pe_int (pe_callC c__law_pick hr (by rfl) (pa_cons (pv 1) (pa_cons pe_int pa_nil)))))))
 (pss_cons (ps_set (i := 11) sc.nd rfl (.inr rfl) (pe_op op_cat (pv 11) (pe_op op_rep (pe_lst (pa_cons pe_int pa_nil)) (pe_op op_sub pe_int (pe_callB (call_lenK K rfl) (by rfl) n_len PySem.boot_len (pa_cons (pv 11) pa_nil))))))
 (pss_cons (ps_if (pt_cmpR (op_neDK K rfl hr.units) (LA__law_most hr (LamX.lamS_by (sc := defScope s_law) (by decide +kernel)) rfl (fun _ _ _ _ _ => rfl) (fun A outer s H E f c2 hr => (pe_methP (pe_ix (ix_listK K rfl) (pv 2) (pv 6) (fun _ _ => rfl)) cl_Book_shorten hr (passes_call (takes_of rfl rfl rfl rfl) (fun _ _ _ _ h => h)) (pa_cons (pv 11) pa_nil)))) (pe_lst (pa_cons pe_str (pa_cons pe_int pa_nil))) (nomark _))
  (pss_one (ps_ret pe_bl))
  pss_nil)
 (pss_cons (ps_set (i := 12) sc.nd rfl (.inl rfl) (pe_callC c__law_pick hr (by rfl) (pa_cons (pv 1) (pa_cons pe_int pa_nil))))
 (pss_cons (ps_set (i := 13) sc.nd rfl (.inr rfl) (pe_op op_cat (pe_op op_cat (pe_slice (sl_listK K rfl) (pv 11) po_none (po_some (pv 12))) (pe_lst (pa_cons (pe_callC c__law_of hr (by rfl) (pa_cons (pv 1) (pa_cons (pe_lst (pa_cons pe_int (pa_cons (pe_un un_neg pe_int) pa_nil))) pa_nil))) pa_nil))) (pe_slice (sl_listK K rfl) (pv 11) (po_some (pv 12)) po_none)))
 (pss_cons (ps_if (pt_cmpR (op_neDK K rfl hr.units) (LA__law_at hr (LamX.lamS_by (sc := defScope s_law) (by decide +kernel)) rfl (fun _ _ _ _ _ => rfl) (fun A outer s H E f c2 hr => (pe_methP (pe_ix (ix_listK K rfl) (pv 2) (pv 6) (fun _ _ => rfl)) cl_Book_shorten hr (passes_call (takes_of rfl rfl rfl rfl) (fun _ _ _ _ h => h)) (pa_cons (pv 13) pa_nil)))) (pe_lst (pa_cons pe_str (pa_cons (pv 12) pa_nil))) (nomark _))
  (pss_one (ps_ret pe_bl))
  pss_nil)
 (pss_one (ps_if (PW.pt (pw_or (pt_not (pt_val (pe_callC c__law_book_right hr (by rfl) (pa_cons (pe_ix (ix_listK K rfl) (pv 2) pe_int (fun _ _ => rfl)) (pa_cons (pe_ix (ix_listK K rfl) (pv 3) pe_int (fun _ _ => rfl)) pa_nil))))) (pw_or1 (pt_not (pt_val (pe_callC c__law_book_right hr (by rfl) (pa_cons (pe_ix (ix_listK K rfl) (pv 2) pe_int (fun _ _ => rfl)) (pa_cons (pe_ix (ix_listK K rfl) (pv 3) pe_int (fun _ _ => rfl)) pa_nil))))))))
  (pss_one (ps_ret pe_bl))
  pss_nil)))))))))))))))))
 (pss_one (ps_ret (pe_and (pe_callC c__law_same hr (by rfl) (pa_cons (pe_lst (pa_cons (pe_glob (v := .int 300) (by rfl) g_MOST_WORDS ⟨_, rfl⟩) (pa_cons (pe_glob (v := .int 60) (by rfl) g_LONGEST_ROW ⟨_, rfl⟩) pa_nil))) (pa_cons (pe_lst (pa_cons pe_int (pa_cons pe_int pa_nil))) pa_nil))) (pe_one (pe_callC c__law_full_then_none hr (by rfl) (pa_cons (pv 1) pa_nil))))))))))), ?_⟩
    have hT : LamX.Tabs [(tP, qLam)] H := fun p hp => by rw [List.mem_singleton.mp hp]; exact LamX.TabS.nil hT0
    refine ⟨_, rfl, a, ns0, rfl, hS, fun H1 b s1 nb_ hB => ?_⟩
    have h1 : Hw K [] [(tP, qLam)] [tB b] H1 := .of ((Hs.nil (hT.ext s1)).cons hB (fun j y hj => by cases hj))
    clear hS s1 nb_ hT hT0
    refine name_by ?_
    dsimp only
    refine fun r0 dx1 nx1 ndx1 nex1 => ⟨r0, dx1, rfl, upd_same, fun H2 l0 m2 nl1 bk1 => ⟨rfl, ?_⟩⟩
    have h2 := h1.bkNew nx1 ndx1 m2 nl1 bk1
    clear m2 nl1 bk1 nx1 ndx1 nex1 h1
    refine fun r1 dx1 nx1 ndx1 nex1 => ⟨r1, dx1, rfl, upd_same, fun H3 l1 m2 nl1 bk1 => ⟨rfl, ?_⟩⟩
    have h3 := h2.bkNew nx1 ndx1 m2 nl1 bk1
    clear m2 nl1 bk1 nx1 ndx1 nex1 h2
    refine ⟨(by show 2 ≤ sizeLine; decide), fun lb nlb => ?_⟩
    have h4 := h3.newL (xs := [.ref r0, .ref r1]) nlb
    generalize upd H3 lb (.lst [.ref r0, .ref r1]) = H4 at h4 ⊢
    clear h3 nlb
    refine name_by ?_
    dsimp only
    refine ⟨Nat.zero_le _, fun lh0 n0 => ?_⟩
    have h5 := h4.newL (xs := []) n0
    generalize upd H4 lh0 (.lst []) = H5 at h5 ⊢
    clear h4 n0
    refine ⟨Nat.zero_le _, fun lh1 n0 => ?_⟩
    have h6 := h5.newL (xs := []) n0
    generalize upd H5 lh1 (.lst []) = H6 at h6 ⊢
    clear h5 n0
    refine ⟨(by show 2 ≤ sizeLine; decide), fun lhs nlhs => ?_⟩
    have h7 : Hw K (knW [] ++ (knW [] ++ (knW [] ++ knW []))) [(tP, qLam)] [tB b, tBk C r0 l0 [], tBk C r1 l1 [], tL lh0 (refsW []), tL lh1 (refsW []), tL lb [.ref r0, .ref r1], tL lhs [.ref lh0, .ref lh1]] _ := (h6.newL (xs := [.ref lh0, .ref lh1]) nlhs).sel [6, 5, 4, 2, 1, 3, 0] (by decide)
    generalize upd H6 lhs (.lst [.ref lh0, .ref lh1]) = H7 at h7 ⊢
    clear h6 nlhs
    refine name_by ?_
    dsimp only
    refine ⟨_, rfl, b, rfl, h7.bag, fun H8 m ms mv5 hB5 nm em hmy hm0 hm1 => ?_⟩
    have h8 := (h7.newM mv5 hB5 nm em).sel [0, 2, 3, 4, 5, 6, 7, 1] (by decide)
    clear h7 mv5 hB5 nm em
    refine name_by ?_
    dsimp only
    refine ⟨6, rfl, by decide, by decide, ?_⟩
    refine for_range (lo := 0) (n := 6) (fun i σ H' => ∃ (lh0 lh1 l0 l1 : Addr) (P0 P1 Q0 Q1 : List WP) (y5 y6 y7 y8 y9 y10 y11 y12 y13 : Option V), σ = [some (.ref a), some (.ref b.1), some (.ref lb), some (.ref lhs), some (.ref m), y5, y6, y7, y8, y9, y10, y11, y12, y13] ∧
      Hw K (knW P0 ++ (knW P1 ++ (knW Q0 ++ knW Q1))) [(tP, qLam)] [tB b, tBk C r0 l0 P0, tBk C r1 l1 P1, tL lh0 (refsW Q0), tL lh1 (refsW Q1), tL lb [.ref r0, .ref r1], tL lhs [.ref lh0, .ref lh1], tL m (ms.map V.int)] H' ∧ wsOf P0 = wsOf Q0 ∧ wsOf P1 = wsOf Q1 ∧ W61 (wsOf Q0) ∧ W61 (wsOf Q1)) ⟨lh0, lh1, l0, l1, [], [], [], [], _, _, _, _, _, _, _, _, _, rfl, h8, rfl, rfl, w61_nil, w61_nil⟩ ?_ ?_
    · clear h8 lh0 lh1 l0 l1
      rintro i σ H2 hi ⟨lh0, lh1, l0, l1, P0, P1, Q0, Q1, y5, y6, y7, y8, y9, y10, y11, y12, y13, rfl, h2, e0, e1, u0, u1⟩
      refine ⟨_, rfl, b, 2, rfl, h2.bag, by decide, by decide, fun H3 wz mv3 hB3 wz0 wz1 => ?_⟩
      have h3 := h2.mv mv3 hB3
      clear h2 mv3 hB3
      obtain ⟨wn, rfl⟩ : ∃ n : Nat, wz = (n : Int) := ⟨wz.toNat, by omega⟩
      have hw2 : wn < 2 := by omega
      obtain ⟨rc, ru, lc, lu, Pc, Pu, hc, hu, Qc, Qu, ebl, ehl, h4, ec, eu, wc, wu⟩ : ∃ (rc ru lc lu : Addr) (Pc Pu : List WP) (hc hu : Addr) (Qc Qu : List WP), [V.ref r0, V.ref r1] = prW wn (.ref rc) (.ref ru) ∧ [V.ref lh0, V.ref lh1] = prW wn (.ref hc) (.ref hu) ∧
          Hw K (knW Pc ++ (knW Pu ++ (knW Qc ++ knW Qu))) [(tP, qLam)] [tB b, tBk C rc lc Pc, tBk C ru lu Pu, tL hc (refsW Qc), tL hu (refsW Qu), tL lb (prW wn (.ref rc) (.ref ru)), tL lhs (prW wn (.ref hc) (.ref hu)), tL m (ms.map V.int)] H3 ∧ wsOf Pc = wsOf Qc ∧ wsOf Pu = wsOf Qu ∧ W61 (wsOf Qc) ∧ W61 (wsOf Qu) := by
        match wn, hw2 with
        | 0, _ => exact ⟨r0, r1, l0, l1, P0, P1, lh0, lh1, Q0, Q1, rfl, rfl, h3, e0, e1, u0, u1⟩
        | 1, _ => exact ⟨r1, r0, l1, l0, P1, P0, lh1, lh0, Q1, Q0, rfl, rfl, (h3.sel [0, 2, 1, 4, 3, 5, 6, 7] (by decide)).selT (fun q hq => by
            simp only [List.mem_append] at hq ⊢
            rcases hq with h | h | h | h
            · exact .inr (.inl h)
            · exact .inl h
            · exact .inr (.inr (.inr h))
            · exact .inr (.inr (.inl h))), e1, e0, u1, u0⟩
      clear h3 e0 e1 u0 u1 ehl
      refine name_by ?_
      dsimp only
      refine ⟨_, rfl, _, rfl, b, m, ms, rfl, h4.bag, h4.hs.ne 7 0 rfl rfl (.head _) (.head _), h4.hs.ne 7 0 rfl rfl (.head _) (.tail _ (.head _)), h4.at 7 rfl, hmy, hm0, hm1, fun H5 pr ns mv5 hB5 npr epr hY hn => ?_⟩
      have h5 := h4.newM mv5 hB5 npr epr
      clear h4 mv5 hB5 npr epr
      refine name_by ?_
      dsimp only
      -- begun
      refine ⟨_, rfl, _, rfl, lhs, _, _, _, rfl, rfl, SqL.of (h5.at 7 rfl), atI_nat (prW_at hw2), hc, _, rfl, SqL.of (h5.at 4 rfl), fun lg nlg => ?_⟩
      obtain ⟨Pb, eP0, hP0, hsub⟩ := bk_begun_at Qc
      rw [eP0]
      have h6 := h5.newL (xs := refsW Pb) nlg
      generalize upd H5 lg (.lst (refsW Pb)) = H6 at h6 ⊢
      clear h5 nlg
      have w0 : W61 (wsOf Pb) := by rw [hP0]; exact w61_begun wc
      refine ⟨_, rfl, _, rfl, lhs, _, _, wn, rfl, rfl, h6.at 8 rfl, ixN_nat (by rw [prW_len]; exact hw2), ?_⟩
      rw [prW_set hw2]
      have h7 : Hw K (knW Pc ++ (knW Pu ++ (knW Qc ++ knW Qu))) [(tP, qLam)] [tB b, tL pr (ns.map V.int), tBk C rc lc Pc, tBk C ru lu Pu, tL lg (refsW Pb), tL hu (refsW Qu), tL lb (prW wn (.ref rc) (.ref ru)), tL lhs (prW wn (.ref lg) (.ref hu)), tL m (ms.map V.int)] _ := (h6.put (ys := prW wn (.ref lg) (.ref hu)) 8 rfl).sel [1, 2, 3, 4, 0, 6, 7, 8, 9] (by decide)
      generalize upd H6 lhs (.lst (prW wn (.ref lg) (.ref hu))) = H7 at h7 ⊢
      clear h6
      have tf0 : TF K (knW Pb) H7 := fun p hp => h7.tf p (by
        obtain ⟨x, hx, rfl⟩ := List.mem_map.mp hp
        exact List.mem_append_right _ (List.mem_append_right _ (List.mem_append_left _ (List.mem_map.mpr ⟨x, hsub x hx, rfl⟩))))
      try unfold tNext
      try dsimp only
      -- codes
      refine ⟨_, rfl, _, rfl, lhs, _, _, _, rfl, rfl, SqL.of (h7.at 7 rfl), atI_nat (prW_at hw2), _, rfl, lg, pr, Pb, ns, rfl, h7.at 4 rfl, tf0, w0, h7.at 1 rfl, h7.hs.ne 1 4 rfl rfl (.head _) (.head _), hY, hn, fun H8 Pt oc m8 et8 ht8 e8 noc eoc => ?_⟩
      have h8 := h7.lstOp 4 rfl m8 et8 ht8 noc eoc
      clear m8 et8 ht8 noc eoc tf0 h7
      have eS : wsOf Pt = (bkShort (wsOf Pc) ns).2 := by rw [e8, hP0, ec]; rfl
      have eC : (bkGo (wsOf Pb) [] ns).1 = (bkShort (wsOf Pc) ns).1 := by rw [hP0, ec]; rfl
      rw [eC] at h8
      have hcl := bkShort_len (wsOf Pc) ns
      have wPc : W61 (wsOf Pc) := by rw [ec]; exact wc
      refine name_by ?_
      dsimp only
      refine ⟨_, rfl, pr, _, rfl, .inl (SqL.of (h8.at 2 rfl)), fun hd nhd => ?_⟩
      have h9 := h8.newL (xs := ns.map V.int) nhd
      generalize upd H8 hd (.lst (ns.map V.int)) = H9 at h9 ⊢
      clear h8 nhd
      refine name_by ?_
      dsimp only
      obtain ⟨dx, hins⟩ := (h9.bk 4 rfl).ins
      refine ⟨_, rfl, _, rfl, lb, _, _, _, rfl, rfl, SqL.of (h9.at 8 rfl), atI_nat (prW_at hw2), rc, dx, _, rfl, hins, rfl, _, rfl, rc, lc, hd, Pc, ns, rfl, h9.bk 4 rfl, (fun p hp => h9.tf p (by simp [hp])), wPc, SqL.of (h9.at 0 rfl), by omega, (fun _ _ H10 lc' o1 Pn m10 nl no nol bk ht e10 eo => ?_), (fun _ h60 => absurd h60 (by omega)), (fun i z hz nz => absurd (hY z (List.mem_of_getElem? hz)) nz)⟩
      have h10 := h9.bkOp 4 rfl m10 nl no nol bk ht eo
      clear h9 m10 nl no nol bk ht eo hins
      have h10 : Hw K (knW Pn ++ (knW Pt ++ (knW Pu ++ knW Qu))) [(tP, qLam)] [tB b, tL o1 ((bkShort (wsOf Pc) ns).1.map V.int), tL hd (ns.map V.int), tL oc ((bkShort (wsOf Pc) ns).1.map V.int), tL pr (ns.map V.int), tBk C rc lc' Pn, tBk C ru lu Pu, tL lg (refsW Pt), tL hu (refsW Qu), tL lb (prW wn (.ref rc) (.ref ru)), tL lhs (prW wn (.ref lg) (.ref hu)), tL m (ms.map V.int)] H10 := (h10.sel [3, 0, 1, 2, 4, 5, 6, 7, 8, 9, 10, 11] (by decide)).selT (fun q hq => by
        simp only [List.mem_append] at hq ⊢
        rcases hq with h | h | h | h
        · exact .inl h
        · exact .inr (.inl h)
        · exact .inr (.inr (.inr (.inl h)))
        · exact .inr (.inr (.inr (.inr (.inr h)))))
      have wPn : W61 (wsOf Pn) := by rw [e10]; exact w61_short wPc hn
      have eN : wsOf Pt = wsOf Pn := by rw [e10, eS]
      clear e10 eS eC e8 hP0 hsub eP0 w0
      generalize (bkShort (wsOf Pc) ns).1 = cs at h10 hcl
      refine name_by ?_
      dsimp only
      refine ⟨_, rfl, _, rfl, .ref o1, .ref oc, dI cs, rfl, dp_ints (SqL.of (h10.at 1 rfl)), dp_ints (SqL.of (h10.at 3 rfl)), dn_ints _ (by omega) 2, shaped_ints _, fun H11 s11 => ⟨_, rfl, iteF ?_⟩⟩
      have h11 := h10.same s11
      clear h10 s11
      refine ⟨_, rfl, _, rfl, dI ns, dI ns, dp_ints (SqL.of (h11.at 2 rfl)), dp_ints (SqL.of (h11.at 4 rfl)), shaped_ints _, shaped_ints _, ?_⟩
      rw [eqv_ints, decide_eq_true rfl]
      refine ⟨_, rfl, iteF ?_⟩
      try unfold tNext
      try dsimp only
      refine ⟨_, rfl, .inl ⟨rfl, _, SqL.of (h11.at 1 rfl)⟩, o1, _, _, rfl, rfl, h11.at 1 rfl, (by rw [List.length_map]; exact sz4l (by omega)), ?_⟩
      have h12 : Hw K (knW Pn ++ (knW Pt ++ (knW Pu ++ knW Qu))) [(tP, qLam)] [tB b, tL pr (ns.map V.int), tBk C rc lc' Pn, tBk C ru lu Pu, tL lg (refsW Pt), tL hu (refsW Qu), tL lb (prW wn (.ref rc) (.ref ru)), tL lhs (prW wn (.ref lg) (.ref hu)), tL m (ms.map V.int)] _ := (h11.put (ys := cs.map V.int ++ [.int 1]) 1 rfl).sel [0, 4, 5, 6, 7, 8, 9, 10, 11] (by decide)
      generalize upd H11 o1 (.lst (cs.map V.int ++ [.int 1])) = H12 at h12 ⊢
      clear h11
      -- the wide row
      refine ⟨_, rfl, (by show 1 ≤ sizeLine; decide), fun s7 ns7 => ?_⟩
      have h13 := h12.newL (xs := [.int 7]) ns7
      generalize upd H12 s7 (.lst [.int 7]) = H13 at h13 ⊢
      clear h12 ns7
      refine ⟨s7, 61, _, rfl, rfl, h13.at 0 rfl, by decide, by decide, (by show 61 ≤ sizeLine; decide), fun s8 ns8 => ?_⟩
      have e61 : (List.replicate (61 : Int).toNat [V.int 7]).flatten = (List.replicate 61 (7 : Int)).map V.int := rfl
      rw [e61]
      have h14 := h13.newL (xs := (List.replicate 61 (7 : Int)).map V.int) ns8
      generalize upd H13 s8 (.lst ((List.replicate 61 (7 : Int)).map V.int)) = H14 at h14 ⊢
      clear h13 ns8
      refine ⟨pr, s8, _, _, rfl, rfl, h14.at 3 rfl, h14.at 0 rfl, (by rw [List.length_map, List.length_map, List.length_replicate]; exact sz4 (by omega)), fun s9 ns9 => ?_⟩
      rw [← List.map_append]
      have h15 := (h14.newL (xs := (ns ++ List.replicate 61 (7 : Int)).map V.int) ns9).sel [3, 0, 4, 5, 6, 7, 8, 9, 10, 11] (by decide)
      generalize upd H14 s9 (.lst ((ns ++ List.replicate 61 (7 : Int)).map V.int)) = H15 at h15 ⊢
      clear h14 ns9
      refine ⟨_, rfl, b, 5, rfl, h15.bag, by decide, by decide, fun H16 d16 mv16 hB16 d160 d161 => ⟨_, _, rfl, rfl, ?_⟩⟩
      have h16 := h15.mv mv16 hB16
      clear h15 mv16 hB16
      obtain ⟨dn, rfl⟩ : ∃ n : Nat, d16 = (n : Int) := ⟨d16.toNat, by omega⟩
      refine ⟨_, rfl, s9, _, rfl, SqL.of (h16.at 1 rfl), fun s10 ns10 => ?_⟩
      rw [show (61 : Int) + (dn : Int) = ((61 + dn : Nat) : Int) from by omega, cut_to_n, ← List.map_take]
      have hW0 : Bytes ((ns ++ List.replicate 61 (7 : Int)).take (61 + dn)) := fun z hz => by
        rcases List.mem_append.mp (List.mem_of_mem_take hz) with h | h
        · exact hY z h
        · rw [(List.mem_replicate.mp h).2]
          exact ⟨by decide, by decide⟩
      have hW1 : 61 ≤ ((ns ++ List.replicate 61 (7 : Int)).take (61 + dn)).length ∧ ((ns ++ List.replicate 61 (7 : Int)).take (61 + dn)).length ≤ 70 := by
        rw [List.length_take, List.length_append, List.length_replicate]
        omega
      generalize (ns ++ List.replicate 61 (7 : Int)).take (61 + dn) = wd0 at hW0 hW1 ⊢
      have h17 := (h16.newL (xs := wd0.map V.int) ns10).sel [1, 0, 3, 4, 5, 6, 7, 8, 9, 10] (by decide)
      generalize upd H16 s10 (.lst (wd0.map V.int)) = H17 at h17 ⊢
      clear h16 ns10
      refine name_by ?_
      dsimp only
      refine ⟨_, rfl, (by show 1 ≤ sizeLine; decide), fun t7 nt7 => ?_⟩
      have h18 := h17.newL (xs := [.int 7]) nt7
      generalize upd H17 t7 (.lst [.int 7]) = H18 at h18 ⊢
      clear h17 nt7
      refine ⟨_, rfl, s10, _, rfl, .inl (SqL.of (h18.at 2 rfl)), _, _, rfl, rfl, t7, _, _, rfl, rfl, h18.at 0 rfl, (by rw [List.length_map]; omega), (by rw [List.length_map]; omega), ?_, fun t8 nt8 => ?_⟩
      · rw [List.length_map]
        have : ((61 : Int) - ((wd0.length : Nat) : Int)).toNat = 0 := by omega
        rw [this]
        exact Nat.zero_le _
      have ez : (List.replicate ((61 : Int) - (((wd0.map V.int).length : Nat) : Int)).toNat [V.int 7]).flatten = [] := by
        rw [List.length_map]
        have : ((61 : Int) - ((wd0.length : Nat) : Int)).toNat = 0 := by omega
        rw [this]
        rfl
      rw [ez]
      have h19 := h18.newL (xs := []) nt8
      generalize upd H18 t8 (.lst []) = H19 at h19 ⊢
      clear h18 nt8
      refine ⟨s10, t8, _, _, rfl, rfl, h19.at 3 rfl, h19.at 0 rfl, (by rw [List.length_map]; exact sz4 (by show _ + 0 ≤ _; omega)), fun t9 nt9 => ?_⟩
      rw [List.append_nil]
      have h20 : Hw K (knW Pn ++ (knW Pt ++ (knW Pu ++ knW Qu))) [(tP, qLam)] [tB b, tL t9 (wd0.map V.int), tBk C rc lc' Pn, tBk C ru lu Pu, tL lg (refsW Pt), tL hu (refsW Qu), tL lb (prW wn (.ref rc) (.ref ru)), tL lhs (prW wn (.ref lg) (.ref hu)), tL m (ms.map V.int)] _ := (h19.newL (xs := wd0.map V.int) nt9).sel [3, 0, 6, 7, 8, 9, 10, 11, 12] (by decide)
      generalize upd H19 t9 (.lst (wd0.map V.int)) = H20 at h20 ⊢
      clear h19 nt9
      refine name_by ?_
      dsimp only
      -- too long
      refine ⟨h20.tab, fun H21 ex21 tb21 => ?_⟩
      have h21 := h20.extN ex21 tb21
      clear h20 ex21 tb21
      obtain ⟨dx, hins⟩ := (h21.bk 2 rfl).ins
      refine ⟨_, rfl, _, rfl, lb, _, _, _, rfl, rfl, SqL.of (h21.at 6 rfl), atI_nat (prW_at hw2), rc, dx, _, rfl, hins, rfl, _, rfl, rc, lc', t9, Pn, wd0, rfl, h21.bk 2 rfl, (fun p hp => h21.tf p (by simp [hp])), wPn, SqL.of (h21.at 1 rfl), by omega, (fun _ h60 => absurd h60 (by omega)), (fun _ _ H22 dd s22 nd ed => ?_), (fun i z hz nz => absurd (hW0 z (List.mem_of_getElem? hz)) nz)⟩
      have h22 := h21.same s22
      clear h21 hins s22
      refine ⟨rfl, dd, _, rfl, ed, fun p11 n11 => ?_⟩
      have h23 := h22.newL (xs := [.str "TooLong", .int 60]) n11
      generalize upd H22 p11 (.lst [.str "TooLong", .int 60]) = H23 at h23 ⊢
      refine ⟨(by show 2 ≤ sizeLine; decide), fun p12 n12 => ?_⟩
      have h24 := h23.newL (xs := [.str "TooLong", .int 60]) n12
      generalize upd H23 p12 (.lst [.str "TooLong", .int 60]) = H24 at h24 ⊢
      refine neD_si lay_TooLong (h24.at 1 rfl) (h24.at 0 rfl) ⟨_, rfl, iteF ?_⟩
      have h25 : Hw K (knW Pn ++ (knW Pt ++ (knW Pu ++ knW Qu))) [(tP, qLam)] [tB b, tL t9 (wd0.map V.int), tBk C rc lc' Pn, tBk C ru lu Pu, tL lg (refsW Pt), tL hu (refsW Qu), tL lb (prW wn (.ref rc) (.ref ru)), tL lhs (prW wn (.ref lg) (.ref hu)), tL m (ms.map V.int)] H24 := h24.sel [2, 3, 4, 5, 6, 7, 8, 9, 10] (by decide)
      clear h22 h23 h24 n11 n12 ed nd
      try unfold tNext
      try dsimp only
      -- a strange byte
      refine ⟨_, rfl, b, 61, rfl, h25.bag, by decide, by decide, fun H26 at_ mv26 hB26 at0 at1 => ?_⟩
      have h26 := h25.mv mv26 hB26
      clear h25 mv26 hB26
      obtain ⟨an_, rfl⟩ : ∃ n : Nat, at_ = (n : Int) := ⟨at_.toNat, by omega⟩
      refine name_by ?_
      dsimp only
      refine ⟨_, rfl, _, rfl, _, rfl, t9, _, rfl, SqL.of (h26.at 1 rfl), fun p8 n8 => ?_⟩
      rw [cut_to_n, ← List.map_take]
      have h27 := (h26.newL (xs := (wd0.take an_).map V.int) n8).sel [1, 0, 2, 3, 4, 5, 6, 7, 8, 9] (by decide)
      generalize upd H26 p8 (.lst ((wd0.take an_).map V.int)) = H27 at h27 ⊢
      clear h26 n8
      refine ⟨_, rfl, 1, rfl, (by show 2 ≤ sizeLine; decide), fun p9 n9 => ?_⟩
      have h28 := h27.newU (o := .lst [.int 256, .int (-1)]) n9
      generalize upd H27 p9 (.lst [.int 256, .int (-1)]) = H28 at h28 ⊢
      clear h27 n9
      refine ⟨b, p9, _, rfl, h28.bag, h28.hs.ne 1 0 rfl rfl (.head _) (.head _), h28.at 1 rfl, (by show 0 < 2; decide), (by show 2 < 1000; decide), fun H29 v mv29 hB29 hv => ?_⟩
      have h29 := (h28.mv mv29 hB29).sel [0, 2, 3, 4, 5, 6, 7, 8, 9, 10] (by decide)
      clear h28 mv29 hB29
      obtain ⟨z, rfl, hz⟩ : ∃ z : Int, v = .int z ∧ ¬ isY z := by
        simp only [List.mem_cons, List.not_mem_nil, or_false] at hv
        rcases hv with rfl | rfl
        · exact ⟨_, rfl, fun h => absurd h.2 (by decide)⟩
        · exact ⟨_, rfl, fun h => absurd h.1 (by decide)⟩
      refine ⟨(by show 1 ≤ sizeLine; decide), fun p11 n11 => ?_⟩
      have h30 := h29.newL (xs := [.int z]) n11
      generalize upd H29 p11 (.lst [.int z]) = H30 at h30 ⊢
      clear h29 n11
      refine ⟨p8, p11, _, _, rfl, rfl, h30.at 2 rfl, h30.at 0 rfl, (by rw [List.length_map, List.length_take]; exact sz4 (by show _ + 1 ≤ 100000; omega)), fun p12 n12 => ?_⟩
      have h31 := h30.newL (xs := (wd0.take an_).map V.int ++ [.int z]) n12
      generalize upd H30 p12 (.lst ((wd0.take an_).map V.int ++ [.int z])) = H31 at h31 ⊢
      clear h30 n12
      refine ⟨_, rfl, _, rfl, _, rfl, ?_⟩
      dsimp only [tNoPart]
      refine ⟨t9, _, rfl, SqL.of (h31.at 4 rfl), fun p13 n13 => ?_⟩
      rw [cut_from_n, ← List.map_drop]
      have h32 := h31.newL (xs := (wd0.drop an_).map V.int) n13
      generalize upd H31 p13 (.lst ((wd0.drop an_).map V.int)) = H32 at h32 ⊢
      clear h31 n13
      refine ⟨p12, p13, _, _, rfl, rfl, h32.at 1 rfl, h32.at 0 rfl, (by rw [List.length_append, List.length_map, List.length_map, List.length_take, List.length_drop]; exact sz4 (by show _ + 1 + _ ≤ 100000; omega)), fun p14 n14 => ?_⟩
      have eO : (wd0.take an_).map V.int ++ [V.int z] ++ (wd0.drop an_).map V.int = (wd0.take an_ ++ [z] ++ wd0.drop an_).map V.int := by
        rw [List.map_append, List.map_append]
        rfl
      rw [eO]
      have hO1 : (wd0.take an_ ++ [z] ++ wd0.drop an_)[an_]? = some z := by
        rw [List.append_assoc, List.getElem?_append_right (by rw [List.length_take]; omega), List.length_take, show an_ - min an_ wd0.length = 0 from by omega]
        rfl
      have hO2 : (wd0.take an_ ++ [z] ++ wd0.drop an_).length ≤ 100 := by
        rw [List.length_append, List.length_append, List.length_take, List.length_drop]
        show _ + 1 + _ ≤ 100
        omega
      have hO3 : (wd0.take an_ ++ [z] ++ wd0.drop an_).take an_ = wd0.take an_ := by
        rw [List.append_assoc, List.take_append_of_le_length (by rw [List.length_take]; omega), List.take_take, Nat.min_self]
      generalize wd0.take an_ ++ [z] ++ wd0.drop an_ = od at hO1 hO2 hO3 ⊢
      have h33 : Hw K (knW Pn ++ (knW Pt ++ (knW Pu ++ knW Qu))) [(tP, qLam)] [tB b, tL p14 (od.map V.int), tBk C rc lc' Pn, tBk C ru lu Pu, tL lg (refsW Pt), tL hu (refsW Qu), tL lb (prW wn (.ref rc) (.ref ru)), tL lhs (prW wn (.ref lg) (.ref hu)), tL m (ms.map V.int)] _ := (h32.newL (xs := od.map V.int) n14).sel [4, 0, 7, 8, 9, 10, 11, 12, 13] (by decide)
      generalize upd H32 p14 (.lst (od.map V.int)) = H33 at h33 ⊢
      clear h32 n14
      refine name_by ?_
      try unfold tNext
      try dsimp only
      refine ⟨h33.tab, fun H34 ex34 tb34 => ?_⟩
      have h34 := h33.extN ex34 tb34
      clear h33 ex34 tb34
      obtain ⟨dx, hins⟩ := (h34.bk 2 rfl).ins
      have hnB : ¬ Bytes od := fun h => hz (h z (List.mem_of_getElem? hO1))
      refine ⟨_, rfl, _, rfl, lb, _, _, _, rfl, rfl, SqL.of (h34.at 6 rfl), atI_nat (prW_at hw2), rc, dx, _, rfl, hins, rfl, _, rfl, rc, lc', p14, Pn, od, rfl, h34.bk 2 rfl, (fun p hp => h34.tf p (by simp [hp])), wPn, SqL.of (h34.at 1 rfl), by omega, (fun h => absurd h hnB), (fun h => absurd h hnB), (fun i' z' hz' nz' hbt H35 dd s35 nd ed => ?_)⟩
      obtain rfl : i' = an_ := by
        rcases Nat.lt_trichotomy i' an_ with h | h | h
        · refine absurd ?_ nz'
          have : z' ∈ od.take an_ := List.mem_of_getElem? (i := i') (by rw [List.getElem?_take, if_pos h]; exact hz')
          rw [hO3] at this
          exact hW0 z' (List.mem_of_mem_take this)
        · exact h
        · exact absurd (hbt z (List.mem_of_getElem? (i := an_) (by rw [List.getElem?_take, if_pos h]; exact hO1))) hz
      have h35 := h34.same s35
      clear h34 hins s35
      refine ⟨(cY, "BadByte"), .tail _ (.head _), rfl, dd, _, rfl, ed, fun p16 n16 => ?_⟩
      have h36 := h35.newL (xs := [.str "BadByte", .int (i' : Int)]) n16
      generalize upd H35 p16 (.lst [.str "BadByte", .int (i' : Int)]) = H36 at h36 ⊢
      refine ⟨_, rfl, (by show 2 ≤ sizeLine; decide), fun p17 n17 => ?_⟩
      have h37 := h36.newL (xs := [.str "BadByte", .int (i' : Int)]) n17
      generalize upd H36 p17 (.lst [.str "BadByte", .int (i' : Int)]) = H37 at h37 ⊢
      refine neD_si lay_BadByte (h37.at 1 rfl) (h37.at 0 rfl) ⟨_, rfl, iteF ?_⟩
      have h38 : Hw K (knW Pn ++ (knW Pt ++ (knW Pu ++ knW Qu))) [(tP, qLam)] [tB b, tBk C rc lc' Pn, tBk C ru lu Pu, tL lg (refsW Pt), tL hu (refsW Qu), tL lb (prW wn (.ref rc) (.ref ru)), tL lhs (prW wn (.ref lg) (.ref hu)), tL m (ms.map V.int)] H37 := h37.sel [2, 4, 5, 6, 7, 8, 9, 10] (by decide)
      clear h35 h36 h37 n16 n17 ed nd
      try unfold tNext
      try dsimp only
      have wPt : W61 (wsOf Pt) := by rw [eN]; exact wPn
      have wPu : W61 (wsOf Pu) := by rw [eu]; exact wu
      -- both books by turns of the pair
      obtain ⟨R0, R1, k0, k1, A0, A1, g0, g1, B0, B1, eR, h39, f0, f1, v0, v1, eG⟩ : ∃ (R0 R1 k0 k1 : Addr) (A0 A1 : List WP) (g0 g1 : Addr) (B0 B1 : List WP), (R0 = r0 ∧ R1 = r1) ∧ Hw K (knW A0 ++ (knW A1 ++ (knW B0 ++ knW B1))) [(tP, qLam)] [tB b, tBk C R0 k0 A0, tBk C R1 k1 A1, tL g0 (refsW B0), tL g1 (refsW B1), tL lb [.ref R0, .ref R1], tL lhs [.ref g0, .ref g1], tL m (ms.map V.int)] H37 ∧ wsOf A0 = wsOf B0 ∧ wsOf A1 = wsOf B1 ∧ W61 (wsOf B0) ∧ W61 (wsOf B1) ∧ True := by
        match wn, hw2, ebl, h38 with
        | 0, _, ebl, h38 =>
          have ebl : [V.ref r0, V.ref r1] = [V.ref rc, V.ref ru] := ebl
          injection ebl with x1 x2
          injection x2 with x2
          injection x1 with x1
          injection x2 with x2
          exact ⟨rc, ru, lc', lu, Pn, Pu, lg, hu, Pt, Qu, ⟨x1.symm, x2.symm⟩, h38.selT (fun q hq => by
            simp only [List.mem_append] at hq ⊢
            rcases hq with h | h | h | h
            · exact .inl h
            · exact .inr (.inr (.inl h))
            · exact .inr (.inl h)
            · exact .inr (.inr (.inr h))), eN.symm, eu, wPt, wu, trivial⟩
        | 1, _, ebl, h38 =>
          have ebl : [V.ref r0, V.ref r1] = [V.ref ru, V.ref rc] := ebl
          injection ebl with x1 x2
          injection x2 with x2
          injection x1 with x1
          injection x2 with x2
          exact ⟨ru, rc, lu, lc', Pu, Pn, hu, lg, Qu, Pt, ⟨x1.symm, x2.symm⟩, (h38.sel [0, 2, 1, 4, 3, 5, 6, 7] (by decide)).selT (fun q hq => by
            simp only [List.mem_append] at hq ⊢
            rcases hq with h | h | h | h
            · exact .inr (.inr (.inl h))
            · exact .inl h
            · exact .inr (.inr (.inr h))
            · exact .inr (.inl h)), eu, eN.symm, wu, wPt, trivial⟩
      obtain ⟨rfl, rfl⟩ := eR
      clear h38 eG
      refine ⟨_, rfl, lb, _, _, _, rfl, rfl, SqL.of (h39.at 5 rfl), atI_nat (j := 0) rfl, _, rfl, lhs, _, _, _, rfl, rfl, SqL.of (h39.at 6 rfl), atI_nat (j := 0) rfl, R0, k0, g0, A0, B0, rfl, h39.bk 1 rfl, (fun p hp => h39.tf p (by simp [hp])), SqL.of (h39.at 3 rfl), (fun p hp => h39.tf p (by simp [hp])), (by rw [f0]; exact v0), f0.symm, fun H40 s40 => ⟨_, rfl, iteF ?_⟩⟩
      have h40 := h39.same s40
      clear h39 s40
      refine ⟨_, rfl, lb, _, _, _, rfl, rfl, SqL.of (h40.at 5 rfl), atI_nat (j := 1) rfl, _, rfl, lhs, _, _, _, rfl, rfl, SqL.of (h40.at 6 rfl), atI_nat (j := 1) rfl, R1, k1, g1, A1, B1, rfl, h40.bk 2 rfl, (fun p hp => h40.tf p (by simp [hp])), SqL.of (h40.at 4 rfl), (fun p hp => h40.tf p (by simp [hp])), (by rw [f1]; exact v1), f1.symm, fun H41 s41 => ⟨_, rfl, iteF ?_⟩⟩
      exact ⟨g0, g1, k0, k1, A0, A1, B0, B1, _, _, _, _, _, _, _, _, _, rfl, h40.same s41, f0, f1, v0, v1⟩
    · rintro σ H2 ⟨lh0, lh1, l0, l1, P0, P1, Q0, Q1, y5, y6, y7, y8, y9, y10, y11, y12, y13, rfl, h2, e0, e1, u0, u1⟩
      refine ⟨(by show 2 ≤ sizeLine; decide), fun p3 n3 => ?_⟩
      have h3 := h2.newL (xs := [.int 300, .int 60]) n3
      generalize upd H2 p3 (.lst [.int 300, .int 60]) = H3 at h3 ⊢
      refine ⟨(by show 2 ≤ sizeLine; decide), fun p4 n4 => ?_⟩
      have h4 := h3.newL (xs := [.int 300, .int 60]) n4
      generalize upd H3 p4 (.lst [.int 300, .int 60]) = H4 at h4 ⊢
      refine ⟨.ref p3, .ref p4, dI [300, 60], rfl, dp_ints (ns := [300, 60]) (SqL.of (h4.at 1 rfl)), dp_ints (ns := [300, 60]) (SqL.of (h4.at 0 rfl)), dn_ii _ _, shaped_ints _, fun H5 s5 => ⟨_, rfl, iteT ?_⟩⟩
      have h5 := (h4.same s5).sel [2] (by decide)
      exact ⟨_, rfl, b, rfl, h5.bag, fun H6 => q _⟩
end
/-! ### the end -/
theorem all_mk {l : PySem.W.OpenLaw} {w : World} {K : PySem.W.Frag} {h : Heap} {mg : Str → Option Value} {fa f0 f1 f2 f3 f4 f5 f6 f7 f8 f9 f10 f11 f12 f13 f14 f15 f16 f17 f18 f19 f20 f21 f22 f23 f24 f25 f26 f27 f28 f29 f30 f31 f32 f33 f34 f35 : Addr} (X : K.In h) (G : h.Ns mainGlobals mg) (hfa : mg "law" = some (.ref fa)) (own : LamX.OwnTab K fa h)
    {cBook : Addr}
    {oc0 : Value} {od0 an0 : Option Addr} {sl0 : Array (Option Value)} {kV0 dc0 pm0 cd0 ct0 : Value}
    {oc1 : Value} {od1 an1 : Option Addr} {sl1 : Array (Option Value)} {kV1 dc1 pm1 cd1 ct1 : Value}
    {oc2 : Value} {od2 an2 : Option Addr} {sl2 : Array (Option Value)} {kV2 dc2 pm2 cd2 ct2 : Value}
    {oc3 : Value} {od3 an3 : Option Addr} {sl3 : Array (Option Value)} {kV3 dc3 pm3 cd3 ct3 : Value}
    {oc4 : Value} {od4 an4 : Option Addr} {sl4 : Array (Option Value)} {kV4 dc4 pm4 cd4 ct4 : Value}
    {oc5 : Value} {od5 an5 : Option Addr} {sl5 : Array (Option Value)} {kV5 dc5 pm5 cd5 ct5 : Value}
    {oc6 : Value} {od6 an6 : Option Addr} {sl6 : Array (Option Value)} {kV6 dc6 pm6 cd6 ct6 : Value}
    {oc7 : Value} {od7 an7 : Option Addr} {sl7 : Array (Option Value)} {kV7 dc7 pm7 cd7 ct7 : Value}
    {oc8 : Value} {od8 an8 : Option Addr} {sl8 : Array (Option Value)} {kV8 dc8 pm8 cd8 ct8 : Value}
    {oc9 : Value} {od9 an9 : Option Addr} {sl9 : Array (Option Value)} {kV9 dc9 pm9 cd9 ct9 : Value}
    {oc10 : Value} {od10 an10 : Option Addr} {sl10 : Array (Option Value)} {kV10 dc10 pm10 cd10 ct10 : Value}
    {oc11 : Value} {od11 an11 : Option Addr} {sl11 : Array (Option Value)} {kV11 dc11 pm11 cd11 ct11 : Value}
    {oc12 : Value} {od12 an12 : Option Addr} {sl12 : Array (Option Value)} {kV12 dc12 pm12 cd12 ct12 : Value}
    {oc13 : Value} {od13 an13 : Option Addr} {sl13 : Array (Option Value)} {kV13 dc13 pm13 cd13 ct13 : Value}
    {oc14 : Value} {od14 an14 : Option Addr} {sl14 : Array (Option Value)} {kV14 dc14 pm14 cd14 ct14 : Value}
    {oc15 : Value} {od15 an15 : Option Addr} {sl15 : Array (Option Value)} {kV15 dc15 pm15 cd15 ct15 : Value}
    {oc16 : Value} {od16 an16 : Option Addr} {sl16 : Array (Option Value)} {kV16 dc16 pm16 cd16 ct16 : Value}
    {oc17 : Value} {od17 an17 : Option Addr} {sl17 : Array (Option Value)} {kV17 dc17 pm17 cd17 ct17 : Value}
    {oc18 : Value} {od18 an18 : Option Addr} {sl18 : Array (Option Value)} {kV18 dc18 pm18 cd18 ct18 : Value}
    {oc19 : Value} {od19 an19 : Option Addr} {sl19 : Array (Option Value)} {kV19 dc19 pm19 cd19 ct19 : Value}
    {oc20 : Value} {od20 an20 : Option Addr} {sl20 : Array (Option Value)} {kV20 dc20 pm20 cd20 ct20 : Value}
    {oc21 : Value} {od21 an21 : Option Addr} {sl21 : Array (Option Value)} {kV21 dc21 pm21 cd21 ct21 : Value}
    {oc22 : Value} {od22 an22 : Option Addr} {sl22 : Array (Option Value)} {kV22 dc22 pm22 cd22 ct22 : Value}
    {oc23 : Value} {od23 an23 : Option Addr} {sl23 : Array (Option Value)} {kV23 dc23 pm23 cd23 ct23 : Value}
    {oc24 : Value} {od24 an24 : Option Addr} {sl24 : Array (Option Value)} {kV24 dc24 pm24 cd24 ct24 : Value}
    {oc25 : Value} {od25 an25 : Option Addr} {sl25 : Array (Option Value)} {kV25 dc25 pm25 cd25 ct25 : Value}
    {oc26 : Value} {od26 an26 : Option Addr} {sl26 : Array (Option Value)} {kV26 dc26 pm26 cd26 ct26 : Value}
    {oc27 : Value} {od27 an27 : Option Addr} {sl27 : Array (Option Value)} {kV27 dc27 pm27 cd27 ct27 : Value}
    {oc28 : Value} {od28 an28 : Option Addr} {sl28 : Array (Option Value)} {kV28 dc28 pm28 cd28 ct28 : Value}
    {oc29 : Value} {od29 an29 : Option Addr} {sl29 : Array (Option Value)} {kV29 dc29 pm29 cd29 ct29 : Value}
    {oc30 : Value} {od30 an30 : Option Addr} {sl30 : Array (Option Value)} {kV30 dc30 pm30 cd30 ct30 : Value}
    {oc31 : Value} {od31 an31 : Option Addr} {sl31 : Array (Option Value)} {kV31 dc31 pm31 cd31 ct31 : Value}
    {oc32 : Value} {od32 an32 : Option Addr} {sl32 : Array (Option Value)} {kV32 dc32 pm32 cd32 ct32 : Value}
    {oc33 : Value} {od33 an33 : Option Addr} {sl33 : Array (Option Value)} {kV33 dc33 pm33 cd33 ct33 : Value}
    {oc34 : Value} {od34 an34 : Option Addr} {sl34 : Array (Option Value)} {kV34 dc34 pm34 cd34 ct34 : Value}
    {oc35 : Value} {od35 an35 : Option Addr} {sl35 : Array (Option Value)} {kV35 dc35 pm35  ct35 : Value}
    {cL_ tP : Addr} {eT : Value} {ddT : Option Addr} {vsT : Array Value} {slT : Array (Option Value)}
    {cLE fLE dLE : Addr} {ocLE : Value} {odLE anLE : Option Addr} {slLE : Array (Option Value)} {kVLE dcLE pmLE cdLE ctLE : Value} {oD : Option Addr} {mD : Nat} {slD : Array (Option Value)} {tLe1 tLe2 : Tok}
    {xBadBit : Addr}
    {xBadByte : Addr}
    {xBadFrame : Addr}
    {xBadCode : Addr}
    {xBadCount : Addr}
    {xTooLong : Addr}
    {xFull : Addr}
    {fIBadBit : Addr} {nmBadBit qBadBit : Str} {NBadBit : Addr} {bsBadBit bmBadBit : List Value} {snBadBit : List Str} {subBadBit : List Value} {abBadBit : Bool} {colBadBit : Option Bool} {ddBadBit : Option Addr} {kaBadBit kbBadBit kcBadBit kdBadBit keBadBit : Option Value}
    {ocBadBit : Value} {odBadBit anBadBit : Option Addr} {slBadBit : Array (Option Value)} {kVBadBit dcBadBit pmBadBit cdBadBit ctBadBit : Value}
    {fIBadByte : Addr} {nmBadByte qBadByte : Str} {NBadByte : Addr} {bsBadByte bmBadByte : List Value} {snBadByte : List Str} {subBadByte : List Value} {abBadByte : Bool} {colBadByte : Option Bool} {ddBadByte : Option Addr} {kaBadByte kbBadByte kcBadByte kdBadByte keBadByte : Option Value}
    {ocBadByte : Value} {odBadByte anBadByte : Option Addr} {slBadByte : Array (Option Value)} {kVBadByte dcBadByte pmBadByte cdBadByte ctBadByte : Value}
    {fIBadCode : Addr} {nmBadCode qBadCode : Str} {NBadCode : Addr} {bsBadCode bmBadCode : List Value} {snBadCode : List Str} {subBadCode : List Value} {abBadCode : Bool} {colBadCode : Option Bool} {ddBadCode : Option Addr} {kaBadCode kbBadCode kcBadCode kdBadCode keBadCode : Option Value}
    {ocBadCode : Value} {odBadCode anBadCode : Option Addr} {slBadCode : Array (Option Value)} {kVBadCode dcBadCode pmBadCode cdBadCode ctBadCode : Value}
    {fIBadFrame : Addr} {nmBadFrame qBadFrame : Str} {NBadFrame : Addr} {bsBadFrame bmBadFrame : List Value} {snBadFrame : List Str} {subBadFrame : List Value} {abBadFrame : Bool} {colBadFrame : Option Bool} {ddBadFrame : Option Addr} {kaBadFrame kbBadFrame kcBadFrame kdBadFrame keBadFrame : Option Value}
    {ocBadFrame : Value} {odBadFrame anBadFrame : Option Addr} {slBadFrame : Array (Option Value)} {kVBadFrame dcBadFrame pmBadFrame cdBadFrame ctBadFrame : Value}
    {fIBadCount : Addr} {nmBadCount qBadCount : Str} {NBadCount : Addr} {bsBadCount bmBadCount : List Value} {snBadCount : List Str} {subBadCount : List Value} {abBadCount : Bool} {colBadCount : Option Bool} {ddBadCount : Option Addr} {kaBadCount kbBadCount kcBadCount kdBadCount keBadCount : Option Value}
    {ocBadCount : Value} {odBadCount anBadCount : Option Addr} {slBadCount : Array (Option Value)} {kVBadCount dcBadCount pmBadCount cdBadCount ctBadCount : Value}
    {fITooLong : Addr} {nmTooLong qTooLong : Str} {NTooLong : Addr} {bsTooLong bmTooLong : List Value} {snTooLong : List Str} {subTooLong : List Value} {abTooLong : Bool} {colTooLong : Option Bool} {ddTooLong : Option Addr} {kaTooLong kbTooLong kcTooLong kdTooLong keTooLong : Option Value}
    {ocTooLong : Value} {odTooLong anTooLong : Option Addr} {slTooLong : Array (Option Value)} {kVTooLong dcTooLong pmTooLong cdTooLong ctTooLong : Value}
    {t_BYTE_BITS : Tok}
    {t_GREATEST_BYTE : Tok}
    {t_MOST_BITS : Tok}
    {t_MOST_WORDS : Tok}
    {t_LONGEST_ROW : Tok}
    {t_BYTE_WORDS : Tok}
    {t_CODE_BITS : Tok}
    (r1Book : PySem.W.nsIn K mainGlobals "Book" = some (some (.ref cBook)))
    (r2Book : PySem.W.plainGet K cBook Str.empty = true)
    (r3Book : PySem.W.hasDictIn K cBook = true)
    (r4Book : PySem.W.plainOver K cBook = true)
    (r5Book : PySem.W.findIn K (.ref cBook) "__setattr__" = some (some (.builtin "object.__setattr__")))
    (r6Book : PySem.W.makesIn K cBook = true)
    (r7Book : PySem.W.keepIn K (.ref cBook) = true)
    (r_Book_words : PySem.W.findIn K (.ref cBook) "words" = some none)
    (ob_Book : PySem.W.findIn K (.ref cBook) "__bool__" = some none)
    (a0 : PySem.W.nsIn K mainGlobals "check_bits" = some (some (.ref f0)))
    (l0 : K.lookup f0 = some ⟨oc0, od0, .func (PySem.W.fnOf "check_bits" "check_bits" (defArgs s_check_bits) (defBody s_check_bits) (defScope s_check_bits) .none kV0 dc0 pm0 an0 cd0 ct0), sl0⟩)
    (c0 : PySem.W.codeIn K cd0 "check_bits" = true)
    (k0 : PySem.W.keepIn K (.ref f0) = true)
    (a1 : PySem.W.nsIn K mainGlobals "check_bytes" = some (some (.ref f1)))
    (l1 : K.lookup f1 = some ⟨oc1, od1, .func (PySem.W.fnOf "check_bytes" "check_bytes" (defArgs s_check_bytes) (defBody s_check_bytes) (defScope s_check_bytes) .none kV1 dc1 pm1 an1 cd1 ct1), sl1⟩)
    (c1 : PySem.W.codeIn K cd1 "check_bytes" = true)
    (k1 : PySem.W.keepIn K (.ref f1) = true)
    (a2 : PySem.W.nsIn K mainGlobals "number_bits" = some (some (.ref f2)))
    (l2 : K.lookup f2 = some ⟨oc2, od2, .func (PySem.W.fnOf "number_bits" "number_bits" (defArgs s_number_bits) (defBody s_number_bits) (defScope s_number_bits) .none kV2 dc2 pm2 an2 cd2 ct2), sl2⟩)
    (c2 : PySem.W.codeIn K cd2 "number_bits" = true)
    (k2 : PySem.W.keepIn K (.ref f2) = true)
    (a3 : PySem.W.nsIn K mainGlobals "bits_number" = some (some (.ref f3)))
    (l3 : K.lookup f3 = some ⟨oc3, od3, .func (PySem.W.fnOf "bits_number" "bits_number" (defArgs s_bits_number) (defBody s_bits_number) (defScope s_bits_number) .none kV3 dc3 pm3 an3 cd3 ct3), sl3⟩)
    (c3 : PySem.W.codeIn K cd3 "bits_number" = true)
    (k3 : PySem.W.keepIn K (.ref f3) = true)
    (a4 : PySem.W.nsIn K mainGlobals "bits_of" = some (some (.ref f4)))
    (l4 : K.lookup f4 = some ⟨oc4, od4, .func (PySem.W.fnOf "bits_of" "bits_of" (defArgs s_bits_of) (defBody s_bits_of) (defScope s_bits_of) .none kV4 dc4 pm4 an4 cd4 ct4), sl4⟩)
    (c4 : PySem.W.codeIn K cd4 "bits_of" = true)
    (k4 : PySem.W.keepIn K (.ref f4) = true)
    (a5 : PySem.W.nsIn K mainGlobals "has_room" = some (some (.ref f5)))
    (l5 : K.lookup f5 = some ⟨oc5, od5, .func (PySem.W.fnOf "has_room" "has_room" (defArgs s_has_room) (defBody s_has_room) (defScope s_has_room) .none kV5 dc5 pm5 an5 cd5 ct5), sl5⟩)
    (c5 : PySem.W.codeIn K cd5 "has_room" = true)
    (k5 : PySem.W.keepIn K (.ref f5) = true)
    (a6 : PySem.W.nsIn K mainGlobals "words_at_beginning" = some (some (.ref f6)))
    (l6 : K.lookup f6 = some ⟨oc6, od6, .func (PySem.W.fnOf "words_at_beginning" "words_at_beginning" (defArgs s_words_at_beginning) (defBody s_words_at_beginning) (defScope s_words_at_beginning) .none kV6 dc6 pm6 an6 cd6 ct6), sl6⟩)
    (c6 : PySem.W.codeIn K cd6 "words_at_beginning" = true)
    (k6 : PySem.W.keepIn K (.ref f6) = true)
    (a7 : PySem.W.nsIn K mainGlobals "longest_code" = some (some (.ref f7)))
    (l7 : K.lookup f7 = some ⟨oc7, od7, .func (PySem.W.fnOf "longest_code" "longest_code" (defArgs s_longest_code) (defBody s_longest_code) (defScope s_longest_code) .none kV7 dc7 pm7 an7 cd7 ct7), sl7⟩)
    (c7 : PySem.W.codeIn K cd7 "longest_code" = true)
    (k7 : PySem.W.keepIn K (.ref f7) = true)
    (a8 : PySem.W.nsIn K mainGlobals "word_of" = some (some (.ref f8)))
    (l8 : K.lookup f8 = some ⟨oc8, od8, .func (PySem.W.fnOf "word_of" "word_of" (defArgs s_word_of) (defBody s_word_of) (defScope s_word_of) .none kV8 dc8 pm8 an8 cd8 ct8), sl8⟩)
    (c8 : PySem.W.codeIn K cd8 "word_of" = true)
    (k8 : PySem.W.keepIn K (.ref f8) = true)
    (a9 : PySem.W.nsIn K mainGlobals "learn" = some (some (.ref f9)))
    (l9 : K.lookup f9 = some ⟨oc9, od9, .func (PySem.W.fnOf "learn" "learn" (defArgs s_learn) (defBody s_learn) (defScope s_learn) .none kV9 dc9 pm9 an9 cd9 ct9), sl9⟩)
    (c9 : PySem.W.codeIn K cd9 "learn" = true)
    (k9 : PySem.W.keepIn K (.ref f9) = true)
    (a10 : PySem.W.nsIn K mainGlobals "numbers_behind_first" = some (some (.ref f10)))
    (l10 : K.lookup f10 = some ⟨oc10, od10, .func (PySem.W.fnOf "numbers_behind_first" "numbers_behind_first" (defArgs s_numbers_behind_first) (defBody s_numbers_behind_first) (defScope s_numbers_behind_first) .none kV10 dc10 pm10 an10 cd10 ct10), sl10⟩)
    (c10 : PySem.W.codeIn K cd10 "numbers_behind_first" = true)
    (k10 : PySem.W.keepIn K (.ref f10) = true)
    (a11 : PySem.W.findIn K (.ref cBook) "__init__" = some (some (.ref f11)))
    (i11 : PySem.W.isFn K (.ref f11) = true)
    (l11 : K.lookup f11 = some ⟨oc11, od11, .func (PySem.W.fnOf "__init__" "Book.__init__" (defArgs m_Book___init__) (defBody m_Book___init__) (defScope m_Book___init__) .none kV11 dc11 pm11 an11 cd11 ct11), sl11⟩)
    (c11 : PySem.W.codeIn K cd11 "Book.__init__" = true)
    (k11 : PySem.W.keepIn K (.ref f11) = true)
    (a12 : PySem.W.findIn K (.ref cBook) "__len__" = some (some (.ref f12)))
    (i12 : PySem.W.isFn K (.ref f12) = true)
    (l12 : K.lookup f12 = some ⟨oc12, od12, .func (PySem.W.fnOf "__len__" "Book.__len__" (defArgs m_Book___len__) (defBody m_Book___len__) (defScope m_Book___len__) .none kV12 dc12 pm12 an12 cd12 ct12), sl12⟩)
    (c12 : PySem.W.codeIn K cd12 "Book.__len__" = true)
    (k12 : PySem.W.keepIn K (.ref f12) = true)
    (a13 : PySem.W.findIn K (.ref cBook) "__repr__" = some (some (.ref f13)))
    (i13 : PySem.W.isFn K (.ref f13) = true)
    (l13 : K.lookup f13 = some ⟨oc13, od13, .func (PySem.W.fnOf "__repr__" "Book.__repr__" (defArgs m_Book___repr__) (defBody m_Book___repr__) (defScope m_Book___repr__) .none kV13 dc13 pm13 an13 cd13 ct13), sl13⟩)
    (c13 : PySem.W.codeIn K cd13 "Book.__repr__" = true)
    (k13 : PySem.W.keepIn K (.ref f13) = true)
    (a14 : PySem.W.findIn K (.ref cBook) "shorten" = some (some (.ref f14)))
    (i14 : PySem.W.isFn K (.ref f14) = true)
    (l14 : K.lookup f14 = some ⟨oc14, od14, .func (PySem.W.fnOf "shorten" "Book.shorten" (defArgs m_Book_shorten) (defBody m_Book_shorten) (defScope m_Book_shorten) .none kV14 dc14 pm14 an14 cd14 ct14), sl14⟩)
    (c14 : PySem.W.codeIn K cd14 "Book.shorten" = true)
    (k14 : PySem.W.keepIn K (.ref f14) = true)
    (a15 : PySem.W.findIn K (.ref cBook) "lengthen" = some (some (.ref f15)))
    (i15 : PySem.W.isFn K (.ref f15) = true)
    (l15 : K.lookup f15 = some ⟨oc15, od15, .func (PySem.W.fnOf "lengthen" "Book.lengthen" (defArgs m_Book_lengthen) (defBody m_Book_lengthen) (defScope m_Book_lengthen) .none kV15 dc15 pm15 an15 cd15 ct15), sl15⟩)
    (c15 : PySem.W.codeIn K cd15 "Book.lengthen" = true)
    (k15 : PySem.W.keepIn K (.ref f15) = true)
    (a16 : PySem.W.findIn K (.ref cBook) "pack" = some (some (.ref f16)))
    (i16 : PySem.W.isFn K (.ref f16) = true)
    (l16 : K.lookup f16 = some ⟨oc16, od16, .func (PySem.W.fnOf "pack" "Book.pack" (defArgs m_Book_pack) (defBody m_Book_pack) (defScope m_Book_pack) .none kV16 dc16 pm16 an16 cd16 ct16), sl16⟩)
    (c16 : PySem.W.codeIn K cd16 "Book.pack" = true)
    (k16 : PySem.W.keepIn K (.ref f16) = true)
    (a17 : PySem.W.findIn K (.ref cBook) "unpack" = some (some (.ref f17)))
    (i17 : PySem.W.isFn K (.ref f17) = true)
    (l17 : K.lookup f17 = some ⟨oc17, od17, .func (PySem.W.fnOf "unpack" "Book.unpack" (defArgs m_Book_unpack) (defBody m_Book_unpack) (defScope m_Book_unpack) .none kV17 dc17 pm17 an17 cd17 ct17), sl17⟩)
    (c17 : PySem.W.codeIn K cd17 "Book.unpack" = true)
    (k17 : PySem.W.keepIn K (.ref f17) = true)
    (a18 : PySem.W.findIn K (.ref cBook) "learnt" = some (some (.ref f18)))
    (i18 : PySem.W.isFn K (.ref f18) = true)
    (l18 : K.lookup f18 = some ⟨oc18, od18, .func (PySem.W.fnOf "learnt" "Book.learnt" (defArgs m_Book_learnt) (defBody m_Book_learnt) (defScope m_Book_learnt) .none kV18 dc18 pm18 an18 cd18 ct18), sl18⟩)
    (c18 : PySem.W.codeIn K cd18 "Book.learnt" = true)
    (k18 : PySem.W.keepIn K (.ref f18) = true)
    (a19 : PySem.W.nsIn K mainGlobals "_law_bag" = some (some (.ref f19)))
    (l19 : K.lookup f19 = some ⟨oc19, od19, .func (PySem.W.fnOf "_law_bag" "_law_bag" (defArgs s__law_bag) (defBody s__law_bag) (defScope s__law_bag) .none kV19 dc19 pm19 an19 cd19 ct19), sl19⟩)
    (c19 : PySem.W.codeIn K cd19 "_law_bag" = true)
    (k19 : PySem.W.keepIn K (.ref f19) = true)
    (a20 : PySem.W.nsIn K mainGlobals "_law_pick" = some (some (.ref f20)))
    (l20 : K.lookup f20 = some ⟨oc20, od20, .func (PySem.W.fnOf "_law_pick" "_law_pick" (defArgs s__law_pick) (defBody s__law_pick) (defScope s__law_pick) .none kV20 dc20 pm20 an20 cd20 ct20), sl20⟩)
    (c20 : PySem.W.codeIn K cd20 "_law_pick" = true)
    (k20 : PySem.W.keepIn K (.ref f20) = true)
    (a21 : PySem.W.nsIn K mainGlobals "_law_of" = some (some (.ref f21)))
    (l21 : K.lookup f21 = some ⟨oc21, od21, .func (PySem.W.fnOf "_law_of" "_law_of" (defArgs s__law_of) (defBody s__law_of) (defScope s__law_of) .none kV21 dc21 pm21 an21 cd21 ct21), sl21⟩)
    (c21 : PySem.W.codeIn K cd21 "_law_of" = true)
    (k21 : PySem.W.keepIn K (.ref f21) = true)
    (a22 : PySem.W.nsIn K mainGlobals "_law_same" = some (some (.ref f22)))
    (l22 : K.lookup f22 = some ⟨oc22, od22, .func (PySem.W.fnOf "_law_same" "_law_same" (defArgs s__law_same) (defBody s__law_same) (defScope s__law_same) .none kV22 dc22 pm22 an22 cd22 ct22), sl22⟩)
    (c22 : PySem.W.codeIn K cd22 "_law_same" = true)
    (k22 : PySem.W.keepIn K (.ref f22) = true)
    (a23 : PySem.W.nsIn K mainGlobals "_law_at" = some (some (.ref f23)))
    (l23 : K.lookup f23 = some ⟨oc23, od23, .func (PySem.W.fnOf "_law_at" "_law_at" (defArgs s__law_at) (defBody s__law_at) (defScope s__law_at) .none kV23 dc23 pm23 an23 cd23 ct23), sl23⟩)
    (c23 : PySem.W.codeIn K cd23 "_law_at" = true)
    (k23 : PySem.W.keepIn K (.ref f23) = true)
    (a24 : PySem.W.nsIn K mainGlobals "_law_most" = some (some (.ref f24)))
    (l24 : K.lookup f24 = some ⟨oc24, od24, .func (PySem.W.fnOf "_law_most" "_law_most" (defArgs s__law_most) (defBody s__law_most) (defScope s__law_most) .none kV24 dc24 pm24 an24 cd24 ct24), sl24⟩)
    (c24 : PySem.W.codeIn K cd24 "_law_most" = true)
    (k24 : PySem.W.keepIn K (.ref f24) = true)
    (a25 : PySem.W.nsIn K mainGlobals "_law_written" = some (some (.ref f25)))
    (l25 : K.lookup f25 = some ⟨oc25, od25, .func (PySem.W.fnOf "_law_written" "_law_written" (defArgs s__law_written) (defBody s__law_written) (defScope s__law_written) .none kV25 dc25 pm25 an25 cd25 ct25), sl25⟩)
    (c25 : PySem.W.codeIn K cd25 "_law_written" = true)
    (k25 : PySem.W.keepIn K (.ref f25) = true)
    (a26 : PySem.W.nsIn K mainGlobals "_law_row" = some (some (.ref f26)))
    (l26 : K.lookup f26 = some ⟨oc26, od26, .func (PySem.W.fnOf "_law_row" "_law_row" (defArgs s__law_row) (defBody s__law_row) (defScope s__law_row) .none kV26 dc26 pm26 an26 cd26 ct26), sl26⟩)
    (c26 : PySem.W.codeIn K cd26 "_law_row" = true)
    (k26 : PySem.W.keepIn K (.ref f26) = true)
    (a27 : PySem.W.nsIn K mainGlobals "_law_bytes_bits" = some (some (.ref f27)))
    (l27 : K.lookup f27 = some ⟨oc27, od27, .func (PySem.W.fnOf "_law_bytes_bits" "_law_bytes_bits" (defArgs s__law_bytes_bits) (defBody s__law_bytes_bits) (defScope s__law_bytes_bits) .none kV27 dc27 pm27 an27 cd27 ct27), sl27⟩)
    (c27 : PySem.W.codeIn K cd27 "_law_bytes_bits" = true)
    (k27 : PySem.W.keepIn K (.ref f27) = true)
    (a28 : PySem.W.nsIn K mainGlobals "_law_book_begun" = some (some (.ref f28)))
    (l28 : K.lookup f28 = some ⟨oc28, od28, .func (PySem.W.fnOf "_law_book_begun" "_law_book_begun" (defArgs s__law_book_begun) (defBody s__law_book_begun) (defScope s__law_book_begun) .none kV28 dc28 pm28 an28 cd28 ct28), sl28⟩)
    (c28 : PySem.W.codeIn K cd28 "_law_book_begun" = true)
    (k28 : PySem.W.keepIn K (.ref f28) = true)
    (a29 : PySem.W.nsIn K mainGlobals "_law_book_learn" = some (some (.ref f29)))
    (l29 : K.lookup f29 = some ⟨oc29, od29, .func (PySem.W.fnOf "_law_book_learn" "_law_book_learn" (defArgs s__law_book_learn) (defBody s__law_book_learn) (defScope s__law_book_learn) .none kV29 dc29 pm29 an29 cd29 ct29), sl29⟩)
    (c29 : PySem.W.codeIn K cd29 "_law_book_learn" = true)
    (k29 : PySem.W.keepIn K (.ref f29) = true)
    (a30 : PySem.W.nsIn K mainGlobals "_law_book_codes" = some (some (.ref f30)))
    (l30 : K.lookup f30 = some ⟨oc30, od30, .func (PySem.W.fnOf "_law_book_codes" "_law_book_codes" (defArgs s__law_book_codes) (defBody s__law_book_codes) (defScope s__law_book_codes) .none kV30 dc30 pm30 an30 cd30 ct30), sl30⟩)
    (c30 : PySem.W.codeIn K cd30 "_law_book_codes" = true)
    (k30 : PySem.W.keepIn K (.ref f30) = true)
    (a31 : PySem.W.nsIn K mainGlobals "_law_rich_row" = some (some (.ref f31)))
    (l31 : K.lookup f31 = some ⟨oc31, od31, .func (PySem.W.fnOf "_law_rich_row" "_law_rich_row" (defArgs s__law_rich_row) (defBody s__law_rich_row) (defScope s__law_rich_row) .none kV31 dc31 pm31 an31 cd31 ct31), sl31⟩)
    (c31 : PySem.W.codeIn K cd31 "_law_rich_row" = true)
    (k31 : PySem.W.keepIn K (.ref f31) = true)
    (a32 : PySem.W.nsIn K mainGlobals "_law_menu" = some (some (.ref f32)))
    (l32 : K.lookup f32 = some ⟨oc32, od32, .func (PySem.W.fnOf "_law_menu" "_law_menu" (defArgs s__law_menu) (defBody s__law_menu) (defScope s__law_menu) .none kV32 dc32 pm32 an32 cd32 ct32), sl32⟩)
    (c32 : PySem.W.codeIn K cd32 "_law_menu" = true)
    (k32 : PySem.W.keepIn K (.ref f32) = true)
    (a33 : PySem.W.nsIn K mainGlobals "_law_book_right" = some (some (.ref f33)))
    (l33 : K.lookup f33 = some ⟨oc33, od33, .func (PySem.W.fnOf "_law_book_right" "_law_book_right" (defArgs s__law_book_right) (defBody s__law_book_right) (defScope s__law_book_right) .none kV33 dc33 pm33 an33 cd33 ct33), sl33⟩)
    (c33 : PySem.W.codeIn K cd33 "_law_book_right" = true)
    (k33 : PySem.W.keepIn K (.ref f33) = true)
    (a34 : PySem.W.nsIn K mainGlobals "_law_full_then_none" = some (some (.ref f34)))
    (l34 : K.lookup f34 = some ⟨oc34, od34, .func (PySem.W.fnOf "_law_full_then_none" "_law_full_then_none" (defArgs s__law_full_then_none) (defBody s__law_full_then_none) (defScope s__law_full_then_none) .none kV34 dc34 pm34 an34 cd34 ct34), sl34⟩)
    (c34 : PySem.W.codeIn K cd34 "_law_full_then_none" = true)
    (k34 : PySem.W.keepIn K (.ref f34) = true)
    (a35 : PySem.W.nsIn K mainGlobals "law" = some (some (.ref f35)))
    (l35 : K.lookup f35 = some ⟨oc35, od35, .func (PySem.W.fnOf "law" "law" (defArgs s_law) (defBody s_law) (defScope s_law) .none kV35 dc35 pm35 an35 (.ref cL_) ct35), sl35⟩)
    (c35 : PySem.W.codeIn K (.ref cL_) "law" = true)
    (k35 : PySem.W.keepIn K (.ref f35) = true)
    (t1 : K.lookup cL_ = some ⟨eT, ddT, .fields vsT, slT⟩)
    (t2 : (vsT[11]? : Option Value) = some (.ref tP))
    (t3 : PySem.W.codeHdIn K cL_ tP = true)
    (t4 : K.lookup tP = none)
    (e1 : PySem.W.nsIn K mainGlobals "LineError" = some (some (.ref cLE)))
    (e2 : PySem.W.specialIn K (.ref cLE) "__getattribute__" = some (some (.builtin "type.__getattribute__")))
    (e3 : PySem.W.typeIn K (.ref cLE) = some (.type "type"))
    (e4 : PySem.W.readsIn K cLE (.type "type") = true)
    (e5 : PySem.W.findCls K (.ref cLE) (.type "type") "__init__" = some (.val (.ref fLE)))
    (e6 : PySem.W.keepIn K (.ref fLE) = true)
    (e7 : K.lookup fLE = some ⟨ocLE, odLE, .func (PySem.W.fnOf "__init__" "LineError.__init__" (defArgs i_LineError) (defBody i_LineError) (defScope i_LineError) (.ref dLE) kVLE dcLE pmLE anLE cdLE ctLE), slLE⟩)
    (e8 : PySem.W.codeIn K cdLE "LineError.__init__" = true)
    (e9 : K.lookup dLE = some ⟨.type "tuple", oD, .seq #[.str "LineError" tLe1, .str "refused" tLe2] mD, slD⟩)
    (e10 : PySem.W.findCls K (.type "ValueError") (.type "type") "__init__" = some (.val (.builtin "ValueError.__init__")))
    (z_ValueError : PySem.W.nsIn K mainGlobals "ValueError" = some none)
    (gBadBit : PySem.W.nsIn K mainGlobals "BadBit" = some (some (.ref xBadBit)))
    (gaBadBit : PySem.W.findIn K (.ref xBadBit) "__getattribute__" = some (some (.builtin "BaseException.__getattribute__")))
    (ggBadBit : PySem.W.findIn K (.ref xBadBit) "__getattr__" = some none)
    (exBadBit : PySem.W.subIn K (.ref xBadBit) (.type "BaseException") = some true)
    (hdBadBit : PySem.W.hasDictIn K xBadBit = true)
    (noBadBit : PySem.W.findIn K (.ref xBadBit) "at" = some none)
    (gBadByte : PySem.W.nsIn K mainGlobals "BadByte" = some (some (.ref xBadByte)))
    (gaBadByte : PySem.W.findIn K (.ref xBadByte) "__getattribute__" = some (some (.builtin "BaseException.__getattribute__")))
    (ggBadByte : PySem.W.findIn K (.ref xBadByte) "__getattr__" = some none)
    (exBadByte : PySem.W.subIn K (.ref xBadByte) (.type "BaseException") = some true)
    (hdBadByte : PySem.W.hasDictIn K xBadByte = true)
    (noBadByte : PySem.W.findIn K (.ref xBadByte) "at" = some none)
    (gBadFrame : PySem.W.nsIn K mainGlobals "BadFrame" = some (some (.ref xBadFrame)))
    (gaBadFrame : PySem.W.findIn K (.ref xBadFrame) "__getattribute__" = some (some (.builtin "BaseException.__getattribute__")))
    (ggBadFrame : PySem.W.findIn K (.ref xBadFrame) "__getattr__" = some none)
    (exBadFrame : PySem.W.subIn K (.ref xBadFrame) (.type "BaseException") = some true)
    (hdBadFrame : PySem.W.hasDictIn K xBadFrame = true)
    (noBadFrame : PySem.W.findIn K (.ref xBadFrame) "at" = some none)
    (gBadCode : PySem.W.nsIn K mainGlobals "BadCode" = some (some (.ref xBadCode)))
    (gaBadCode : PySem.W.findIn K (.ref xBadCode) "__getattribute__" = some (some (.builtin "BaseException.__getattribute__")))
    (ggBadCode : PySem.W.findIn K (.ref xBadCode) "__getattr__" = some none)
    (exBadCode : PySem.W.subIn K (.ref xBadCode) (.type "BaseException") = some true)
    (hdBadCode : PySem.W.hasDictIn K xBadCode = true)
    (noBadCode : PySem.W.findIn K (.ref xBadCode) "at" = some none)
    (mBadBitBadBit : PySem.W.exmOne K (.ref xBadBit) (.ref xBadBit) = some true)
    (mBadByteBadBit : PySem.W.exmOne K (.ref xBadByte) (.ref xBadBit) = some false)
    (mBadByteBadByte : PySem.W.exmOne K (.ref xBadByte) (.ref xBadByte) = some true)
    (mBadFrameBadBit : PySem.W.exmOne K (.ref xBadFrame) (.ref xBadBit) = some false)
    (mBadFrameBadByte : PySem.W.exmOne K (.ref xBadFrame) (.ref xBadByte) = some false)
    (mBadFrameBadFrame : PySem.W.exmOne K (.ref xBadFrame) (.ref xBadFrame) = some true)
    (mBadCodeBadBit : PySem.W.exmOne K (.ref xBadCode) (.ref xBadBit) = some false)
    (mBadCodeBadByte : PySem.W.exmOne K (.ref xBadCode) (.ref xBadByte) = some false)
    (mBadCodeBadFrame : PySem.W.exmOne K (.ref xBadCode) (.ref xBadFrame) = some false)
    (mBadCodeBadCode : PySem.W.exmOne K (.ref xBadCode) (.ref xBadCode) = some true)
    (gBadCount : PySem.W.nsIn K mainGlobals "BadCount" = some (some (.ref xBadCount)))
    (gaBadCount : PySem.W.findIn K (.ref xBadCount) "__getattribute__" = some (some (.builtin "BaseException.__getattribute__")))
    (ggBadCount : PySem.W.findIn K (.ref xBadCount) "__getattr__" = some none)
    (exBadCount : PySem.W.subIn K (.ref xBadCount) (.type "BaseException") = some true)
    (hdBadCount : PySem.W.hasDictIn K xBadCount = true)
    (gTooLong : PySem.W.nsIn K mainGlobals "TooLong" = some (some (.ref xTooLong)))
    (gaTooLong : PySem.W.findIn K (.ref xTooLong) "__getattribute__" = some (some (.builtin "BaseException.__getattribute__")))
    (ggTooLong : PySem.W.findIn K (.ref xTooLong) "__getattr__" = some none)
    (exTooLong : PySem.W.subIn K (.ref xTooLong) (.type "BaseException") = some true)
    (hdTooLong : PySem.W.hasDictIn K xTooLong = true)
    (noTooLong : PySem.W.findIn K (.ref xTooLong) "most" = some none)
    (gFull : PySem.W.nsIn K mainGlobals "Full" = some (some (.ref xFull)))
    (mBTT : PySem.W.exmOne K (.ref xTooLong) (.ref xTooLong) = some true)
    (o1BadBit : K.lookup xBadBit = some (excClassObj nmBadBit qBadBit xBadBit NBadBit bsBadBit bmBadBit true snBadBit subBadBit abBadBit colBadBit ddBadBit kaBadBit kbBadBit kcBadBit kdBadBit keBadBit "ValueError.__new__"))
    (o2BadBit : PySem.HandSPX.refsVE bmBadBit = true)
    (o3BadBit : PySem.W.findIn K (.ref xBadBit) "__setattr__" = some (some (.builtin "object.__setattr__")))
    (o4BadBit : PySem.W.typeIn K (.ref xBadBit) = some (.type "type"))
    (o5BadBit : PySem.W.keepIn K (.ref xBadBit) = true)
    (o6BadBit : PySem.W.findIn K (.ref xBadBit) "__init__" = some (some (.ref fIBadBit)))
    (o7BadBit : PySem.W.typeIn K (.ref fIBadBit) = some (.type "function"))
    (o8BadBit : K.lookup fIBadBit = some ⟨ocBadBit, odBadBit, .func (PySem.W.fnOf "__init__" "BadBit.__init__" (defArgs i_BadBit) (defBody i_BadBit) (defScope i_BadBit) .none kVBadBit dcBadBit pmBadBit anBadBit cdBadBit ctBadBit), slBadBit⟩)
    (o9BadBit : PySem.W.codeIn K cdBadBit "BadBit.__init__" = true)
    (p1BadBit : PySem.W.keepIn K (.ref fIBadBit) = true)
    (p2BadBit : PySem.W.findIn K (.ref xBadBit) "word" = some none)
    (o1BadByte : K.lookup xBadByte = some (excClassObj nmBadByte qBadByte xBadByte NBadByte bsBadByte bmBadByte true snBadByte subBadByte abBadByte colBadByte ddBadByte kaBadByte kbBadByte kcBadByte kdBadByte keBadByte "ValueError.__new__"))
    (o2BadByte : PySem.HandSPX.refsVE bmBadByte = true)
    (o3BadByte : PySem.W.findIn K (.ref xBadByte) "__setattr__" = some (some (.builtin "object.__setattr__")))
    (o4BadByte : PySem.W.typeIn K (.ref xBadByte) = some (.type "type"))
    (o5BadByte : PySem.W.keepIn K (.ref xBadByte) = true)
    (o6BadByte : PySem.W.findIn K (.ref xBadByte) "__init__" = some (some (.ref fIBadByte)))
    (o7BadByte : PySem.W.typeIn K (.ref fIBadByte) = some (.type "function"))
    (o8BadByte : K.lookup fIBadByte = some ⟨ocBadByte, odBadByte, .func (PySem.W.fnOf "__init__" "BadByte.__init__" (defArgs i_BadByte) (defBody i_BadByte) (defScope i_BadByte) .none kVBadByte dcBadByte pmBadByte anBadByte cdBadByte ctBadByte), slBadByte⟩)
    (o9BadByte : PySem.W.codeIn K cdBadByte "BadByte.__init__" = true)
    (p1BadByte : PySem.W.keepIn K (.ref fIBadByte) = true)
    (p2BadByte : PySem.W.findIn K (.ref xBadByte) "word" = some none)
    (o1BadCode : K.lookup xBadCode = some (excClassObj nmBadCode qBadCode xBadCode NBadCode bsBadCode bmBadCode true snBadCode subBadCode abBadCode colBadCode ddBadCode kaBadCode kbBadCode kcBadCode kdBadCode keBadCode "ValueError.__new__"))
    (o2BadCode : PySem.HandSPX.refsVE bmBadCode = true)
    (o3BadCode : PySem.W.findIn K (.ref xBadCode) "__setattr__" = some (some (.builtin "object.__setattr__")))
    (o4BadCode : PySem.W.typeIn K (.ref xBadCode) = some (.type "type"))
    (o5BadCode : PySem.W.keepIn K (.ref xBadCode) = true)
    (o6BadCode : PySem.W.findIn K (.ref xBadCode) "__init__" = some (some (.ref fIBadCode)))
    (o7BadCode : PySem.W.typeIn K (.ref fIBadCode) = some (.type "function"))
    (o8BadCode : K.lookup fIBadCode = some ⟨ocBadCode, odBadCode, .func (PySem.W.fnOf "__init__" "BadCode.__init__" (defArgs i_BadCode) (defBody i_BadCode) (defScope i_BadCode) .none kVBadCode dcBadCode pmBadCode anBadCode cdBadCode ctBadCode), slBadCode⟩)
    (o9BadCode : PySem.W.codeIn K cdBadCode "BadCode.__init__" = true)
    (p1BadCode : PySem.W.keepIn K (.ref fIBadCode) = true)
    (p2BadCode : PySem.W.findIn K (.ref xBadCode) "word" = some none)
    (o1BadFrame : K.lookup xBadFrame = some (excClassObj nmBadFrame qBadFrame xBadFrame NBadFrame bsBadFrame bmBadFrame true snBadFrame subBadFrame abBadFrame colBadFrame ddBadFrame kaBadFrame kbBadFrame kcBadFrame kdBadFrame keBadFrame "ValueError.__new__"))
    (o2BadFrame : PySem.HandSPX.refsVE bmBadFrame = true)
    (o3BadFrame : PySem.W.findIn K (.ref xBadFrame) "__setattr__" = some (some (.builtin "object.__setattr__")))
    (o4BadFrame : PySem.W.typeIn K (.ref xBadFrame) = some (.type "type"))
    (o5BadFrame : PySem.W.keepIn K (.ref xBadFrame) = true)
    (o6BadFrame : PySem.W.findIn K (.ref xBadFrame) "__init__" = some (some (.ref fIBadFrame)))
    (o7BadFrame : PySem.W.typeIn K (.ref fIBadFrame) = some (.type "function"))
    (o8BadFrame : K.lookup fIBadFrame = some ⟨ocBadFrame, odBadFrame, .func (PySem.W.fnOf "__init__" "BadFrame.__init__" (defArgs i_BadFrame) (defBody i_BadFrame) (defScope i_BadFrame) .none kVBadFrame dcBadFrame pmBadFrame anBadFrame cdBadFrame ctBadFrame), slBadFrame⟩)
    (o9BadFrame : PySem.W.codeIn K cdBadFrame "BadFrame.__init__" = true)
    (p1BadFrame : PySem.W.keepIn K (.ref fIBadFrame) = true)
    (p2BadFrame : PySem.W.findIn K (.ref xBadFrame) "word" = some none)
    (o1BadCount : K.lookup xBadCount = some (excClassObj nmBadCount qBadCount xBadCount NBadCount bsBadCount bmBadCount true snBadCount subBadCount abBadCount colBadCount ddBadCount kaBadCount kbBadCount kcBadCount kdBadCount keBadCount "ValueError.__new__"))
    (o2BadCount : PySem.HandSPX.refsVE bmBadCount = true)
    (o3BadCount : PySem.W.findIn K (.ref xBadCount) "__setattr__" = some (some (.builtin "object.__setattr__")))
    (o4BadCount : PySem.W.typeIn K (.ref xBadCount) = some (.type "type"))
    (o5BadCount : PySem.W.keepIn K (.ref xBadCount) = true)
    (o6BadCount : PySem.W.findIn K (.ref xBadCount) "__init__" = some (some (.ref fIBadCount)))
    (o7BadCount : PySem.W.typeIn K (.ref fIBadCount) = some (.type "function"))
    (o8BadCount : K.lookup fIBadCount = some ⟨ocBadCount, odBadCount, .func (PySem.W.fnOf "__init__" "BadCount.__init__" (defArgs i_BadCount) (defBody i_BadCount) (defScope i_BadCount) .none kVBadCount dcBadCount pmBadCount anBadCount cdBadCount ctBadCount), slBadCount⟩)
    (o9BadCount : PySem.W.codeIn K cdBadCount "BadCount.__init__" = true)
    (p1BadCount : PySem.W.keepIn K (.ref fIBadCount) = true)
    (p2BadCount : PySem.W.findIn K (.ref xBadCount) "word" = some none)
    (o1TooLong : K.lookup xTooLong = some (excClassObj nmTooLong qTooLong xTooLong NTooLong bsTooLong bmTooLong true snTooLong subTooLong abTooLong colTooLong ddTooLong kaTooLong kbTooLong kcTooLong kdTooLong keTooLong "ValueError.__new__"))
    (o2TooLong : PySem.HandSPX.refsVE bmTooLong = true)
    (o3TooLong : PySem.W.findIn K (.ref xTooLong) "__setattr__" = some (some (.builtin "object.__setattr__")))
    (o4TooLong : PySem.W.typeIn K (.ref xTooLong) = some (.type "type"))
    (o5TooLong : PySem.W.keepIn K (.ref xTooLong) = true)
    (o6TooLong : PySem.W.findIn K (.ref xTooLong) "__init__" = some (some (.ref fITooLong)))
    (o7TooLong : PySem.W.typeIn K (.ref fITooLong) = some (.type "function"))
    (o8TooLong : K.lookup fITooLong = some ⟨ocTooLong, odTooLong, .func (PySem.W.fnOf "__init__" "TooLong.__init__" (defArgs i_TooLong) (defBody i_TooLong) (defScope i_TooLong) .none kVTooLong dcTooLong pmTooLong anTooLong cdTooLong ctTooLong), slTooLong⟩)
    (o9TooLong : PySem.W.codeIn K cdTooLong "TooLong.__init__" = true)
    (p1TooLong : PySem.W.keepIn K (.ref fITooLong) = true)
    (p2TooLong : PySem.W.findIn K (.ref xTooLong) "word" = some none)
    (z_enumerate : PySem.W.nsIn K mainGlobals "enumerate" = some none)
    (z_range : PySem.W.nsIn K mainGlobals "range" = some none)
    (z_len : PySem.W.nsIn K mainGlobals "len" = some none)
    (z_list : PySem.W.nsIn K mainGlobals "list" = some none)
    (z_tuple : PySem.W.nsIn K mainGlobals "tuple" = some none)
    (z_all : PySem.W.nsIn K mainGlobals "all" = some none)
    (z_bool : PySem.W.nsIn K mainGlobals "bool" = some none)
    (z_int : PySem.W.nsIn K mainGlobals "int" = some none)
    (z_isinstance : PySem.W.nsIn K mainGlobals "isinstance" = some none)
    (z_str : PySem.W.nsIn K mainGlobals "str" = some none)
    (z_max : PySem.W.nsIn K mainGlobals "max" = some none)
    (z_repr : PySem.W.nsIn K mainGlobals "repr" = some none)
    (q_BYTE_BITS : PySem.W.nsIn K mainGlobals "BYTE_BITS" = some (some (.int 8 t_BYTE_BITS)))
    (q_GREATEST_BYTE : PySem.W.nsIn K mainGlobals "GREATEST_BYTE" = some (some (.int 255 t_GREATEST_BYTE)))
    (q_MOST_BITS : PySem.W.nsIn K mainGlobals "MOST_BITS" = some (some (.int 64 t_MOST_BITS)))
    (q_MOST_WORDS : PySem.W.nsIn K mainGlobals "MOST_WORDS" = some (some (.int 300 t_MOST_WORDS)))
    (q_LONGEST_ROW : PySem.W.nsIn K mainGlobals "LONGEST_ROW" = some (some (.int 60 t_LONGEST_ROW)))
    (q_BYTE_WORDS : PySem.W.nsIn K mainGlobals "BYTE_WORDS" = some (some (.int 256 t_BYTE_WORDS)))
    (q_CODE_BITS : PySem.W.nsIn K mainGlobals "CODE_BITS" = some (some (.int 9 t_CODE_BITS))) :
    LamX.LawAtS l w K CX0 9 63 "_law_script" mg fa h := by
  have e := hfa.symm.trans (PySem.W.mg_of X G a35)
  cases e
  have F0 := fun_mk (st := s_check_bits) l0 c0 k0
  have b0 := F0.binds (ps := ["bits"]) fun _ _ _ _ _ _ us hl => match us, hl with | [_], _ => rfl
  have F1 := fun_mk (st := s_check_bytes) l1 c1 k1
  have b1 := F1.binds (ps := ["row"]) fun _ _ _ _ _ _ us hl => match us, hl with | [_], _ => rfl
  have F2 := fun_mk (st := s_number_bits) l2 c2 k2
  have b2 := F2.binds (ps := ["number", "many"]) fun _ _ _ _ _ _ us hl => match us, hl with | [_, _], _ => rfl
  have F3 := fun_mk (st := s_bits_number) l3 c3 k3
  have b3 := F3.binds (ps := ["bits"]) fun _ _ _ _ _ _ us hl => match us, hl with | [_], _ => rfl
  have F4 := fun_mk (st := s_bits_of) l4 c4 k4
  have b4 := F4.binds (ps := ["row"]) fun _ _ _ _ _ _ us hl => match us, hl with | [_], _ => rfl
  have F5 := fun_mk (st := s_has_room) l5 c5 k5
  have b5 := F5.binds (ps := ["words"]) fun _ _ _ _ _ _ us hl => match us, hl with | [_], _ => rfl
  have F6 := fun_mk (st := s_words_at_beginning) l6 c6 k6
  have b6 := F6.binds (ps := ["words"]) fun _ _ _ _ _ _ us hl => match us, hl with | [_], _ => rfl
  have F7 := fun_mk (st := s_longest_code) l7 c7 k7
  have b7 := F7.binds (ps := ["words", "row", "at"]) fun _ _ _ _ _ _ us hl => match us, hl with | [_, _, _], _ => rfl
  have F8 := fun_mk (st := s_word_of) l8 c8 k8
  have b8 := F8.binds (ps := ["words", "code"]) fun _ _ _ _ _ _ us hl => match us, hl with | [_, _], _ => rfl
  have F9 := fun_mk (st := s_learn) l9 c9 k9
  have b9 := F9.binds (ps := ["words", "ahead", "word"]) fun _ _ _ _ _ _ us hl => match us, hl with | [_, _, _], _ => rfl
  have F10 := fun_mk (st := s_numbers_behind_first) l10 c10 k10
  have b10 := F10.binds (ps := ["bits", "many"]) fun _ _ _ _ _ _ us hl => match us, hl with | [_, _], _ => rfl
  have F11 := fun_mk (st := m_Book___init__) l11 c11 k11
  have b11 := F11.binds (ps := ["self"]) fun _ _ _ _ _ _ us hl => match us, hl with | [_], _ => rfl
  have F12 := fun_mk (st := m_Book___len__) l12 c12 k12
  have b12 := F12.binds (ps := ["self"]) fun _ _ _ _ _ _ us hl => match us, hl with | [_], _ => rfl
  have F13 := fun_mk (st := m_Book___repr__) l13 c13 k13
  have b13 := F13.binds (ps := ["self"]) fun _ _ _ _ _ _ us hl => match us, hl with | [_], _ => rfl
  have F14 := fun_mk (st := m_Book_shorten) l14 c14 k14
  have b14 := F14.binds (ps := ["self", "row"]) fun _ _ _ _ _ _ us hl => match us, hl with | [_, _], _ => rfl
  have F15 := fun_mk (st := m_Book_lengthen) l15 c15 k15
  have b15 := F15.binds (ps := ["self", "codes"]) fun _ _ _ _ _ _ us hl => match us, hl with | [_, _], _ => rfl
  have F16 := fun_mk (st := m_Book_pack) l16 c16 k16
  have b16 := F16.binds (ps := ["self", "row"]) fun _ _ _ _ _ _ us hl => match us, hl with | [_, _], _ => rfl
  have F17 := fun_mk (st := m_Book_unpack) l17 c17 k17
  have b17 := F17.binds (ps := ["self", "bits"]) fun _ _ _ _ _ _ us hl => match us, hl with | [_, _], _ => rfl
  have F18 := fun_mk (st := m_Book_learnt) l18 c18 k18
  have b18 := F18.binds (ps := ["self"]) fun _ _ _ _ _ _ us hl => match us, hl with | [_], _ => rfl
  have F19 := fun_mk (st := s__law_bag) l19 c19 k19
  have b19 := F19.binds (ps := ["_law_script"]) fun _ _ _ _ _ _ us hl => match us, hl with | [_], _ => rfl
  have F20 := fun_mk (st := s__law_pick) l20 c20 k20
  have b20 := F20.binds (ps := ["_law_bag_here", "_law_top"]) fun _ _ _ _ _ _ us hl => match us, hl with | [_, _], _ => rfl
  have F21 := fun_mk (st := s__law_of) l21 c21 k21
  have b21 := F21.binds (ps := ["_law_bag_here", "_law_some"]) fun _ _ _ _ _ _ us hl => match us, hl with | [_, _], _ => rfl
  have F22 := fun_mk (st := s__law_same) l22 c22 k22
  have b22 := F22.binds (ps := ["_law_found", "_law_due"]) fun _ _ _ _ _ _ us hl => match us, hl with | [_, _], _ => rfl
  have F23 := fun_mk (st := s__law_at) l23 c23 k23
  have b23 := F23.binds (ps := ["_law_act"]) fun _ _ _ _ _ _ us hl => match us, hl with | [_], _ => rfl
  have F24 := fun_mk (st := s__law_most) l24 c24 k24
  have b24 := F24.binds (ps := ["_law_act"]) fun _ _ _ _ _ _ us hl => match us, hl with | [_], _ => rfl
  have F25 := fun_mk (st := s__law_written) l25 c25 k25
  have b25 := F25.binds (ps := ["_law_figure", "_law_wide"]) fun _ _ _ _ _ _ us hl => match us, hl with | [_, _], _ => rfl
  have F26 := fun_mk (st := s__law_row) l26 c26 k26
  have b26 := F26.binds (ps := ["_law_bag_here", "_law_most_here"]) fun _ _ _ _ _ _ us hl => match us, hl with | [_, _], _ => rfl
  have F27 := fun_mk (st := s__law_bytes_bits) l27 c27 k27
  have b27 := F27.binds (ps := ["_law_signs"]) fun _ _ _ _ _ _ us hl => match us, hl with | [_], _ => rfl
  have F28 := fun_mk (st := s__law_book_begun) l28 c28 k28
  have b28 := F28.binds (ps := ["_law_words"]) fun _ _ _ _ _ _ us hl => match us, hl with | [_], _ => rfl
  have F29 := fun_mk (st := s__law_book_learn) l29 c29 k29
  have b29 := F29.binds (ps := ["_law_words", "_law_ahead", "_law_word"]) fun _ _ _ _ _ _ us hl => match us, hl with | [_, _, _], _ => rfl
  have F30 := fun_mk (st := s__law_book_codes) l30 c30 k30
  have b30 := F30.binds (ps := ["_law_words", "_law_signs"]) fun _ _ _ _ _ _ us hl => match us, hl with | [_, _], _ => rfl
  have F31 := fun_mk (st := s__law_rich_row) l31 c31 k31
  have b31 := F31.binds (ps := ["_law_bag_here", "_law_menu_here"]) fun _ _ _ _ _ _ us hl => match us, hl with | [_, _], _ => rfl
  have F32 := fun_mk (st := s__law_menu) l32 c32 k32
  have b32 := F32.binds (ps := ["_law_bag_here"]) fun _ _ _ _ _ _ us hl => match us, hl with | [_], _ => rfl
  have F33 := fun_mk (st := s__law_book_right) l33 c33 k33
  have b33 := F33.binds (ps := ["_law_book", "_law_words"]) fun _ _ _ _ _ _ us hl => match us, hl with | [_, _], _ => rfl
  have F34 := fun_mk (st := s__law_full_then_none) l34 c34 k34
  have b34 := F34.binds (ps := ["_law_bag_here"]) fun _ _ _ _ _ _ us hl => match us, hl with | [_], _ => rfl
  have F35 := fun_mk (st := s_law) l35 c35 k35
  have b35 := F35.binds (ps := ["_law_script"]) fun _ _ _ _ _ _ us hl => match us, hl with | [_], _ => rfl
  have clsBook : Cls K cBook := ⟨r2Book, r3Book, r4Book, r5Book⟩
  have R_Book : BkC K cBook := ⟨clsBook, r_Book_words⟩
  have FD : FunD K "__init__" "LineError.__init__" (defArgs i_LineError) (defBody i_LineError) (defScope i_LineError) [.str "LineError", .str "refused"] [] fLE (PySem.W.fnOf "__init__" "LineError.__init__" (defArgs i_LineError) (defBody i_LineError) (defScope i_LineError) (.ref dLE) kVLE dcLE pmLE anLE cdLE ctLE) := ⟨⟨_, _, _, _, _, _, _, _, _, _, rfl, e7, e8, .inr ⟨by simp, dLE, _, _, _, rfl, e9, rfl, .cons ⟨_, rfl⟩ (.cons ⟨_, rfl⟩ .nil)⟩, .inl rfl⟩, e6⟩
  have bLE : Binds K (PySem.W.fnOf "__init__" "LineError.__init__" (defArgs i_LineError) (defBody i_LineError) (defScope i_LineError) (.ref dLE) kVLE dcLE pmLE anLE cdLE ctLE) ["self", "word", "text"] [] := by
    obtain ⟨ds, r, hb⟩ := FD.binds1 (ps := ["self", "word", "text"]) 3 2 (by simp) rfl (fun T kV doc pm an cdv ct us its hu hi => match us, its, hu, hi with | [_, _, _], [_, _], _, _ => ⟨_, rfl, rfl⟩)
    cases r
    exact hb
  have TL : ClsFn K mg "LineError" "__init__" cLE fLE := ⟨PySem.W.mg_of X G e1, e2, e3, e4, e5, rfl, e6⟩
  have ABadBit : AtC K mg "BadBit" xBadBit := ⟨PySem.W.mg_of X G gBadBit, ⟨gaBadBit, ggBadBit, exBadBit, hdBadBit⟩, noBadBit⟩
  have ABadByte : AtC K mg "BadByte" xBadByte := ⟨PySem.W.mg_of X G gBadByte, ⟨gaBadByte, ggBadByte, exBadByte, hdBadByte⟩, noBadByte⟩
  have ABadFrame : AtC K mg "BadFrame" xBadFrame := ⟨PySem.W.mg_of X G gBadFrame, ⟨gaBadFrame, ggBadFrame, exBadFrame, hdBadFrame⟩, noBadFrame⟩
  have ABadCode : AtC K mg "BadCode" xBadCode := ⟨PySem.W.mg_of X G gBadCode, ⟨gaBadCode, ggBadCode, exBadCode, hdBadCode⟩, noBadCode⟩
  have OBadBit : OexC K xBadBit := ⟨⟨_, _, _, _, _, _, _, _, _, _, _, _, _, _, _, o1BadBit, o2BadBit⟩, o3BadBit, exBadBit, o4BadBit, o5BadBit⟩
  have FIBadBit := fun_mk (st := i_BadBit) o8BadBit o9BadBit p1BadBit
  have bIBadBit := FIBadBit.binds (ps := ["self", "at"]) fun _ _ _ _ _ _ us hl => match us, hl with | [_, _], _ => rfl
  have OBadByte : OexC K xBadByte := ⟨⟨_, _, _, _, _, _, _, _, _, _, _, _, _, _, _, o1BadByte, o2BadByte⟩, o3BadByte, exBadByte, o4BadByte, o5BadByte⟩
  have FIBadByte := fun_mk (st := i_BadByte) o8BadByte o9BadByte p1BadByte
  have bIBadByte := FIBadByte.binds (ps := ["self", "at"]) fun _ _ _ _ _ _ us hl => match us, hl with | [_, _], _ => rfl
  have OBadCode : OexC K xBadCode := ⟨⟨_, _, _, _, _, _, _, _, _, _, _, _, _, _, _, o1BadCode, o2BadCode⟩, o3BadCode, exBadCode, o4BadCode, o5BadCode⟩
  have FIBadCode := fun_mk (st := i_BadCode) o8BadCode o9BadCode p1BadCode
  have bIBadCode := FIBadCode.binds (ps := ["self", "at"]) fun _ _ _ _ _ _ us hl => match us, hl with | [_, _], _ => rfl
  have OBadFrame : OexC K xBadFrame := ⟨⟨_, _, _, _, _, _, _, _, _, _, _, _, _, _, _, o1BadFrame, o2BadFrame⟩, o3BadFrame, exBadFrame, o4BadFrame, o5BadFrame⟩
  have FIBadFrame := fun_mk (st := i_BadFrame) o8BadFrame o9BadFrame p1BadFrame
  have bIBadFrame := FIBadFrame.binds (ps := ["self", "at"]) fun _ _ _ _ _ _ us hl => match us, hl with | [_, _], _ => rfl
  have OBadCount : OexC K xBadCount := ⟨⟨_, _, _, _, _, _, _, _, _, _, _, _, _, _, _, o1BadCount, o2BadCount⟩, o3BadCount, exBadCount, o4BadCount, o5BadCount⟩
  have FIBadCount := fun_mk (st := i_BadCount) o8BadCount o9BadCount p1BadCount
  have bIBadCount := FIBadCount.binds (ps := ["self"]) fun _ _ _ _ _ _ us hl => match us, hl with | [_], _ => rfl
  have OTooLong : OexC K xTooLong := ⟨⟨_, _, _, _, _, _, _, _, _, _, _, _, _, _, _, o1TooLong, o2TooLong⟩, o3TooLong, exTooLong, o4TooLong, o5TooLong⟩
  have FITooLong := fun_mk (st := i_TooLong) o8TooLong o9TooLong p1TooLong
  have bITooLong := FITooLong.binds (ps := ["self", "most"]) fun _ _ _ _ _ _ us hl => match us, hl with | [_, _], _ => rfl
  refine ⟨PySem.W.fnOf "law" "law" (defArgs s_law) (defBody s_law) (defScope s_law) .none kV35 dc35 pm35 an35 (.ref cL_) ct35, [(cL_, tP)], spLaw K tP, ?_, ?_, ?_, fun s v => .of_eq rfl, ?_, fun base _ _ hTB => ?_⟩
  · intro p hp
    rw [List.mem_singleton.mp hp]
    exact own cL_ tP _ _ _ _ _ _ l35 rfl rfl t1 t2
  · intro p hp
    rw [List.mem_singleton.mp hp]
    exact t4
  · intro p hp
    rw [List.mem_singleton.mp hp]
    exact PySem.W.codeHd_of_K X t3
  · intro H a ns _ _ hH hS
    exact ⟨a, ns, rfl, hS, hH _ (List.mem_singleton.mpr rfl), fun _ => rfl⟩
  have OKL := ok_i_LineError (P := l.prog) (w := w) (base := base) (mg := mg) (k := 0) FD (PySem.W.mg_none_of X G z_ValueError) e10
  have X_BadBit : XcOk l.prog w K mg base 2 "BadBit" xBadBit (spIni K xBadBit "BadBit" "at") := ⟨fIBadBit, _, _, OBadBit, o6BadBit, o7BadBit, ok_i_BadBit FIBadBit TL OKL bLE OBadBit p2BadBit noBadBit, bIBadBit, PySem.W.mg_of X G gBadBit⟩
  have X_BadByte : XcOk l.prog w K mg base 2 "BadByte" xBadByte (spIni K xBadByte "BadByte" "at") := ⟨fIBadByte, _, _, OBadByte, o6BadByte, o7BadByte, ok_i_BadByte FIBadByte TL OKL bLE OBadByte p2BadByte noBadByte, bIBadByte, PySem.W.mg_of X G gBadByte⟩
  have X_BadCode : XcOk l.prog w K mg base 2 "BadCode" xBadCode (spIni K xBadCode "BadCode" "at") := ⟨fIBadCode, _, _, OBadCode, o6BadCode, o7BadCode, ok_i_BadCode FIBadCode TL OKL bLE OBadCode p2BadCode noBadCode, bIBadCode, PySem.W.mg_of X G gBadCode⟩
  have X_BadFrame : XcOk l.prog w K mg base 2 "BadFrame" xBadFrame (spIni K xBadFrame "BadFrame" "at") := ⟨fIBadFrame, _, _, OBadFrame, o6BadFrame, o7BadFrame, ok_i_BadFrame FIBadFrame TL OKL bLE OBadFrame p2BadFrame noBadFrame, bIBadFrame, PySem.W.mg_of X G gBadFrame⟩
  have X_BadCount : XcOk l.prog w K mg base 2 "BadCount" xBadCount (spIni0 K xBadCount "BadCount") := ⟨fIBadCount, _, _, OBadCount, o6BadCount, o7BadCount, ok_i_BadCount FIBadCount TL OKL bLE OBadCount p2BadCount, bIBadCount, PySem.W.mg_of X G gBadCount⟩
  have X_TooLong : XcOk l.prog w K mg base 2 "TooLong" xTooLong (spIni K xTooLong "TooLong" "most") := ⟨fITooLong, _, _, OTooLong, o6TooLong, o7TooLong, ok_i_TooLong FITooLong TL OKL bLE OTooLong p2TooLong noTooLong, bITooLong, PySem.W.mg_of X G gTooLong⟩
  have TB := hTB _ (List.mem_singleton.mpr rfl)
  have C_check_bits : CalX l.prog w K mg base 4 "check_bits" ["bits"] (spCheckX K xBadBit) := ⟨f0, _, ok_check_bits F0 (PySem.W.mg_none_of X G z_enumerate) (X_BadBit.mono (by decide)), PySem.W.mg_of X G a0, k0, b0⟩
  have C_check_bytes : CalX l.prog w K mg base 4 "check_bytes" ["row"] (spCheckY K xBadByte) := ⟨f1, _, ok_check_bytes F1 (PySem.W.mg_none_of X G z_enumerate) (PySem.W.mg_of X G q_GREATEST_BYTE) (X_BadByte.mono (by decide)), PySem.W.mg_of X G a1, k1, b1⟩
  have C_number_bits : CalX l.prog w K mg base 4 "number_bits" ["number", "many"] (spNbX xBadCount) := ⟨f2, _, ok_number_bits F2 (PySem.W.mg_none_of X G z_range) (PySem.W.mg_of X G q_MOST_BITS) (X_BadCount.mono (by decide)), PySem.W.mg_of X G a2, k2, b2⟩
  have C_bits_number : CalX l.prog w K mg base 5 "bits_number" ["bits"] (spBnX K xBadBit xBadCount) := ⟨f3, _, ok_bits_number F3 (PySem.W.mg_none_of X G z_len) (PySem.W.mg_of X G q_MOST_BITS) (X_BadCount.mono (by decide)) (C_check_bits.mono (by decide)), PySem.W.mg_of X G a3, k3, b3⟩
  have C_bits_of : CalX l.prog w K mg base 5 "bits_of" ["row"] (spBits8 K xBadByte) := ⟨f4, _, ok_bits_of F4 (PySem.W.mg_of X G q_BYTE_BITS) (C_check_bytes.mono (by decide)) (C_number_bits.mono (by decide)), PySem.W.mg_of X G a4, k4, b4⟩
  have C_has_room : Cal l.prog w K mg base 1 "has_room" ["words"] (spRoom K) := ⟨f5, _, ok_has_room F5 (PySem.W.mg_none_of X G z_len) (PySem.W.mg_of X G q_BYTE_WORDS) (PySem.W.mg_of X G q_MOST_WORDS), PySem.W.mg_of X G a5, k5, b5⟩
  have C_words_at_beginning : Cal l.prog w K mg base 2 "words_at_beginning" ["words"] (spWAB K) := ⟨f6, _, ok_words_at_beginning F6 (PySem.W.mg_none_of X G z_list) (C_has_room.mono (by decide)), PySem.W.mg_of X G a6, k6, b6⟩
  have C_longest_code : Cal l.prog w K mg base 1 "longest_code" ["words", "row", "at"] (spLC K) := ⟨f7, _, ok_longest_code F7 (PySem.W.mg_none_of X G z_len) (PySem.W.mg_none_of X G z_enumerate) (PySem.W.mg_none_of X G z_tuple) (PySem.W.mg_of X G q_BYTE_WORDS), PySem.W.mg_of X G a7, k7, b7⟩
  have C_word_of : Cal l.prog w K mg base 1 "word_of" ["words", "code"] (spWO K) := ⟨f8, _, ok_word_of F8 (PySem.W.mg_of X G q_BYTE_WORDS), PySem.W.mg_of X G a8, k8, b8⟩
  have C_learn : Cal l.prog w K mg base 2 "learn" ["words", "ahead", "word"] (spLearn K) := ⟨f9, _, ok_learn F9 (PySem.W.mg_none_of X G z_len) (C_has_room.mono (by decide)), PySem.W.mg_of X G a9, k9, b9⟩
  have C_numbers_behind_first : CalX l.prog w K mg base 6 "numbers_behind_first" ["bits", "many"] (spNBF K xBadFrame) := ⟨f10, _, ok_numbers_behind_first F10 (PySem.W.mg_none_of X G z_len) (PySem.W.mg_none_of X G z_range) (X_BadFrame.mono (by decide)) (C_bits_number.mono (by decide)), PySem.W.mg_of X G a10, k10, b10⟩
  have C_new_Book : CalN l.prog w K mg base 1 "Book" cBook ["self"] (spBkI cBook) := ⟨f11, _, ⟨r6Book, a11, i11, r7Book⟩, ok_Book___init__ F11 R_Book, PySem.W.mg_of X G r1Book, b11⟩
  have R12_ := (FnOk.raw (ok_Book___len__ (P := l.prog) (w := w) (base := base) (mg := mg) (k := 0) F12 R_Book (PySem.W.mg_none_of X G z_len)) b12 .nil).imp (sp' := spBkLen cBook) (fun vs H Q E h => by rw [List.append_nil]; exact h)
  have OW_Book___len__ : OwnF l.prog w K mg base 1 cBook "__len__" (spBkLen cBook) := ⟨f12, a12, i12, R12_⟩
  have R13_ := (FnOk.raw (ok_Book___repr__ (P := l.prog) (w := w) (base := base) (mg := mg) (k := 0) F13 R_Book (PySem.W.mg_none_of X G z_len)) b13 .nil).imp (sp' := spBkRepr cBook) (fun vs H Q E h => by rw [List.append_nil]; exact h)
  have OW_Book___repr__ : OwnF l.prog w K mg base 1 cBook "__repr__" (spBkRepr cBook) := ⟨f13, a13, i13, R13_⟩
  have C_Book_shorten : CalM (L2.CX l.prog w) l.prog w K mg base 5 cBook "shorten" ["self", "row"] (spShort K cBook xBadByte xTooLong) := ⟨f14, _, clsBook, ⟨a14, i14, k14⟩, ok_Book_shorten F14 R_Book (PySem.W.mg_none_of X G z_len) (PySem.W.mg_of X G q_LONGEST_ROW) (X_TooLong.mono (by decide)) (C_check_bytes.mono (by decide)) (C_words_at_beginning.mono (by decide)) (C_longest_code.mono (by decide)) (C_word_of.mono (by decide)) (C_learn.mono (by decide)), b14⟩
  have C_Book_lengthen : CalM (L2.CX l.prog w) l.prog w K mg base 4 cBook "lengthen" ["self", "codes"] (spLong K cBook xBadCode) := ⟨f15, _, clsBook, ⟨a15, i15, k15⟩, ok_Book_lengthen F15 R_Book (PySem.W.mg_none_of X G z_len) (PySem.W.mg_none_of X G z_enumerate) (PySem.W.mg_of X G q_BYTE_WORDS) (PySem.W.mg_of X G q_LONGEST_ROW) (X_BadCode.mono (by decide)) (C_words_at_beginning.mono (by decide)) (C_word_of.mono (by decide)) (C_learn.mono (by decide)), b15⟩
  have C_Book_pack : CalM (L2.CX l.prog w) l.prog w K mg base 6 cBook "pack" ["self", "row"] (spPack K cBook xBadByte xTooLong) := ⟨f16, _, clsBook, ⟨a16, i16, k16⟩, ok_Book_pack F16 R_Book (PySem.W.mg_none_of X G z_len) (PySem.W.mg_of X G q_CODE_BITS) (PySem.W.mg_of X G q_BYTE_BITS) (C_bits_of.mono (by decide)) (C_number_bits.mono (by decide)) (C_Book_shorten.mono (by decide)), b16⟩
  have C_Book_unpack : CalM (L2.CX l.prog w) l.prog w K mg base 7 cBook "unpack" ["self", "bits"] (spUnpack K cBook xBadBit xBadFrame xTooLong xBadCode) := ⟨f17, _, clsBook, ⟨a17, i17, k17⟩, ok_Book_unpack F17 R_Book (PySem.W.mg_none_of X G z_len) (PySem.W.mg_of X G q_CODE_BITS) (PySem.W.mg_of X G q_BYTE_BITS) (X_BadFrame.mono (by decide)) (C_check_bits.mono (by decide)) (C_numbers_behind_first.mono (by decide)) (C_Book_lengthen.mono (by decide)) (C_Book_shorten.mono (by decide)), b17⟩
  have C_Book_learnt : CalM CX0 l.prog w K mg base 1 cBook "learnt" ["self"] (spLearnt cBook) := ⟨f18, _, clsBook, ⟨a18, i18, k18⟩, ok_Book_learnt F18 R_Book (PySem.W.mg_none_of X G z_list), b18⟩
  have C__law_bag : Cal l.prog w K mg base 1 "_law_bag" ["_law_script"] (spBag K) := ⟨f19, _, ok__law_bag F19 (PySem.W.mg_none_of X G z_len) (PySem.W.mg_none_of X G z_list), PySem.W.mg_of X G a19, k19, b19⟩
  have C__law_pick : Cal l.prog w K mg base 1 "_law_pick" ["_law_bag_here", "_law_top"] (spPick) := ⟨f20, _, ok__law_pick F20 (PySem.W.mg_none_of X G z_len), PySem.W.mg_of X G a20, k20, b20⟩
  have C__law_of : Cal l.prog w K mg base 2 "_law_of" ["_law_bag_here", "_law_some"] (spOf K) := ⟨f21, _, ok__law_of F21 (PySem.W.mg_none_of X G z_len) (C__law_pick.mono (by decide)), PySem.W.mg_of X G a21, k21, b21⟩
  have C__law_same : Cal l.prog w K mg base 4 "_law_same" ["_law_found", "_law_due"] (spSame K 4) := ⟨f22, _, ok__law_same F22 (PySem.W.mg_of X G a22) b22 (PySem.W.mg_none_of X G z_len) (PySem.W.mg_none_of X G z_all) (PySem.W.mg_none_of X G z_bool) (PySem.W.mg_none_of X G z_int) (PySem.W.mg_none_of X G z_isinstance) (PySem.W.mg_none_of X G z_list) (PySem.W.mg_none_of X G z_range) (PySem.W.mg_none_of X G z_str) (PySem.W.mg_none_of X G z_tuple) 4, PySem.W.mg_of X G a22, k22, b22⟩
  have C__law_written : Cal l.prog w K mg base 1 "_law_written" ["_law_figure", "_law_wide"] (spWritten) := ⟨f25, _, ok__law_written F25 (PySem.W.mg_none_of X G z_range), PySem.W.mg_of X G a25, k25, b25⟩
  have C__law_row : Cal l.prog w K mg base 2 "_law_row" ["_law_bag_here", "_law_most_here"] (spRow) := ⟨f26, _, ok__law_row F26 (PySem.W.mg_none_of X G z_range) (C__law_pick.mono (by decide)), PySem.W.mg_of X G a26, k26, b26⟩
  have C__law_bytes_bits : Cal l.prog w K mg base 2 "_law_bytes_bits" ["_law_signs"] (spLbb K) := ⟨f27, _, ok__law_bytes_bits F27 (C__law_written.mono (by decide)), PySem.W.mg_of X G a27, k27, b27⟩
  have C__law_book_begun : Cal l.prog w K mg base 1 "_law_book_begun" ["_law_words"] (spWAB K) := ⟨f28, _, ok__law_book_begun F28 (PySem.W.mg_none_of X G z_len) (PySem.W.mg_none_of X G z_list), PySem.W.mg_of X G a28, k28, b28⟩
  have C__law_book_learn : Cal l.prog w K mg base 1 "_law_book_learn" ["_law_words", "_law_ahead", "_law_word"] (spLLearn K) := ⟨f29, _, ok__law_book_learn F29 (PySem.W.mg_none_of X G z_len), PySem.W.mg_of X G a29, k29, b29⟩
  have C__law_book_codes : Cal l.prog w K mg base 2 "_law_book_codes" ["_law_words", "_law_signs"] (spLCodes K) := ⟨f30, _, ok__law_book_codes F30 (PySem.W.mg_none_of X G z_len) (PySem.W.mg_none_of X G z_max) (PySem.W.mg_none_of X G z_range) (PySem.W.mg_none_of X G z_tuple) (C__law_book_learn.mono (by decide)), PySem.W.mg_of X G a30, k30, b30⟩
  have C__law_rich_row : Cal l.prog w K mg base 3 "_law_rich_row" ["_law_bag_here", "_law_menu_here"] (spRich) := ⟨f31, _, ok__law_rich_row F31 (PySem.W.mg_none_of X G z_range) (C__law_pick.mono (by decide)) (C__law_of.mono (by decide)) (C__law_row.mono (by decide)), PySem.W.mg_of X G a31, k31, b31⟩
  have C__law_menu : Cal l.prog w K mg base 2 "_law_menu" ["_law_bag_here"] (spMenu) := ⟨f32, _, ok__law_menu F32 (PySem.W.mg_none_of X G z_range) (C__law_pick.mono (by decide)), PySem.W.mg_of X G a32, k32, b32⟩
  have C__law_book_right : Cal l.prog w K mg base 5 "_law_book_right" ["_law_book", "_law_words"] (spLRight K cBook) := ⟨f33, _, ok__law_book_right F33 (PySem.W.mg_none_of X G z_len) (PySem.W.mg_none_of X G z_bool) (PySem.W.mg_none_of X G z_repr) (PySem.W.mg_none_of X G z_str) ob_Book OW_Book___len__ OW_Book___repr__ (C_Book_learnt.mono (by decide)) (C__law_same.mono (by decide)), PySem.W.mg_of X G a33, k33, b33⟩
  have C__law_full_then_none : Cal l.prog w K mg base 8 "_law_full_then_none" ["_law_bag_here"] (spFull) := ⟨f34, _, ok__law_full_then_none F34 (PySem.W.mg_none_of X G z_len) (PySem.W.mg_none_of X G z_list) (PySem.W.mg_none_of X G z_range) (C_new_Book.mono (by decide)) (C_Book_shorten.mono (by decide)) (C_Book_lengthen.mono (by decide)) (C_Book_pack.mono (by decide)) (C_Book_unpack.mono (by decide)) (C_Book_learnt.mono (by decide)) OW_Book___len__ (C__law_pick.mono (by decide)) (C__law_same.mono (by decide)) (C__law_bytes_bits.mono (by decide)), PySem.W.mg_of X G a34, k34, b34⟩
  exact ok_law l35 c35 l23 c23 k23 (PySem.W.mg_of X G a23) b23 ABadBit ABadByte ABadFrame ABadCode (PySem.W.mg_of X G e1) mBadBitBadBit mBadByteBadBit mBadByteBadByte mBadFrameBadBit mBadFrameBadByte mBadFrameBadFrame mBadCodeBadBit mBadCodeBadByte mBadCodeBadFrame mBadCodeBadCode TB l24 c24 k24 (PySem.W.mg_of X G a24) b24 (PySem.W.mg_of X G gTooLong) ⟨gaTooLong, ggTooLong, exTooLong, hdTooLong⟩ noTooLong (PySem.W.mg_of X G gFull) mBTT (PySem.W.mg_of X G q_MOST_WORDS) (PySem.W.mg_of X G q_LONGEST_ROW) (PySem.W.mg_none_of X G z_len) (PySem.W.mg_none_of X G z_list) (PySem.W.mg_none_of X G z_range) (C_new_Book.mono (by decide)) (C_Book_shorten.mono (by decide)) (C_Book_shorten.mono (by decide)) (C__law_bag.mono (by decide)) (C__law_pick.mono (by decide)) (C__law_same.mono (by decide)) (C__law_of.mono (by decide)) (C__law_menu.mono (by decide)) (C__law_rich_row.mono (by decide)) (C__law_book_begun.mono (by decide)) (C__law_book_codes.mono (by decide)) (C__law_book_right.mono (by decide)) (C__law_full_then_none.mono (by decide))
end WB
open PySem PySem.W PyProof.Rows
set_option maxRecDepth 100000 in
set_option maxHeartbeats 0 in
theorem PySem.Challenge.cw_warbleline_k16_rows_shortened_holds : PySem.Challenge.rw_warbleline_k16_rows_shortened.Holds := by
  w_on; o_law; k_head; (case hw => w_witness2)
  k_fill
  refine LamX.walk_ofOwn (l := PySem.Challenge.rw_warbleline_k16_rows_shortened) (n := 63) (k := 9) (x := "_law_script") (CX := fun _ => L2.CX0) rfl (by decide) rfl ⟨rfl, by decide, by decide⟩ (by decide +kernel) (fun w h Y => PySem.W.km_in_of Y) ?F (fun _ _ _ _ _ h => h)
  case F =>
    intro w mg fa h Y KX G hmg own
    refine' WB.all_mk KX G hmg own ?r1Book ?r2Book ?r3Book ?r4Book ?r5Book ?r6Book ?r7Book ?r_Book_words ?ob_Book ?a0 ?l0 ?c0 ?k0 ?a1 ?l1 ?c1 ?k1 ?a2 ?l2 ?c2 ?k2 ?a3 ?l3 ?c3 ?k3 ?a4 ?l4 ?c4 ?k4 ?a5 ?l5 ?c5 ?k5 ?a6 ?l6 ?c6 ?k6 ?a7 ?l7 ?c7 ?k7 ?a8 ?l8 ?c8 ?k8 ?a9 ?l9 ?c9 ?k9 ?a10 ?l10 ?c10 ?k10 ?a11 ?i11 ?l11 ?c11 ?k11 ?a12 ?i12 ?l12 ?c12 ?k12 ?a13 ?i13 ?l13 ?c13 ?k13 ?a14 ?i14 ?l14 ?c14 ?k14 ?a15 ?i15 ?l15 ?c15 ?k15 ?a16 ?i16 ?l16 ?c16 ?k16 ?a17 ?i17 ?l17 ?c17 ?k17 ?a18 ?i18 ?l18 ?c18 ?k18 ?a19 ?l19 ?c19 ?k19 ?a20 ?l20 ?c20 ?k20 ?a21 ?l21 ?c21 ?k21 ?a22 ?l22 ?c22 ?k22 ?a23 ?l23 ?c23 ?k23 ?a24 ?l24 ?c24 ?k24 ?a25 ?l25 ?c25 ?k25 ?a26 ?l26 ?c26 ?k26 ?a27 ?l27 ?c27 ?k27 ?a28 ?l28 ?c28 ?k28 ?a29 ?l29 ?c29 ?k29 ?a30 ?l30 ?c30 ?k30 ?a31 ?l31 ?c31 ?k31 ?a32 ?l32 ?c32 ?k32 ?a33 ?l33 ?c33 ?k33 ?a34 ?l34 ?c34 ?k34 ?a35 ?l35 ?c35 ?k35 ?t1 ?t2 ?t3 ?t4 ?e1 ?e2 ?e3 ?e4 ?e5 ?e6 ?e7 ?e8 ?e9 ?e10 ?z_ValueError ?gBadBit ?gaBadBit ?ggBadBit ?exBadBit ?hdBadBit ?noBadBit ?gBadByte ?gaBadByte ?ggBadByte ?exBadByte ?hdBadByte ?noBadByte ?gBadFrame ?gaBadFrame ?ggBadFrame ?exBadFrame ?hdBadFrame ?noBadFrame ?gBadCode ?gaBadCode ?ggBadCode ?exBadCode ?hdBadCode ?noBadCode ?mBadBitBadBit ?mBadByteBadBit ?mBadByteBadByte ?mBadFrameBadBit ?mBadFrameBadByte ?mBadFrameBadFrame ?mBadCodeBadBit ?mBadCodeBadByte ?mBadCodeBadFrame ?mBadCodeBadCode ?gBadCount ?gaBadCount ?ggBadCount ?exBadCount ?hdBadCount ?gTooLong ?gaTooLong ?ggTooLong ?exTooLong ?hdTooLong ?noTooLong ?gFull ?mBTT ?o1BadBit ?o2BadBit ?o3BadBit ?o4BadBit ?o5BadBit ?o6BadBit ?o7BadBit ?o8BadBit ?o9BadBit ?p1BadBit ?p2BadBit ?o1BadByte ?o2BadByte ?o3BadByte ?o4BadByte ?o5BadByte ?o6BadByte ?o7BadByte ?o8BadByte ?o9BadByte ?p1BadByte ?p2BadByte ?o1BadCode ?o2BadCode ?o3BadCode ?o4BadCode ?o5BadCode ?o6BadCode ?o7BadCode ?o8BadCode ?o9BadCode ?p1BadCode ?p2BadCode ?o1BadFrame ?o2BadFrame ?o3BadFrame ?o4BadFrame ?o5BadFrame ?o6BadFrame ?o7BadFrame ?o8BadFrame ?o9BadFrame ?p1BadFrame ?p2BadFrame ?o1BadCount ?o2BadCount ?o3BadCount ?o4BadCount ?o5BadCount ?o6BadCount ?o7BadCount ?o8BadCount ?o9BadCount ?p1BadCount ?p2BadCount ?o1TooLong ?o2TooLong ?o3TooLong ?o4TooLong ?o5TooLong ?o6TooLong ?o7TooLong ?o8TooLong ?o9TooLong ?p1TooLong ?p2TooLong ?z_enumerate ?z_range ?z_len ?z_list ?z_tuple ?z_all ?z_bool ?z_int ?z_isinstance ?z_str ?z_max ?z_repr ?q_BYTE_BITS ?q_GREATEST_BYTE ?q_MOST_BITS ?q_MOST_WORDS ?q_LONGEST_ROW ?q_BYTE_WORDS ?q_CODE_BITS
    (case r1Book => k_is)
    (case r2Book => k_is)
    (case r3Book => k_is)
    (case r4Book => k_is)
    (case r5Book => k_is)
    (case r6Book => k_is)
    (case r7Book => k_is)
    (case r_Book_words => k_is)
    (case ob_Book => k_is)
    (case a0 => k_is)
    (case l0 => k_is)
    (case c0 => k_is)
    (case k0 => k_is)
    (case a1 => k_is)
    (case l1 => k_is)
    (case c1 => k_is)
    (case k1 => k_is)
    (case a2 => k_is)
    (case l2 => k_is)
    (case c2 => k_is)
    (case k2 => k_is)
    (case a3 => k_is)
    (case l3 => k_is)
    (case c3 => k_is)
    (case k3 => k_is)
    (case a4 => k_is)
    (case l4 => k_is)
    (case c4 => k_is)
    (case k4 => k_is)
    (case a5 => k_is)
    (case l5 => k_is)
    (case c5 => k_is)
    (case k5 => k_is)
    (case a6 => k_is)
    (case l6 => k_is)
    (case c6 => k_is)
    (case k6 => k_is)
    (case a7 => k_is)
    (case l7 => k_is)
    (case c7 => k_is)
    (case k7 => k_is)
    (case a8 => k_is)
    (case l8 => k_is)
    (case c8 => k_is)
    (case k8 => k_is)
    (case a9 => k_is)
    (case l9 => k_is)
    (case c9 => k_is)
    (case k9 => k_is)
    (case a10 => k_is)
    (case l10 => k_is)
    (case c10 => k_is)
    (case k10 => k_is)
    (case a11 => k_is)
    (case i11 => k_is)
    (case l11 => k_is)
    (case c11 => k_is)
    (case k11 => k_is)
    (case a12 => k_is)
    (case i12 => k_is)
    (case l12 => k_is)
    (case c12 => k_is)
    (case k12 => k_is)
    (case a13 => k_is)
    (case i13 => k_is)
    (case l13 => k_is)
    (case c13 => k_is)
    (case k13 => k_is)
    (case a14 => k_is)
    (case i14 => k_is)
    (case l14 => k_is)
    (case c14 => k_is)
    (case k14 => k_is)
    (case a15 => k_is)
    (case i15 => k_is)
    (case l15 => k_is)
    (case c15 => k_is)
    (case k15 => k_is)
    (case a16 => k_is)
    (case i16 => k_is)
    (case l16 => k_is)
    (case c16 => k_is)
    (case k16 => k_is)
    (case a17 => k_is)
    (case i17 => k_is)
    (case l17 => k_is)
    (case c17 => k_is)
    (case k17 => k_is)
    (case a18 => k_is)
    (case i18 => k_is)
    (case l18 => k_is)
    (case c18 => k_is)
    (case k18 => k_is)
    (case a19 => k_is)
    (case l19 => k_is)
    (case c19 => k_is)
    (case k19 => k_is)
    (case a20 => k_is)
    (case l20 => k_is)
    (case c20 => k_is)
    (case k20 => k_is)
    (case a21 => k_is)
    (case l21 => k_is)
    (case c21 => k_is)
    (case k21 => k_is)
    (case a22 => k_is)
    (case l22 => k_is)
    (case c22 => k_is)
    (case k22 => k_is)
    (case a23 => k_is)
    (case l23 => k_is)
    (case c23 => k_is)
    (case k23 => k_is)
    (case a24 => k_is)
    (case l24 => k_is)
    (case c24 => k_is)
    (case k24 => k_is)
    (case a25 => k_is)
    (case l25 => k_is)
    (case c25 => k_is)
    (case k25 => k_is)
    (case a26 => k_is)
    (case l26 => k_is)
    (case c26 => k_is)
    (case k26 => k_is)
    (case a27 => k_is)
    (case l27 => k_is)
    (case c27 => k_is)
    (case k27 => k_is)
    (case a28 => k_is)
    (case l28 => k_is)
    (case c28 => k_is)
    (case k28 => k_is)
    (case a29 => k_is)
    (case l29 => k_is)
    (case c29 => k_is)
    (case k29 => k_is)
    (case a30 => k_is)
    (case l30 => k_is)
    (case c30 => k_is)
    (case k30 => k_is)
    (case a31 => k_is)
    (case l31 => k_is)
    (case c31 => k_is)
    (case k31 => k_is)
    (case a32 => k_is)
    (case l32 => k_is)
    (case c32 => k_is)
    (case k32 => k_is)
    (case a33 => k_is)
    (case l33 => k_is)
    (case c33 => k_is)
    (case k33 => k_is)
    (case a34 => k_is)
    (case l34 => k_is)
    (case c34 => k_is)
    (case k34 => k_is)
    (case a35 => k_is)
    (case l35 => k_is)
    (case c35 => k_is)
    (case k35 => k_is)
    (case t1 => k_is)
    (case t2 => first | rfl | k_is)
    (case t3 => kernel_rfl)
    (case t4 => kernel_rfl)
    (case e1 => k_is)
    (case e2 => k_is)
    (case e3 => k_is)
    (case e4 => k_is)
    (case e5 => k_is)
    (case e6 => k_is)
    (case e7 => k_is)
    (case e8 => k_is)
    (case e9 => k_is)
    (case e10 => k_is)
    (case z_ValueError => k_is)
    (case gBadBit => k_is)
    (case gaBadBit => k_is)
    (case ggBadBit => k_is)
    (case exBadBit => k_is)
    (case hdBadBit => k_is)
    (case noBadBit => k_is)
    (case gBadByte => k_is)
    (case gaBadByte => k_is)
    (case ggBadByte => k_is)
    (case exBadByte => k_is)
    (case hdBadByte => k_is)
    (case noBadByte => k_is)
    (case gBadFrame => k_is)
    (case gaBadFrame => k_is)
    (case ggBadFrame => k_is)
    (case exBadFrame => k_is)
    (case hdBadFrame => k_is)
    (case noBadFrame => k_is)
    (case gBadCode => k_is)
    (case gaBadCode => k_is)
    (case ggBadCode => k_is)
    (case exBadCode => k_is)
    (case hdBadCode => k_is)
    (case noBadCode => k_is)
    (case mBadBitBadBit => kernel_rfl)
    (case mBadByteBadBit => kernel_rfl)
    (case mBadByteBadByte => kernel_rfl)
    (case mBadFrameBadBit => kernel_rfl)
    (case mBadFrameBadByte => kernel_rfl)
    (case mBadFrameBadFrame => kernel_rfl)
    (case mBadCodeBadBit => kernel_rfl)
    (case mBadCodeBadByte => kernel_rfl)
    (case mBadCodeBadFrame => kernel_rfl)
    (case mBadCodeBadCode => kernel_rfl)
    (case gBadCount => k_is)
    (case gaBadCount => k_is)
    (case ggBadCount => k_is)
    (case exBadCount => k_is)
    (case hdBadCount => k_is)
    (case gTooLong => k_is)
    (case gaTooLong => k_is)
    (case ggTooLong => k_is)
    (case exTooLong => k_is)
    (case hdTooLong => k_is)
    (case noTooLong => k_is)
    (case gFull => k_is)
    (case mBTT => kernel_rfl)
    (case o1BadBit => k_is)
    (case o2BadBit => decide +kernel)
    (case o3BadBit => k_is)
    (case o4BadBit => k_is)
    (case o5BadBit => k_is)
    (case o6BadBit => k_is)
    (case o7BadBit => k_is)
    (case o8BadBit => k_is)
    (case o9BadBit => k_is)
    (case p1BadBit => k_is)
    (case p2BadBit => k_is)
    (case o1BadByte => k_is)
    (case o2BadByte => decide +kernel)
    (case o3BadByte => k_is)
    (case o4BadByte => k_is)
    (case o5BadByte => k_is)
    (case o6BadByte => k_is)
    (case o7BadByte => k_is)
    (case o8BadByte => k_is)
    (case o9BadByte => k_is)
    (case p1BadByte => k_is)
    (case p2BadByte => k_is)
    (case o1BadCode => k_is)
    (case o2BadCode => decide +kernel)
    (case o3BadCode => k_is)
    (case o4BadCode => k_is)
    (case o5BadCode => k_is)
    (case o6BadCode => k_is)
    (case o7BadCode => k_is)
    (case o8BadCode => k_is)
    (case o9BadCode => k_is)
    (case p1BadCode => k_is)
    (case p2BadCode => k_is)
    (case o1BadFrame => k_is)
    (case o2BadFrame => decide +kernel)
    (case o3BadFrame => k_is)
    (case o4BadFrame => k_is)
    (case o5BadFrame => k_is)
    (case o6BadFrame => k_is)
    (case o7BadFrame => k_is)
    (case o8BadFrame => k_is)
    (case o9BadFrame => k_is)
    (case p1BadFrame => k_is)
    (case p2BadFrame => k_is)
    (case o1BadCount => k_is)
    (case o2BadCount => decide +kernel)
    (case o3BadCount => k_is)
    (case o4BadCount => k_is)
    (case o5BadCount => k_is)
    (case o6BadCount => k_is)
    (case o7BadCount => k_is)
    (case o8BadCount => k_is)
    (case o9BadCount => k_is)
    (case p1BadCount => k_is)
    (case p2BadCount => k_is)
    (case o1TooLong => k_is)
    (case o2TooLong => decide +kernel)
    (case o3TooLong => k_is)
    (case o4TooLong => k_is)
    (case o5TooLong => k_is)
    (case o6TooLong => k_is)
    (case o7TooLong => k_is)
    (case o8TooLong => k_is)
    (case o9TooLong => k_is)
    (case p1TooLong => k_is)
    (case p2TooLong => k_is)
    (case z_enumerate => k_is)
    (case z_range => k_is)
    (case z_len => k_is)
    (case z_list => k_is)
    (case z_tuple => k_is)
    (case z_all => k_is)
    (case z_bool => k_is)
    (case z_int => k_is)
    (case z_isinstance => k_is)
    (case z_str => k_is)
    (case z_max => k_is)
    (case z_repr => k_is)
    (case q_BYTE_BITS => k_is)
    (case q_GREATEST_BYTE => k_is)
    (case q_MOST_BITS => k_is)
    (case q_MOST_WORDS => k_is)
    (case q_LONGEST_ROW => k_is)
    (case q_BYTE_WORDS => k_is)
    (case q_CODE_BITS => k_is)
