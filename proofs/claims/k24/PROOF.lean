import PyProof.Rows.All
import Wide.All
import OpenK.AllK
import Wide.FinOn
import HandS.Base
import HandS.Call
import HandS.List
import HandS.Comp
import HandS.Ends
import HandS.Iter
import HandS.Text
import HandS.Words
import HandS.WordsList
import HandS.IsInst
import HandS.More
import HandS.Wide
import HandS.Style
import HandS.EndBits
import HandS.Exc
import HandS.ExcOwn
import HandS.ExcInit
import HandS.ExcField
import HandS.TryOnly
import HandS.WordsExc
import HandS.FStr
import HandS.Defaults
import HandS.Lambda
import HandS.EndTab
import HandS.Dict
import HandS.Conv
import HandS.Zip
import HandS.MakeKwOnly
import HandS.Deep
import KE.DatumOrd
import HandS.Rev
import PyProof.Rows.RowBridgeK
import HandS.SetFor
import HandS.Walk
import HandS.TupAny
import KE.GoesZip
import KE.GoesMore
import KE.GoesEnum
import HandS.SlotsOwn
import HandS.DictSub
import PyProof.Conv_bool
import KE.KDictZip
import KE.KDictItemsList
import PyProof.Rows.SortShellAny
import HandS.EndOwn
import HandS.EndOwn
import PySem.Challenge.RW_warbleline_k24_hearing_refused
set_option Elab.async false
set_option linter.all false
set_option maxRecDepth 100000
set_option maxHeartbeats 2000000
namespace WB
open PySem PySem.Spec PyProof.Rows L2
/-! ### a def that may be called by its name, letting nothing out -/
def Cal (P : Program) (w : World) (K : PySem.W.Frag) (mg : Str → Option Value) (base : Heap) (k : Nat) (nm : Str) (ps : List Str) (sp : Sp) : Prop :=
  ∃ (f : Addr) (fd : FuncData), FnOk P w K mg base CX0 k f fd ps sp ∧ mg nm = some (.ref f) ∧ PySem.W.keepIn K (.ref f) = true ∧ Binds K fd ps []
theorem Cal.mono {P : Program} {w : World} {K : PySem.W.Frag} {mg : Str → Option Value} {base : Heap} {j k : Nat} {nm : Str} {ps : List Str} {sp : Sp} (c : Cal P w K mg base j nm ps sp) (h : j ≤ k) : Cal P w K mg base k nm ps sp := by
  obtain ⟨f, fd, a, b, d, e⟩ := c
  exact ⟨f, fd, a.mono h, b, d, e⟩
section
variable {X : Cx} {k : Nat} {nm : Str} {ps : List Str} {sp : Sp} {e : Expr} {es : List Expr} {t : TA} {p pos : Pos}
theorem pe_callC (c : Cal X.prog X.w X.K X.mg X.base k nm ps sp) (hr : Room k X.A) (hg : Gl X nm) (ha : PA X (e :: es) t) (hdb : (nm == ("__debug__" : Str)) = false := by decide)
    (he : starEach (e :: es) X.env = (false, eval e X.env) :: starEach es X.env := by rfl) (hpl : (backTo pos (starEach es X.env)).any (·.1) = false := by rfl) :
    PE X (.Call (.Name nm p) (e :: es) [] pos) (tCall sp [] E0 t) := by
  obtain ⟨f, fd, a, b, d, g⟩ := c
  exact pe_call a hr hg b d g .nil pass0 ha hdb he hpl
theorem pe_callC0 (c : Cal X.prog X.w X.K X.mg X.base k nm ps sp) (hr : Room k X.A) (hg : Gl X nm) (hdb : (nm == ("__debug__" : Str)) = false := by decide) :
    PE X (.Call (.Name nm p) [] [] pos) (tCall sp [] E0 tNil) := by
  obtain ⟨f, fd, a, b, d, g⟩ := c
  exact pe_call0 a hr hg b d g .nil pass0 hdb
end
/-! ### rules with the written part by its name (a comprehension's block has the same one) -/
section
variable {X : Cx} (K : PySem.W.Frag)
theorem ix_listK (h : X.K = K) : IxR X (rIxL K) := by subst h; exact ix_list
theorem ix_tupK (h : X.K = K) : IxR X (rIxT K) := by subst h; exact ix_tup
theorem ix_seqK (h : X.K = K) : IxR X (rIx K) := by subst h; exact ix_seq
def rLenK (K : PySem.W.Frag) : List V → Hp → VK → Prop := fun xs H Q => ∃ p ys, xs = [.ref p] ∧ (SqL K H p ys ∨ SqT K H p ys) ∧ Q (.int ys.length) H
theorem call_lenK (h : X.K = K) : CallR X (.builtin "len") (rLenK K) := by subst h; exact call_len_seq
def rListK (K : PySem.W.Frag) : List V → Hp → VK → Prop := fun xs H Q => ∃ p ys, xs = [.ref p] ∧ (SqL K H p ys ∨ SqT K H p ys) ∧ ∀ l, H l = none → Q (.ref l) (upd H l (.lst ys))
theorem call_listK (h : X.K = K) : CallR X (.type "list") (rListK K) := by subst h; exact call_list_of
theorem call_isiK1 (h : X.K = K) : CallR X (.builtin "isinstance") (rIsi K) := by subst h; exact call_isi
theorem call_isiTK (h : X.K = K) : CallR X (.builtin "isinstance") (rIsiT K) := by subst h; exact call_isiT
theorem op_inK (h : X.K = K) : OpR X (compareOp .In) (rIn K false) := by subst h; exact op_in_seq
theorem op_notInK (h : X.K = K) : OpR X (compareOp .NotIn) (rIn K true) := by subst h; exact op_notIn_seq
theorem op_eqDK (h : X.K = K) (hu : X.A.units + 64 < cLine) : OpR X (compareOp .Eq) (rEqD K) := by subst h; exact op_eqD hu
theorem op_neDK (h : X.K = K) (hu : X.A.units + 64 < cLine) : OpR X (compareOp .NotEq) (rNeD K) := by subst h; exact op_neD hu
theorem sl_listK (h : X.K = K) : SlR X (rSlL K) := by subst h; exact sl_list
theorem cr_allK (h : X.K = K) (hc : X.calm = true) : CallR X (.builtin "all") (rAll K) := by subst h; exact cr_all hc
variable {o e : Expr} {es : List Expr} {to : TE} {t : TA} {name : Str} {apos cpos : Pos} {T id : String} {r : V → List V → Hp → VK → Prop}
theorem pe_bm0K (h : X.K = K) (pa : PlainAttrs T) (slot : Slot T name id) (hty : typeOf (.builtin id) = pure (.type "method_descriptor")) (hm : MtR X id r) (ho : PE X o to)
    (hbase : attributeBase o name X.env (eval o X.env) = eval o X.env := by rfl) (hline : (apos.endLine == cpos.line) = true := by rfl) : PE X (.Call (.Attribute o name apos) [] [] cpos) (tBM0 K T r to) := by
  subst h; exact pe_bm0 pa slot hty hm ho hbase hline
theorem pe_bmK (h : X.K = K) (pa : PlainAttrs T) (slot : Slot T name id) (hty : typeOf (.builtin id) = pure (.type "method_descriptor")) (hm : MtR X id r) (ho : PE X o to) (ha : PA X (e :: es) t)
    (hbase : attributeBase o name X.env (eval o X.env) = eval o X.env := by rfl)
    (hfew : ((backTo cpos (starEach (e :: es) X.env)).all (fun x => !x.1) && (backToKw cpos (keywordEach [] X.env)).all (fun x => x.1.isSome)
      && decide ((e :: es).length + ([] : List Keyword).length + (if ([] : List Keyword).isEmpty then 0 else 1) < 30)) = true := by rfl)
    (hline : (apos.endLine == cpos.line) = true := by rfl) (hs : starEach (e :: es) X.env = (false, eval e X.env) :: starEach es X.env := by rfl) (hplain : (backTo cpos (starEach es X.env)).any (·.1) = false := by rfl) :
    PE X (.Call (.Attribute o name apos) (e :: es) [] cpos) (tBM K T r to t) := by
  subst h; exact pe_bm pa slot hty hm ho ha hbase hfew hline hs hplain
variable {tg l : Expr} {tl : TE}
theorem pi_listK (h : X.K = K) (hl : PE X l tl) : PI X tg l (iList K tl) := by subst h; exact pi_list hl
theorem pi_tupK (h : X.K = K) (hl : PE X l tl) : PI X tg l (iTup K tl) := by subst h; exact pi_tup hl
end
/-- behind a statement: what its ways have in common -/
theorem seq_by {t u : TS} {D : Ends} {σ : L2.St} {H : Hp} (J : L2.St → Hp → Prop) (h2 : ∀ σ1 H1, J σ1 H1 → u D σ1 H1) (h1 : (∀ σ1 H1, J σ1 H1 → u D σ1 H1) → t { D with nx := u D } σ H) : tSeq t u D σ H := h1 h2
theorem if_by {c : TT} {t1 t2 u : TS} {D : Ends} {σ : L2.St} {H : Hp} (J : L2.St → Hp → Prop) (h2 : ∀ σ1 H1, J σ1 H1 → u D σ1 H1) (h1 : (∀ σ1 H1, J σ1 H1 → u D σ1 H1) → tIfS c t1 t2 { D with nx := u D } σ H) : tSeq (tIfS c t1 t2) u D σ H := h1 h2
theorem asg_by {te : TE} {i : Nat} {u : TS} {D : Ends} {σ : L2.St} {H : Hp} (J : V → Hp → Prop) (h2 : ∀ v H1, J v H1 → u D (σ.set i (some v)) H1) (h1 : (∀ v H1, J v H1 → u D (σ.set i (some v)) H1) → te σ H (fun x H1 => gName i x σ H1 (u D))) : tSeq (tAsg te (gName i)) u D σ H := h1 h2
theorem name_by {i : Nat} {v : V} {σ : L2.St} {H : Hp} {Q : L2.St → Hp → Prop} (h : Q (σ.set i (some v)) H) : gName i v σ H Q := h
/-! ### heaps -/
theorem same_upd {H : Hp} {p : Addr} {o : HO} (h : H p = none) : Same H (upd H p o) := fun b x e => by
  rw [upd_ne (ne_of_none e h)]
  exact e
/-- an object that was not there ahead may change -/
theorem same_mut {H H' : Hp} {p : Addr} {o : HO} (e : Same H H') (h : H p = none) : Same H (upd H' p o) := fun b x q => by
  rw [upd_ne (ne_of_none q h)]
  exact e b x q
/-- all but what stands at b stays -/
def Mv (b : Addr) (H H' : Hp) : Prop := ∀ a o, a ≠ b → H a = some o → H' a = some o
theorem Mv.refl (b : Addr) (H : Hp) : Mv b H H := fun _ _ _ h => h
theorem Mv.trans {b : Addr} {H H1 H2 : Hp} (x : Mv b H H1) (y : Mv b H1 H2) : Mv b H H2 := fun a o n h => y a o n (x a o n h)
theorem Mv.of {b : Addr} {H H' : Hp} (s : Same H H') : Mv b H H' := fun a o _ h => s a o h
theorem Mv.upd {b : Addr} {H H' : Hp} {o : HO} (x : Mv b H H') : Mv b H (upd H' b o) := fun a u n h => by
  rw [upd_ne n]
  exact x a u n h
theorem Mv.none {b p : Addr} {H H' : Hp} (x : Mv b H H') (n : p ≠ b) (h : H' p = none) : H p = none := by
  cases q : H p with
  | none => rfl
  | some o =>
    rw [x p o n q] at h
    cases h
/-! ### the bag: b.1 the bag, b.2 its numbers -/
def bagL (s : Addr) (i r x c : Int) : List V := [.ref s, .int i, .int r, .int x, .int c]
def Bag (b : Addr × Addr) (H : Hp) : Prop := ∃ (ns : List Int) (i r x c : Int), H b.1 = some (.lst (bagL b.2 i r x c)) ∧ H b.2 = some (.lst (ns.map V.int)) ∧ b.2 ≠ b.1 ∧ 0 ≤ i ∧ 0 ≤ x ∧ x < 2147483648
theorem Bag.same {b : Addr × Addr} {H H' : Hp} (g : Bag b H) (s : Same H H') : Bag b H' := by
  obtain ⟨ns, i, r, x, c, h1, h2, h3, h4, h5, h6⟩ := g
  exact ⟨ns, i, r, x, c, s _ _ h1, s _ _ h2, h3, h4, h5, h6⟩
theorem Bag.ne {b : Addr × Addr} {p : Addr} {H : Hp} (g : Bag b H) (h : H p = none) : p ≠ b.1 := by
  obtain ⟨ns, i, r, x, c, h1, _⟩ := g
  exact fun z => by rw [z, h1] at h; cases h
theorem Bag.ne2 {b : Addr × Addr} {p : Addr} {H : Hp} (g : Bag b H) (h : H p = none) : p ≠ b.2 := by
  obtain ⟨ns, i, r, x, c, _, h1, _⟩ := g
  exact fun z => by rw [z, h1] at h; cases h
theorem Bag.upd {b : Addr × Addr} {p : Addr} {o : HO} {H : Hp} (g : Bag b H) (h1 : p ≠ b.1) (h2 : p ≠ b.2) : Bag b (L2.upd H p o) := by
  obtain ⟨ns, i, r, x, c, e1, e2, h3⟩ := g
  exact ⟨ns, i, r, x, c, by rw [upd_ne h1.symm]; exact e1, by rw [upd_ne h2.symm]; exact e2, h3⟩
/-- a draw: its bag, its bound -/
def spPick : Sp := fun vs H Q _ => ∃ (b : Addr × Addr) (top : Int), vs = [.ref b.1, .int top] ∧ Bag b H ∧ 0 < top ∧ top < 1073741824 ∧ ∀ (H' : Hp) (d : Int), Mv b.1 H H' → Bag b H' → 0 ≤ d → d < top → Q (.int d) H'
/-- the bag of a script -/
def spBag (K : PySem.W.Frag) : Sp := fun vs H Q _ => ∃ (a : Addr) (ns : List Int), vs = [.ref a] ∧ SqL K H a (ns.map V.int) ∧ ∀ (H' : Hp) (b : Addr × Addr), Same H H' → H b.1 = none → Bag b H' → Q (.ref b.1) H'
/-- one of the list's things -/
def spOf (K : PySem.W.Frag) : Sp := fun vs H Q _ => ∃ (b : Addr × Addr) (l : Addr) (xs : List V), vs = [.ref b.1, .ref l] ∧ Bag b H ∧ l ≠ b.1 ∧ H l = some (.lst xs) ∧ 0 < xs.length ∧ xs.length < 1000 ∧ ∀ (H' : Hp) (v : V), Mv b.1 H H' → Bag b H' → v ∈ xs → Q v H'
section
variable {K : PySem.W.Frag}
def tyN : PyData → String
  | .none => "NoneType"
  | .bool _ => "bool"
  | .int _ => "int"
  | .str _ => "str"
  | .list _ => "list"
  | .tuple _ => "tuple"
  | .dict _ => "dict"
theorem ty_dp {H : Hp} {x : V} {d : PyData} (h : Dp K H x d) : TyX K H x (.type (tyN d)) := by
  cases h with
  | non => exact .base .non
  | bl b => exact .base (.bl b)
  | int i => exact .base (.int i)
  | str x => exact .base (.str x)
  | lst hs _ =>
    rcases hs with (h | ⟨o, h⟩) | ⟨o, its, n, h1, h2, _⟩
    · exact .base (.lst h)
    · exact .base (.frz h)
    · exact .kList h1 h2
  | tup hs _ =>
    rcases hs with (h | ⟨o, h⟩) | ⟨o, its, n, h1, h2, _⟩
    · exact .base (.tup h)
    · exact .fTuple h
    · exact .kTuple h1 h2
theorem same_t {H H' : Hp} {a : Addr} {xs : List V} (e : Same H H') (h : SqT K H a xs) : SqT K H' a xs := by
  rcases h with (h | ⟨o, h⟩) | h
  · exact .inl (.inl (e _ _ h))
  · exact .inl (.inr ⟨o, e _ _ h⟩)
  · exact .inr h
mutual
theorem dp_same {H H' : Hp} (e : Same H H') : ∀ {d : PyData} {x : V}, Dp K H x d → Dp K H' x d
  | _, _, .non => .non
  | _, _, .bl b => .bl b
  | _, _, .int i => .int i
  | _, _, .str s => .str s
  | _, _, .lst hs ha => .lst (e.seq hs) (dpa_same e ha)
  | _, _, .tup hs ha => .tup (same_t e hs) (dpa_same e ha)
theorem dpa_same {H H' : Hp} (e : Same H H') : ∀ {ds : List PyData} {xs : List V}, DpAll K H xs ds → DpAll K H' xs ds
  | _, _, .nil => .nil
  | _, _, .cons h t => .cons (dp_same e h) (dpa_same e t)
end
theorem dpa_len {H : Hp} : ∀ {xs : List V} {ds : List PyData}, DpAll K H xs ds → xs.length = ds.length
  | _, _, .nil => rfl
  | _, _, .cons _ t => congrArg (· + 1) (dpa_len t)
theorem dpa_get {H : Hp} : ∀ {xs : List V} {ds : List PyData} {i : Nat} {d : PyData}, DpAll K H xs ds → ds[i]? = some d → ∃ x, xs[i]? = some x ∧ Dp K H x d
  | _, _, _, _, .nil, e => by simp at e
  | _, _, 0, _, .cons h _, e => by simp at e; subst e; exact ⟨_, rfl, h⟩
  | _, _, i + 1, d, .cons _ t, e => by
    obtain ⟨x, h1, h2⟩ := dpa_get (i := i) (d := d) t (by simpa using e)
    exact ⟨x, by simpa using h1, h2⟩
/-- data of at most so many levels -/
def Dn : Nat → PyData → Prop
  | 0, _ => False
  | n + 1, d => (∃ b, d = .bool b) ∨ (∃ i, d = .int i) ∨ (∃ s, d = .str s) ∨ d = .none ∨ ∃ ds, (d = .list ds ∨ d = .tuple ds) ∧ ds.length ≤ 100000 ∧ ∀ e ∈ ds, Dn n e
def spSame (K : PySem.W.Frag) (n : Nat) : Sp := fun vs H Q _ => ∃ (x y : V) (d : PyData), vs = [x, y] ∧ Dp K H x d ∧ Dp K H y d ∧ Dn n d ∧ SeqAt.shaped d = true ∧ ∀ H', Same H H' → Q (.bl true) H'
theorem tYes_by {σ : L2.St} {H : Hp} {Q : Bool → Hp → Prop} (h : Q true H) : tYes σ H Q := h
theorem canLay_mem : ∀ {ds : List PyData} {e : PyData}, e ∈ ds → PyData.canLayAll0 ds = true → PyData.canLay0 e = true
  | d :: ds, e, hm, h => by
    have h : (PyData.canLay0 d && PyData.canLayAll0 ds) = true := h
    rw [Bool.and_eq_true] at h
    rcases List.mem_cons.mp hm with rfl | hm
    · exact h.1
    · exact canLay_mem hm h.2
theorem depth_mem : ∀ {ds : List PyData} {e : PyData}, e ∈ ds → PyData.depth e ≤ PyData.depthAll ds
  | d :: ds, e, hm => by
    show _ ≤ max (PyData.depth d) (PyData.depthAll ds)
    rcases List.mem_cons.mp hm with rfl | hm
    · exact Nat.le_max_left _ _
    · exact Nat.le_trans (depth_mem hm) (Nat.le_max_right _ _)
theorem shaped_mem {ds : List PyData} {e : PyData} (hm : e ∈ ds) (h : SeqAt.shaped (.list ds) = true ∨ SeqAt.shaped (.tuple ds) = true) : SeqAt.shaped e = true := by
  have k : PyData.canLayAll0 ds = true ∧ PyData.depthAll ds + 1 ≤ 64 := by
    rcases h with h | h
    · exact ⟨SeqAt.canLay_of_shaped h, SeqAt.depth_of_shaped h⟩
    · exact ⟨SeqAt.canLay_of_shaped h, SeqAt.depth_of_shaped h⟩
  unfold SeqAt.shaped
  rw [Bool.and_eq_true]
  exact ⟨canLay_mem hm k.1, decide_eq_true (by have := depth_mem hm; omega)⟩
theorem ifT {A B : Prop} {b : Bool} (e : b = true) (h : A) : if b = true then A else B := by rw [if_pos e]; exact h
theorem ifF {A B : Prop} {b : Bool} (e : b = false) (h : B) : if b = true then A else B := by rw [e]; exact iteF h
end
end WB
namespace WB
open PySem PySem.Spec PyProof.Rows L2
section
variable {K : PySem.W.Frag}
theorem for_enumK {a : Addr} {xs : List V} {g : TG} {tb : TS} {D : Ends} {σ : L2.St} {H : Hp} (Pv : Nat → L2.St → Hp → Prop) (h0 : Pv 0 σ H) (hl : ∀ i σ H, i ≤ xs.length → Pv i σ H → SqL K H a xs)
    (hs : ∀ i x T σ H, xs[i]? = some x → Pv i σ H → H T = none → g (.ref T) σ (upd H T (.tup [.int (i : Nat), x])) fun σ2 H2 => tb { D with nx := Pv (i + 1), ct := Pv (i + 1), bk := D.nx } σ2 H2) (hd : ∀ σ H, Pv xs.length σ H → D.nx σ H) :
    ∃ W : Nat → Nat → L2.St → Hp → Prop, (∃ m, W 0 m σ H) ∧ ∀ i m σ H, W i m σ H →
      ((Ite K a).stop i H ∧ D.nx σ H) ∨ ((Ite K a).go i H ∧ ∃ N : L2.St → Hp → Prop, (∀ σ' H', N σ' H' → ∃ m', m' < m ∧ W (i + 1) m' σ' H') ∧ ∀ x H', (Ite K a).yld i H x H' → g x σ H' fun σ2 H2 => tb { D with nx := N, ct := N, bk := D.nx } σ2 H2) := by
  refine ⟨fun i m σ H => m = xs.length - i ∧ i ≤ xs.length ∧ Pv i σ H, ⟨xs.length, by simp, Nat.zero_le _, h0⟩, ?_⟩
  rintro i m σ H ⟨rfl, hi, p⟩
  have q := hl i σ H hi p
  by_cases hlt : i < xs.length
  · refine .inr ⟨⟨xs, xs[i], q, by simp [hlt]⟩, Pv (i + 1), fun σ' H' p' => ⟨xs.length - (i + 1), by omega, rfl, hlt, p'⟩, fun x H' y => ?_⟩
    obtain ⟨T, z, rfl, nT, rfl, y⟩ := y
    exact hs i z T σ H (y xs q) p nT
  · have e : i = xs.length := by omega
    subst e
    exact .inl ⟨⟨xs, q, Nat.le_refl _⟩, hd σ H p⟩
end
/-! ### bits, numbers in bits, seals: the mathematics -/
def Bits (ns : List Int) : Prop := ∀ z ∈ ns, z = 0 ∨ z = 1
/-- a number in so many bits, the one of greatest worth first -/
def wr : Nat → Int → List Int
  | 0, _ => []
  | i + 1, n => ((n / 2 ^ i) % 2) :: wr i n
theorem wr_len : ∀ (i : Nat) (n : Int), (wr i n).length = i
  | 0, _ => rfl
  | i + 1, n => congrArg (· + 1) (wr_len i n)
theorem wr_bits : ∀ (i : Nat) (n : Int), Bits (wr i n)
  | 0, _ => fun z h => nomatch h
  | i + 1, n => fun z h => by
    rcases List.mem_cons.mp h with rfl | h
    · omega
    · exact wr_bits i n z h
theorem half (n : Int) (i : Nat) : n / 2 ^ i / 2 = n / 2 ^ (i + 1) := by
  rw [Int.pow_succ, Int.ediv_ediv_of_nonneg (by exact Int.pow_nonneg (by decide))]
/-- the register: one more bit -/
def stepR (c : Nat) (b : Int) : Nat := if ((c / 32768 : Nat) : Int) = b then c * 2 % 65536 else (c * 2 % 65536) ^^^ 4129
theorem stepR_lt (c : Nat) (b : Int) : stepR c b < 65536 := by
  unfold stepR
  have h : c * 2 % 65536 < 65536 := Nat.mod_lt _ (by decide)
  split
  · exact h
  · exact Nat.xor_lt_two_pow (n := 16) h (by decide)
def regs (bs : List Int) : Nat := bs.foldl stepR 65535
theorem regs_lt (bs : List Int) : regs bs < 65536 := by
  have : ∀ (l : List Int) (c : Nat), c < 65536 → l.foldl stepR c < 65536 := by
    intro l
    induction l with
    | nil => exact fun c h => h
    | cons b r ih => exact fun c _ => ih _ (stepR_lt c b)
  exact this bs 65535 (by decide)
def sealL (bs : List Int) : List Int := wr 16 (regs bs : Nat)
theorem take_more {α : Type} {l : List α} {i : Nat} {x : α} (h : l[i]? = some x) : l.take (i + 1) = l.take i ++ [x] := by
  rw [List.take_add_one, h]
  rfl
theorem regs_more {bs : List Int} {i : Nat} {b : Int} (h : bs[i]? = some b) : regs (bs.take (i + 1)) = stepR (regs (bs.take i)) b := by
  unfold regs
  rw [take_more h, List.foldl_append]
  rfl
theorem wr_at (c : Nat) (i : Nat) : ((c : Int) / 2 ^ i) % 2 = if c.testBit i then 1 else 0 := by
  have e : ((c : Int) / 2 ^ i) % 2 = ((c / 2 ^ i % 2 : Nat) : Int) := by
    rw [Int.natCast_emod, Int.natCast_ediv, Int.natCast_pow]
    rfl
  rw [e, Nat.testBit_eq_decide_div_mod_eq]
  have h : c / 2 ^ i % 2 < 2 := Nat.mod_lt _ (by decide)
  by_cases h1 : c / 2 ^ i % 2 = 1
  · rw [h1]; rfl
  · have h0 : c / 2 ^ i % 2 = 0 := by omega
    rw [h0]; rfl
def holdsB (ns : List Int) : Bool := decide (16 ≤ ns.length) && decide (sealL (ns.take (ns.length - 16)) = ns.drop (ns.length - 16))
theorem wr_shift (c : Nat) : wr 16 ((c * 2 % 65536 : Nat) : Int) = (wr 16 (c : Int)).drop 1 ++ [0] := by
  have e : ((c * 2 % 65536 : Nat) : Int) = (c : Int) * 2 % 65536 := by rw [Int.natCast_emod, Int.natCast_mul]; rfl
  rw [e]
  generalize (c : Int) = z
  simp only [wr, List.drop, List.cons_append, List.nil_append, List.cons.injEq, and_true]
  refine ⟨?_, ?_, ?_, ?_, ?_, ?_, ?_, ?_, ?_, ?_, ?_, ?_, ?_, ?_, ?_, ?_⟩ <;> omega
def fl (M : List Int) (k : Nat) : List Int := M.set k (1 - M.getD k 0)
theorem wr_flip (a : Nat) : wr 16 ((a ^^^ 4129 : Nat) : Int) = fl (fl (fl (wr 16 (a : Int)) 3) 10) 15 := by
  simp only [wr, wr_at, Nat.testBit_xor, fl]
  simp only [List.set, List.getD, List.getElem?_cons_succ, List.getElem?_cons_zero, Option.getD]
  have h : ∀ i : Nat, (if ((a.testBit i) ^^ true) = true then (1 : Int) else 0) = 1 - (if a.testBit i = true then 1 else 0) := by
    intro i
    cases a.testBit i <;> rfl
  have t0 : (4129 : Nat).testBit 0 = true := by decide
  have t5 : (4129 : Nat).testBit 5 = true := by decide
  have t12 : (4129 : Nat).testBit 12 = true := by decide
  have n1 : (4129 : Nat).testBit 1 = false := by decide
  have n2 : (4129 : Nat).testBit 2 = false := by decide
  have n3 : (4129 : Nat).testBit 3 = false := by decide
  have n4 : (4129 : Nat).testBit 4 = false := by decide
  have n6 : (4129 : Nat).testBit 6 = false := by decide
  have n7 : (4129 : Nat).testBit 7 = false := by decide
  have n8 : (4129 : Nat).testBit 8 = false := by decide
  have n9 : (4129 : Nat).testBit 9 = false := by decide
  have n10 : (4129 : Nat).testBit 10 = false := by decide
  have n11 : (4129 : Nat).testBit 11 = false := by decide
  have n13 : (4129 : Nat).testBit 13 = false := by decide
  have n14 : (4129 : Nat).testBit 14 = false := by decide
  have n15 : (4129 : Nat).testBit 15 = false := by decide
  simp only [t0, t5, t12, n1, n2, n3, n4, n6, n7, n8, n9, n10, n11, n13, n14, n15, Bool.xor_false, h]
/-- data of ints -/
def dI (ns : List Int) : PyData := .list (ns.map PyData.int)
theorem dpa_ints {K : PySem.W.Frag} {H : Hp} : ∀ ns : List Int, DpAll K H (ns.map V.int) (ns.map PyData.int)
  | [] => .nil
  | n :: r => .cons (.int n) (dpa_ints r)
theorem dp_ints {K : PySem.W.Frag} {H : Hp} {a : Addr} {ns : List Int} (h : SqL K H a (ns.map V.int)) : Dp K H (.ref a) (dI ns) := .lst h (dpa_ints ns)
theorem depth_ints : ∀ ns : List Int, PyData.depthAll (ns.map PyData.int) = 0
  | [] => rfl
  | n :: r => by
    show max 0 (PyData.depthAll (r.map PyData.int)) = 0
    rw [depth_ints r]
    rfl
theorem canLay_ints : ∀ ns : List Int, PyData.canLayAll0 (ns.map PyData.int) = true
  | [] => rfl
  | n :: r => by
    show (true && PyData.canLayAll0 (r.map PyData.int)) = true
    rw [canLay_ints r]
    rfl
theorem shaped_ints (ns : List Int) : SeqAt.shaped (dI ns) = true := by
  unfold SeqAt.shaped
  rw [Bool.and_eq_true]
  refine ⟨canLay_ints ns, decide_eq_true ?_⟩
  show PyData.depthAll (ns.map PyData.int) + 1 ≤ 64
  rw [depth_ints]
  decide
theorem eqv_ints (ns ms : List Int) : PyData.eqv (dI ns) (dI ms) = decide (ns = ms) := by
  have : ∀ (ns ms : List Int), PyData.eqvAll (ns.map PyData.int) (ms.map PyData.int) = decide (ns = ms) := by
    intro ns
    induction ns with
    | nil =>
      intro ms
      cases ms with
      | nil => rfl
      | cons m r => rfl
    | cons n r ih =>
      intro ms
      cases ms with
      | nil => rfl
      | cons m t =>
        show (PyData.eqv (.int n) (.int m) && PyData.eqvAll (r.map PyData.int) (t.map PyData.int)) = _
        rw [ih t]
        show ((n == m) && decide (r = t)) = _
        rw [show (n == m) = decide (n = m) from by rw [Bool.beq_eq_decide_eq], ← Bool.decide_and]
        exact decide_eq_decide.mpr ⟨fun h => by rw [h.1, h.2], fun h => List.cons.inj h⟩
  exact this ns ms
/-! ### what a law knows of the heap: the bag at b, and these -/
structure SH (b : Addr × Addr) (H : Hp) (L : List (Addr × HO)) : Prop where
  bag : Bag b H
  nb : ∀ p ∈ L, p.1 ≠ b.1 ∧ p.1 ≠ b.2
  kn : ∀ p ∈ L, H p.1 = some p.2
section
variable {b : Addr × Addr} {p : Addr} {H H' : Hp} {L L' : List (Addr × HO)} {o o' : HO}
theorem SH.same (h : SH b H L) (s : Same H H') : SH b H' L := ⟨h.bag.same s, h.nb, fun q hq => s _ _ (h.kn q hq)⟩
theorem SH.mv (h : SH b H L) (m : Mv b.1 H H') (g : Bag b H') : SH b H' L := ⟨g, h.nb, fun q hq => m _ _ (h.nb q hq).1 (h.kn q hq)⟩
theorem SH.add (h : SH b H L) (n : p ≠ b.1) (n2 : p ≠ b.2) (e : H p = some o) : SH b H ((p, o) :: L) :=
  ⟨h.bag, fun q hq => (List.mem_cons.mp hq).elim (fun z => by rw [z]; exact ⟨n, n2⟩) (h.nb q), fun q hq => (List.mem_cons.mp hq).elim (fun z => by rw [z]; exact e) (h.kn q)⟩
theorem SH.new (h : SH b H L) (n : H p = none) : SH b (upd H p o) ((p, o) :: L) := (h.same (same_upd n)).add (h.bag.ne n) (h.bag.ne2 n) upd_same
theorem SH.newS (h : SH b H L) (s : Same H H') (n : H p = none) (e : H' p = some o) : SH b H' ((p, o) :: L) := (h.same s).add (h.bag.ne n) (h.bag.ne2 n) e
theorem SH.newM (h : SH b H L) (m : Mv b.1 H H') (g : Bag b H') (n : H p = none) (e : H' p = some o) : SH b H' ((p, o) :: L) := (h.mv m g).add (h.bag.ne n) (h.bag.ne2 n) e
theorem SH.sub (h : SH b H L) (hs : ∀ q ∈ L', q ∈ L) : SH b H L' := ⟨h.bag, fun q hq => h.nb q (hs q hq), fun q hq => h.kn q (hs q hq)⟩
theorem SH.get (h : SH b H L) (hm : (p, o) ∈ L) : H p = some o := h.kn _ hm
theorem SH.ne (h : SH b H L) (hm : (p, o) ∈ L) : p ≠ b.1 := (h.nb _ hm).1
/-- the first of them is written; the others stand elsewhere -/
theorem SH.put (h : SH b H ((p, o) :: L)) (hd : ∀ q ∈ L, q.1 ≠ p) : SH b (upd H p o') ((p, o') :: L) :=
  ⟨h.bag.upd (h.nb _ (.head _)).1 (h.nb _ (.head _)).2, fun q hq => (List.mem_cons.mp hq).elim (fun z => by rw [z]; exact h.nb (p, o) (.head L)) (fun hq => h.nb q (.tail _ hq)),
    fun q hq => (List.mem_cons.mp hq).elim (fun z => by rw [z]; exact upd_same) (fun hq => by rw [upd_ne (hd q hq)]; exact h.kn q (.tail _ hq))⟩
theorem SH.apart (h : SH b H L) (n : H p = none) : ∀ q ∈ L, q.1 ≠ p := fun q hq => ne_of_none (h.kn q hq) n
theorem SH.nil (g : Bag b H) : SH b H [] := ⟨g, (fun _ h => absurd h List.not_mem_nil), (fun _ h => absurd h List.not_mem_nil)⟩
end
theorem bits_nil : Bits [] := fun _ h => nomatch h
theorem bits_app {a c : List Int} (h : Bits a) (h' : Bits c) : Bits (a ++ c) := fun z hz => (List.mem_append.mp hz).elim (h z) (h' z)
theorem bits_one {z : Int} (h : z = 0 ∨ z = 1) : Bits [z] := fun y hy => by rw [List.mem_singleton.mp hy]; exact h
theorem bits_take {a : List Int} (h : Bits a) (n : Nat) : Bits (a.take n) := fun z hz => h z (List.mem_of_mem_take hz)
theorem bits_drop {a : List Int} (h : Bits a) (n : Nat) : Bits (a.drop n) := fun z hz => h z (List.mem_of_mem_drop hz)
theorem seal_bits (ns : List Int) : Bits (sealL ns) := wr_bits _ _
theorem seal_len (ns : List Int) : (sealL ns).length = 16 := wr_len _ _
theorem cut_to_n (xs : List V) (n : Nat) : cutV xs none (some (n : Int)) = xs.take n := by
  unfold cutV
  rw [HT.sIx_none, HT.sIx_nat, List.drop_zero, Nat.sub_zero]
  by_cases h : n ≤ xs.length
  · rw [Nat.min_eq_left h]
  · rw [Nat.min_eq_right (by omega), List.take_of_length_le (Nat.le_refl _), List.take_of_length_le (by omega)]
theorem cut_from_n (xs : List V) (n : Nat) : cutV xs (some (n : Int)) none = xs.drop n := by
  unfold cutV
  rw [HT.sIx_none, HT.sIx_nat]
  by_cases h : n ≤ xs.length
  · rw [Nat.min_eq_left h]
    exact List.take_of_length_le (by simp)
  · rw [Nat.min_eq_right (by omega), List.drop_of_length_le (Nat.le_refl _), List.drop_of_length_le (by omega)]
    exact List.take_nil
theorem sIx_back (l d n : Nat) (h : 0 < n) : HT.sIx l d (some (-(n : Int))) = l - n := by
  show (if -(n : Int) < 0 then (-(n : Int) + (l : Int)).toNat else min (-(n : Int)).toNat l) = l - n
  rw [if_pos (by omega)]
  omega
theorem cut_to_b (xs : List V) (n : Nat) (h : 0 < n) : cutV xs none (some (-(n : Int))) = xs.take (xs.length - n) := by
  unfold cutV
  rw [HT.sIx_none, sIx_back _ _ n h, List.drop_zero, Nat.sub_zero]
theorem cut_from_b (xs : List V) (n : Nat) (h : 0 < n) : cutV xs (some (-(n : Int))) none = xs.drop (xs.length - n) := by
  unfold cutV
  rw [HT.sIx_none, sIx_back _ _ n h]
  exact List.take_of_length_le (by simp)
theorem sz4 {n : Nat} (h : n ≤ 100000) : n ≤ sizeLine := Nat.le_trans h (by decide)
theorem sz4l {n : Nat} (h : n < 100000) : n < sizeLine := Nat.lt_of_lt_of_le h (by decide)
theorem holds_sealed {ns : List Int} : holdsB (ns ++ sealL ns) = true := by
  unfold holdsB
  have l : (ns ++ sealL ns).length = ns.length + 16 := by rw [List.length_append, seal_len]
  rw [l, Nat.add_sub_cancel, List.take_left, List.drop_left]
  simp
theorem holds_short {ns : List Int} (h : ns.length < 16) : holdsB ns = false := by
  unfold holdsB
  rw [decide_eq_false (by omega), Bool.false_and]
theorem inV_ints (z : Int) : ∀ ks : List Int, inV (.int z) (ks.map V.int) = decide (z ∈ ks)
  | [] => rfl
  | k :: r => by
    show ((k == z) || inV (.int z) (r.map V.int)) = _
    rw [inV_ints z r]
    by_cases h : z = k
    · subst h
      simp
    · have h2 : (k == z) = false := by simpa using fun e => h e.symm
      rw [h2, Bool.false_or]
      exact decide_eq_decide.mpr ⟨fun hm => .tail _ hm, fun hm => (List.mem_cons.mp hm).elim (fun e => absurd e h) (fun e => e)⟩
def isB (b : Int) : Prop := b = 0 ∨ b = 1
theorem bits_cons {b : Int} {r : List Int} (h : Bits (b :: r)) : isB b ∧ Bits r := ⟨h b (.head _), fun z hz => h z (.tail _ hz)⟩
theorem getI {ns : List Int} {i : Nat} {y : V} (h : (ns.map V.int)[i]? = some y) : ∃ z, ns[i]? = some z ∧ y = V.int z := by
  rw [List.getElem?_map] at h
  cases e : ns[i]? with
  | none => rw [e] at h; cases h
  | some z => rw [e] at h; exact ⟨z, rfl, (Option.some.inj h).symm⟩
end WB
namespace WB
open PySem PySem.Spec PyProof.Rows L2
/-! ### a class's own function, called by the class: C.m(e, ..) -/
structure ClsFn (K : PySem.W.Frag) (mg : Str → Option Value) (x m : Str) (C f : Addr) : Prop where
  gC : mg x = some (.ref C)
  sg : PySem.W.specialIn K (.ref C) "__getattribute__" = some (some (.builtin "type.__getattribute__"))
  ty : PySem.W.typeIn K (.ref C) = some (.type "type")
  rd : PySem.W.readsIn K C (.type "type") = true
  fc : PySem.W.findCls K (.ref C) (.type "type") m = some (.val (.ref f))
  hd : PySem.W.handedIn (.ref f) = true
  kp : PySem.W.keepIn K (.ref f) = true
section
variable {X : Cx} {CX : CXT} {k : Nat} {f C : Addr} {fd : FuncData} {ps : List Str} {sp : Sp} {E : XK} {x m : Str} {p1 p2 pos : Pos} {e : Expr} {es : List Expr} {t : TA}
theorem pe_clsfn {pl : Sem Bool} (T : ClsFn X.K X.mg x m C f) (F : FnOk X.prog X.w X.K X.mg X.base CX k f fd ps sp) (hr : Room k X.A) (hb : Binds X.K fd ps []) (hx : Passes CX X E) (hg : Gl X x) (ha : PA X (e :: es) t)
    (hc : eval (.Call (.Attribute (.Name x p1) m p2) (e :: es) [] pos) X.env = (do
      let ov ← eval (.Name x p1) X.env
      standAt p2.atName
      let (f, first) ← holding [ov] (getMethod ov m pl)
      callWith pos f first (backTo pos (starEach (e :: es) X.env)) (backToKw pos (keywordEach [] X.env))) := by rfl)
    (hdb : (x == ("__debug__" : Str)) = false := by decide) (he : starEach (e :: es) X.env = (false, eval e X.env) :: starEach es X.env := by rfl) (hpl : (backTo pos (starEach es X.env)).any (·.1) = false := by rfl) :
    PE X (.Call (.Attribute (.Name x p1) m p2) (e :: es) [] pos) (tCall sp [] E t) := by
  refine ⟨fun pins s σ H Q I h => ?_⟩
  refine PySem.W.methodCall_KW (ld_glob I hg T.gC ?_ hdb) hc
  obtain ⟨mm, fr⟩ := I.fr
  refine PySem.W.method_of_cls fr I.ok.mod.kin T.sg (PySem.W.cls_val fr I.ok.mod.kin T.ty T.rd T.fc T.hd ?_)
  show wpAny _ _ (callWith pos (Value.ref f) [] (backTo pos (starEach (e :: es) X.env)) []) _ _ _
  refine PySem.W.callWith_K (h₀ := X.base) I.ok.mod.kin T.kp (thn (ha.run pos pins _ σ H _ (I.tok _) h) fun us s1 ⟨vs, H1, I1, r, q⟩ => ⟨I1.kIn, ?_⟩) he hpl
  exact run_fn F hr hb .nil hx I1 r q
end
/-! ### own exceptions -/
/-- LineError.__init__ -/
def spLE (K : PySem.W.Frag) : Sp := fun vs H Q _ => ∃ (a C : Addr) (w t : V), vs = [.ref a, w, t] ∧ OexC K C ∧ PySem.W.findIn K (.ref C) "word" = some none ∧ H a = some (exo a C none) ∧
  ∀ d, H d = none → d ≠ a → Q .non (upd (upd H d (exd d [(("word" : Str), w)])) a (exo a C (some d)))
/-- a class below it, its name, its field -/
def spIni (K : PySem.W.Frag) (C : Addr) (nm fld : Str) : Sp := fun vs H Q _ => ∃ (a : Addr) (i : Int), vs = [.ref a, .int i] ∧ i.natAbs.log2 < 1000 ∧ H a = some (exo a C none) ∧
  ∀ d, H d = none → d ≠ a → Q .non (upd (upd (upd H d (exd d [(("word" : Str), .str nm)])) a (exo a C (some d))) d (exd d [(fld, .int i), (("word" : Str), .str nm)]))
def XcOk (P : Program) (w : World) (K : PySem.W.Frag) (mg : Str → Option Value) (base : Heap) (k : Nat) (nm : Str) (C : Addr) (sp : Sp) : Prop :=
  ∃ (fI : Addr) (fd : FuncData) (ps : List Str), OexC K C ∧ PySem.W.findIn K (.ref C) "__init__" = some (some (.ref fI)) ∧ PySem.W.typeIn K (.ref fI) = some (.type "function") ∧ FnOk P w K mg base CX0 k fI fd ps sp ∧ Binds K fd ps [] ∧ mg nm = some (.ref C)
theorem XcOk.mono {P : Program} {w : World} {K : PySem.W.Frag} {mg : Str → Option Value} {base : Heap} {j k : Nat} {nm : Str} {C : Addr} {sp : Sp} (x : XcOk P w K mg base j nm C sp) (h : j ≤ k) : XcOk P w K mg base k nm C sp := by
  obtain ⟨fI, fd, ps, a, b, c, d, e⟩ := x
  exact ⟨fI, fd, ps, a, b, c, d.mono h, e⟩
section
variable {X : Cx} {k : Nat} {nm : Str} {C : Addr} {sp : Sp} {e : Expr} {es : List Expr} {ta : TA} {p pos : Pos}
theorem pmk_c (x : XcOk X.prog X.w X.K X.mg X.base k nm C sp) (hr : Room (k + 1) X.A) (hg : Gl X nm) (ha : PA X (e :: es) ta) (hdb : (nm == ("__debug__" : Str)) = false := by decide)
    (he : starEach (e :: es) X.env = (false, eval e X.env) :: starEach es X.env := by rfl) (hpl : (backTo pos (starEach es X.env)).any (·.1) = false := by rfl) : PMk X (.Call (.Name nm p) (e :: es) [] pos) (tMkO C sp [] ta) := by
  obtain ⟨fI, fd, ps, a, b, c, d, e1, g⟩ := x
  exact pmk_oex a b c d hr e1 .nil pass0 hg g ha hdb he hpl
end
theorem mk_inner {K : PySem.W.Frag} {C : Addr} {nm fld : Str} {i : Int} {H1 : Hp} {Q : XK} (hi : i.natAbs.log2 < 1000)
    (q : ∀ H' d, Same H1 H' → H1 d = none → H' d = some (.xd [(fld, .int i), (("word" : Str), .str nm)]) → Q (.ref C) (some d) H') :
    ([V.int i] : List V).length ≤ 1000 ∧ ∀ a, H1 a = none → spIni K C nm fld (.ref a :: ([V.int i] ++ [])) (upd H1 a (exo a C none))
      (fun v H2 => v = .non ∧ ∃ (d : Addr) (fs : List (Str × V)), H2 a = some (exo a C (some d)) ∧ H2 d = some (exd d fs) ∧ H1 d = none ∧ Q (.ref C) (some d) (upd (del H2 a) d (.xd fs))) (fun _ _ _ => False) := by
  refine ⟨by show 1 ≤ 1000; decide, fun a na => ⟨a, i, rfl, hi, upd_same, fun d nd da => ⟨rfl, d, [(fld, .int i), (("word" : Str), .str nm)], ?_, upd_same, ?_, ?_⟩⟩⟩
  · rw [upd_ne da.symm, upd_same]
  · rw [upd_ne da] at nd
    exact nd
  · rw [upd_ne da] at nd
    refine q _ d (fun b o h => ?_) nd upd_same
    have hb : b ≠ d := ne_of_none h nd
    have hba : b ≠ a := ne_of_none h na
    rw [upd_ne hb, del_ne hba, upd_ne hb, upd_ne hba, upd_ne hb, upd_ne hba]
    exact h
/-! ### defs that may let an exception out -/
def CalX (P : Program) (w : World) (K : PySem.W.Frag) (mg : Str → Option Value) (base : Heap) (k : Nat) (nm : Str) (ps : List Str) (sp : Sp) : Prop :=
  ∃ (f : Addr) (fd : FuncData), FnOk P w K mg base (L2.CX P w) k f fd ps sp ∧ mg nm = some (.ref f) ∧ PySem.W.keepIn K (.ref f) = true ∧ Binds K fd ps []
theorem CalX.mono {P : Program} {w : World} {K : PySem.W.Frag} {mg : Str → Option Value} {base : Heap} {j k : Nat} {nm : Str} {ps : List Str} {sp : Sp} (c : CalX P w K mg base j nm ps sp) (h : j ≤ k) : CalX P w K mg base k nm ps sp := by
  obtain ⟨f, fd, a, b, d, e⟩ := c
  exact ⟨f, fd, a.mono h, b, d, e⟩
section
variable {X : Cx} {k : Nat} {nm : Str} {ps : List Str} {sp : Sp} {E : XK} {e : Expr} {es : List Expr} {t : TA} {p pos : Pos}
/-- where it lets nothing out -/
theorem pe_callF (c : CalX X.prog X.w X.K X.mg X.base k nm ps sp) (hr : Room k X.A) (hg : Gl X nm) (ha : PA X (e :: es) t) (hdb : (nm == ("__debug__" : Str)) = false := by decide)
    (he : starEach (e :: es) X.env = (false, eval e X.env) :: starEach es X.env := by rfl) (hpl : (backTo pos (starEach es X.env)).any (·.1) = false := by rfl) :
    PE X (.Call (.Name nm p) (e :: es) [] pos) (tCall sp [] E0 t) := by
  obtain ⟨f, fd, a, b, d, g⟩ := c
  exact pe_call a hr hg b d g .nil passL ha hdb he hpl
/-- where what it lets out is taken -/
theorem pe_callP (c : CalX X.prog X.w X.K X.mg X.base k nm ps sp) (hr : Room k X.A) (hx : Passes (L2.CX X.prog X.w) X E) (hg : Gl X nm) (ha : PA X (e :: es) t) (hdb : (nm == ("__debug__" : Str)) = false := by decide)
    (he : starEach (e :: es) X.env = (false, eval e X.env) :: starEach es X.env := by rfl) (hpl : (backTo pos (starEach es X.env)).any (·.1) = false := by rfl) :
    PE X (.Call (.Name nm p) (e :: es) [] pos) (tCall sp [] E t) := by
  obtain ⟨f, fd, a, b, d, g⟩ := c
  exact pe_call a hr hg b d g .nil hx ha hdb he hpl
end
theorem txt_fits {z : Str} {i : Int} (hz : z.length ≤ 1000) (hi : i.natAbs.log2 < 1000) : (z ++ Str.ofString (toString i)).length ≤ sizeLine := by
  have e := PySem.int_text_length_le (k := 1000) (a := i) (by decide) hi
  rw [PySem.Str.length_append, PySem.ofString_length, PySem.sizeLine_eq]
  omega
/-! ### several clauses, each with the name n (slot i) -/
def asEnds (i : Nat) (D : Ends) : Ends := ⟨fun σ' H' => D.nx (σ'.set i none) H', D.rt, fun σ' H' => D.bk (σ'.set i none) H', fun σ' H' => D.ct (σ'.set i none) H'⟩
def wManyA (K : PySem.W.Frag) (i : Nat) (Wo : WX) (D : Ends) : List (Value × (Addr → Value → Option Addr → TS)) → WX
  | [] => Wo
  | (c, ts) :: r => fun cls d σ H => ∃ b, PySem.W.exmOne K cls c = some b ∧ (b = true → ∀ a, H a = none → ts a cls d (asEnds i D) (σ.set i (some (.ref a))) H) ∧ (b = false → wManyA K i Wo D r cls d σ H)
inductive HdsA (X : Cx) (n : Str) : List ExceptHandler → List (Value × (Addr → Value → Option Addr → TS)) → Prop
  | nil : HdsA X n [] []
  | cons {x : Str} {c : Value} {ts : Addr → Value → Option Addr → TS} {st : Stmt} {sts : List Stmt} {q1 q2 : Pos} {hs : List ExceptHandler} {l : List (Value × (Addr → Value → Option Addr → TS))} (hc : Names X x c)
      (hsu : ∀ (a : Addr) (oe : Obj) (cls : Value) (d : Option Addr) (pn : List (Addr × Obj)), Zc cls d oe → (∃ vs, oe.data = .fields vs) → PSs (X.suite a ((a, oe) :: pn)) (st :: sts) (ts a cls d)) (r : HdsA X n hs l) :
      HdsA X n (.ExceptHandler (some (.Name x q1)) (some n) (st :: sts) q2 :: hs) ((c, ts) :: l)
section
variable {X : Cx} {n : Str} {i : Nat} {bd : List Stmt} {h0 : ExceptHandler} {hs : List ExceptHandler} {l : List (Value × (Addr → Value → Option Addr → TS))} {pos : Pos} {tb : WX → TS} {Wo : WX}
theorem ps_try_manyA (hst : X.stack = X.env :: X.outer) (hfm : X.env.frame = some X.env.locals) (hnd : X.N.Nodup) (hni : X.N[i]? = some n) (hnl : X.env.kindOf n = some .local) (tk : Takes X Wo)
    (hb : ∀ (W : WX) (pn : List (Addr × Obj)) (xe : Value → Shared → Prop), Takes (X.tr pn xe) W → PassesOwn (model X.prog X.w) X.A X.env xe → PSs (X.tr pn xe) bd (tb W))
    (hh : HdsA X n (h0 :: hs) l) : PS X (.Try bd (h0 :: hs) [] [] pos) (fun D σ H => tb (wManyA X.K i Wo D l) D σ H) := by
  refine ⟨fun pins s σ H D I hw => ?_⟩
  have kk := I.ok
  have hfr2 : X.A.frames = some (X.env :: X.outer) := kk.frames.trans (congrArg some hst)
  have hlo : Loc X.env.scope n := Or.inl hnl
  refine wpAny_Try_except (wpAny_mono ((hb (wManyA X.K i Wo D l) (X.pn ++ pins) (fun e z1 => wpAny (model X.prog X.w) X.A (noteFrame e X.env) (fun _ z2 => wpAny (model X.prog X.w) X.A (setFlight e none) (fun _ z3 =>
    wpAny (model X.prog X.w) X.A (handleBy e X.env (h0 :: hs)) (SP X pins D) X.xe z3) X.xe z2) X.xe z1) (fun u z' xx => ?_) PassesOwn.looking).run [] s σ H D (I.toTry _) hw) (fun fl z1 hsp => ?_) (fun _ _ y => y))
  · obtain ⟨a, B, sI, pins', τ, G, cls, d, rfl, J', nb, up, sky, na, hos, hag, wch⟩ := xx
    have J : Inv X pins τ G sI := J'.ofTry kk
    have sky2 : Sky B (X.env :: X.outer) a (Zc cls d) X.env.locals z'.heap := hst ▸ sky
    refine Sky.land Zc.steady hfr2 hfm sky2 fun g3 fl3 up3 => ?_
    have J3 : Inv X pins τ G { z' with heap := g3 } := J.landed nb fl3.1 (up.trans up3) hos hag
    obtain ⟨o3, v3, he3, hz3, hd3⟩ := fl3.there
    have nin : a ∉ frs (X.env :: X.outer) := fun hm => by
      obtain ⟨_, o', e', hnf⟩ := fl3.2.2.1.mem hm
      rw [he3] at e'; cases e'; exact hnf _ hd3
    have nL : a ≠ X.env.locals := fun y => nin (List.mem_filterMap.mpr ⟨X.env, List.mem_cons_self, hfm.trans (congrArg some y.symm)⟩)
    have nF : a ∉ X.fs := fun hm => by
      obtain ⟨e, he, y⟩ := List.mem_filterMap.mp hm
      exact nin (List.mem_filterMap.mpr ⟨e, List.mem_cons_of_mem _ he, y⟩)
    have S3 := J3.suite he3 hd3 na nL nF
    have go : ∀ {hs' : List ExceptHandler} {l' : List (Value × (Addr → Value → Option Addr → TS))}, HdsA X n hs' l' → wManyA X.K i Wo D l' cls d τ G → wpAny (model X.prog X.w) X.A (handleBy (.ref a) X.env hs') (SP X pins D) X.xe { z' with heap := g3 } := by
      intro hs' l' hk
      induction hk with
      | nil =>
        intro wch
        obtain ⟨k1, k2, k3, oe, vs, T, oT, ts', he, hz, hd, h1, hr⟩ := id fl3
        refine wpAny_handleBy_nil ?_
        unfold PySem.passOn
        refine wpAny_bind (wpAny_field he hd h1 ?_)
        have fin : wpAny (model X.prog X.w) X.A (setFlight (.ref a) X.env.frame) (fun _ z4 => wpAny (model X.prog X.w) X.A (throw (.ref a) : Sem Flow) (SP X pins D) X.xe z4) X.xe { z' with heap := g3 } := by
          rw [hfm]
          exact HandSPX.setFlight_upZ fl3 fun h4 hh4 up4 => wpAny_throw (tk _ _ ⟨a, B, sI, pins, τ, G, cls, d, rfl, J, nb, (up.trans up3).trans up4, .inr (.inr (hst ▸ hh4)), na, hos, hag, wch⟩)
        rw [if_neg (by simp : ¬ ((Value.ref T == Value.none) = true))]
        first | exact wpAny_bind (wpAny_pure (wpAny_bind fin)) | exact wpAny_bind fin
      | @cons x c ts st sts q1 q2 hs2 l2 hc hsu r ih =>
        intro wch
        obtain ⟨b, hb1, yes, no⟩ := wch
        refine wpAny_handleBy_cons (codeAny_handlers_test ?_) (fun y => by cases y)
        have LT : PySem.W.Looks (model X.prog X.w) g3 (typeOf (.ref a)) cls := fun A Q E s k q => wpAny_typeOf_ref (k _ _ he3) (hz3.1.symm ▸ q)
        have LM := PySem.W.exm_one (M := model X.prog X.w) J3.kIn LT hb1
        have tst : ∀ {Q : Value → Shared → Prop} {E : Value → Shared → Prop}, Q c { z' with heap := g3 } → wpAny (model X.prog X.w) (X.A.mark (some (.ref a))) (eval (.Name x q1) X.env) Q E { z' with heap := g3 } := fun {Q E} y => by
          rcases hc with ⟨hg, hdb, hm | ⟨hm, hv, hnn⟩⟩
          · exact ld_glob (X := X.suite a ((a, o3) :: (X.pn ++ pins))) S3 hg hm y hdb
          · exact ld_blt (X := X.suite a ((a, o3) :: (X.pn ++ pins))) S3 hg hm hv y hnn hdb
        refine tst (LM.here ?_)
        cases b with
        | false => exact ih (no rfl)
        | true =>
          refine codeAny_handlers_suite_as (HandSPX.lands_againZ fl3 fun g4 fl4 up4 => ?_)
          have J4 : Inv X pins τ G { z' with heap := g4 } := J.landed nb fl4.1 ((up.trans up3).trans up4) hos hag
          obtain ⟨o4, v4, he4, hz4, hd4⟩ := fl4.there
          refine store_ok (X := X.suite a ((a, o4) :: (X.pn ++ pins))) (v := .ref a) (J4.suite he4 hd4 na nL nF) hnd hni hlo rfl (fun s5 S5 => ?_) (.inr hnl)
          refine wpAny_mono ((hsu a o4 cls d (X.pn ++ pins) hz4 ⟨_, hd4⟩).run [] s5 _ G _ S5 (yes rfl a na)) (fun fl z6 hsp => ?_) (fun _ _ y => y.elim)
          have over : ∀ {τ6 : L2.St} {G6 : Hp} {R : Shared → Prop}, Inv (X.suite a ((a, o4) :: (X.pn ++ pins))) [] τ6 G6 z6 → (∀ z7, Inv X pins (τ6.set i none) G6 z7 → R z7) →
              wpAny (model X.prog X.w) X.A (do bindName X.env n .none; unbindBehindTheSuite X.env n q2) (fun _ z7 => R z7) X.xe z6 := fun S6 hq => gone_ok (S6.unsuite kk) hnd hni hnl hq
          cases fl with
          | next => obtain ⟨τ6, G6, S6, q6⟩ := hsp; exact over S6 fun z7 J7 => ⟨_, _, J7, q6⟩
          | brk => obtain ⟨τ6, G6, S6, q6⟩ := hsp; exact over S6 fun z7 J7 => ⟨_, _, J7, q6⟩
          | cont => obtain ⟨τ6, G6, S6, q6⟩ := hsp; exact over S6 fun z7 J7 => ⟨_, _, J7, q6⟩
          | ret u => obtain ⟨v6, τ6, G6, S6, r6, q6⟩ := hsp; exact over S6 fun z7 J7 => ⟨_, _, _, J7, r6, q6⟩
    exact go hh wch
  · cases fl with
    | next => obtain ⟨τ, G, J', q⟩ := hsp; exact wpAny_execs_nil ⟨τ, G, J'.ofTry kk, q⟩
    | brk => obtain ⟨τ, G, J', q⟩ := hsp; exact ⟨τ, G, J'.ofTry kk, q⟩
    | cont => obtain ⟨τ, G, J', q⟩ := hsp; exact ⟨τ, G, J'.ofTry kk, q⟩
    | ret u => obtain ⟨v, τ, G, J', r, q⟩ := hsp; exact ⟨v, τ, G, J'.ofTry kk, r, q⟩
end
/-! ### what a law with lambdas knows of the heap: the bag at b, the tables T, these lists -/
/-- all that is no list stays -/
def NL (H H' : Hp) : Prop := ∀ a o, H a = some o → (∀ xs, o ≠ .lst xs) → H' a = some o
theorem tabs_nl {T : List (Addr × Str)} {H H' : Hp} (t : LamX.Tabs T H) (h : NL H H') : LamX.Tabs T H' := fun p hp => by
  obtain ⟨ps, h1, h2, h3⟩ := t p hp
  refine ⟨ps, h _ _ h1 (fun xs z => by cases z), h2, fun pos cv hc => ?_⟩
  obtain ⟨c, e1, e2⟩ := h3 pos cv hc
  exact ⟨c, e1, h _ _ e2 (fun xs z => by unfold LamX.CodeO at z; cases z)⟩
structure ST (b : Addr × Addr) (T : List (Addr × Str)) (H : Hp) (L : List (Addr × List V)) : Prop where
  bag : Bag b H
  nb : ∀ p ∈ L, p.1 ≠ b.1 ∧ p.1 ≠ b.2
  kn : ∀ p ∈ L, H p.1 = some (.lst p.2)
  tab : LamX.Tabs T H
section
variable {b : Addr × Addr} {T : List (Addr × Str)} {p : Addr} {H H' : Hp} {L L' : List (Addr × List V)} {o o' : List V}
theorem ST.same (h : ST b T H L) (s : Same H H') : ST b T H' L := ⟨h.bag.same s, h.nb, fun q hq => s _ _ (h.kn q hq), h.tab.ext s⟩
theorem ST.mv (h : ST b T H L) (m : Mv b.1 H H') (g : Bag b H') : ST b T H' L := ⟨g, h.nb, fun q hq => m _ _ (h.nb q hq).1 (h.kn q hq), tabs_nl h.tab (fun a o e n => m a o (fun z => by
  obtain ⟨_, _, _, _, _, h1, _⟩ := h.bag
  rw [z, h1] at e
  exact n _ (Option.some.inj e).symm) e)⟩
theorem ST.add (h : ST b T H L) (n : p ≠ b.1) (n2 : p ≠ b.2) (e : H p = some (.lst o)) : ST b T H ((p, o) :: L) :=
  ⟨h.bag, fun q hq => (List.mem_cons.mp hq).elim (fun z => by rw [z]; exact ⟨n, n2⟩) (h.nb q), fun q hq => (List.mem_cons.mp hq).elim (fun z => by rw [z]; exact e) (h.kn q), h.tab⟩
theorem ST.new (h : ST b T H L) (n : H p = none) : ST b T (upd H p (.lst o)) ((p, o) :: L) := (h.same (same_upd n)).add (h.bag.ne n) (h.bag.ne2 n) upd_same
theorem ST.newS (h : ST b T H L) (s : Same H H') (n : H p = none) (e : H' p = some (.lst o)) : ST b T H' ((p, o) :: L) := (h.same s).add (h.bag.ne n) (h.bag.ne2 n) e
theorem ST.newM (h : ST b T H L) (m : Mv b.1 H H') (g : Bag b H') (n : H p = none) (e : H' p = some (.lst o)) : ST b T H' ((p, o) :: L) := (h.mv m g).add (h.bag.ne n) (h.bag.ne2 n) e
theorem ST.sub (h : ST b T H L) (hs : ∀ q ∈ L', q ∈ L) : ST b T H L' := ⟨h.bag, fun q hq => h.nb q (hs q hq), fun q hq => h.kn q (hs q hq), h.tab⟩
theorem ST.get (h : ST b T H L) (hm : (p, o) ∈ L) : H p = some (.lst o) := h.kn _ hm
theorem ST.ne (h : ST b T H L) (hm : (p, o) ∈ L) : p ≠ b.1 := (h.nb _ hm).1
theorem ST.put (h : ST b T H ((p, o) :: L)) (hd : ∀ q ∈ L, q.1 ≠ p) : ST b T (upd H p (.lst o')) ((p, o') :: L) :=
  ⟨h.bag.upd (h.nb _ (.head _)).1 (h.nb _ (.head _)).2, fun q hq => (List.mem_cons.mp hq).elim (fun z => by rw [z]; exact h.nb (p, o) (.head L)) (fun hq => h.nb q (.tail _ hq)),
    fun q hq => (List.mem_cons.mp hq).elim (fun z => by rw [z]; exact upd_same) (fun hq => by rw [upd_ne (hd q hq)]; exact h.kn q (.tail _ hq)), tabs_nl h.tab (fun a u e n => by
      have e2 := h.kn (p, o) (.head _)
      rw [upd_ne (fun z => by rw [z, e2] at e; exact n _ (Option.some.inj e).symm)]
      exact e)⟩
theorem ST.apart (h : ST b T H L) (n : H p = none) : ∀ q ∈ L, q.1 ≠ p := fun q hq => ne_of_none (h.kn q hq) n
theorem ST.nil (g : Bag b H) (t : LamX.Tabs T H) : ST b T H [] := ⟨g, (fun _ h => absurd h List.not_mem_nil), (fun _ h => absurd h List.not_mem_nil), t⟩
theorem ST.extN (h : ST b T H L) (e : LamX.ExtN H H') (t : LamX.Tabs T H') : ST b T H' L := by
  refine ⟨?_, h.nb, fun q hq => e _ _ (h.kn q hq) (fun ps z => by cases z), t⟩
  obtain ⟨ns, i, r, x, c, h1, h2, h3⟩ := h.bag
  exact ⟨ns, i, r, x, c, e _ _ h1 (fun ps z => by cases z), e _ _ h2 (fun ps z => by cases z), h3⟩
end
/-! ### takes, where the slots are as many as the names -/
theorem takes_len {X : Cx} {W : WX} (tk : Takes X W) : Takes X (fun cls d σ H => σ.length = X.N.length → W cls d σ H) := fun u s' x => by
  obtain ⟨a, B, sI, pins, σ, H, cls, d, e, I, nb, up, sky, na, os, ag, w⟩ := x
  exact tk u s' ⟨a, B, sI, pins, σ, H, cls, d, e, I, nb, up, sky, na, os, ag, w I.len⟩
/-- what the law's at makes of a lambda that is refused by one of these classes -/
def TAt (cs : List (Addr × Str)) : (XK → Hp → VK → Prop) → Hp → VK → Prop := fun tl H Q =>
  tl (fun cls d H' => ∃ e ∈ cs, cls = .ref e.1 ∧ ∃ (dd : Addr) (v : V), d = some dd ∧ H' dd = some (.xd [(("at" : Str), v), (("word" : Str), .str e.2)]) ∧ ∀ p, H' p = none → Q (.ref p) (upd H' p (.lst [.str e.2, v]))) H (fun _ _ => False)
/-- a class of refusals with a place -/
structure AtC (K : PySem.W.Frag) (mg : Str → Option Value) (nm : Str) (C : Addr) : Prop where
  gC : mg nm = some (.ref C)
  xf : XfC K C
  no : PySem.W.findIn K (.ref C) "at" = some none
theorem set_get {σ : L2.St} {i : Nat} {v : Option V} (h : i < σ.length) : (σ.set i v)[i]? = some v := by
  rw [List.getElem?_set_self h]
/-! ### a law that hands lambdas to a def -/
def LamTo (X : Cx) (T : List (Addr × Str)) (nm : Str) (TT : (XK → Hp → VK → Prop) → Hp → VK → Prop) : Prop :=
  ∀ {params : Arguments} {body : Expr} {scope : Scope} {t : XK → TE} {p lpos pos : Pos} {k : Nat}, Room (k + 2) X.A → LamX.LamS X.env.scope scope → defaultsOf params X.env = ([], []) →
    (∀ (q : Str) (cl : List (Str × Addr)) (pm cv ctv : Value), bindArgs (PySem.W.kla_fn "<lambda>" q params body scope cl pm cv ctv) ⟨[], []⟩ = pure []) →
    (∀ (A : Around) (outer : List Env) (s : Shared) (H : Hp) (E : XK) (f c' : Addr), Room k (A.deeper (LamX.lamEnv X scope s.heap.objs.size f c')) → PE (LamX.lamCx X A outer s H E scope f c') body (t E)) →
    PE X (.Call (.Name nm p) [.Lambda params body scope lpos] [] pos) (LamX.tLam T TT t)
theorem okL {P : Program} {w : World} {K : PySem.W.Frag} {mg : Str → Option Value} {base : Heap} {x qual : Str} {st : Stmt} {f c : Addr} {N ps : List Str} {k : Nat} {sp : Sp} {oc : Value} {od an : Option Addr} {osl : Array (Option Value)} {kV doc pm ct : Value}
    (lk : K.lookup f = some ⟨oc, od, .func (PySem.W.fnOf x qual (defArgs st) (defBody st) (defScope st) .none kV doc pm an (.ref c) ct), osl⟩) (hcd : PySem.W.codeIn K (.ref c) qual = true) (S : FnScope N ps (defScope st)) (len : ∀ vs H Q E, sp vs H Q E → vs.length = ps.length)
    (hbody : ∀ (A : Around) (outer : List Env) (s : Shared) (H : Hp) (vs : List V) (Q : VK) (E : XK), Room k (A.deeper (envOfC qual (defScope st) s.heap.objs.size f (.ref c))) → sp vs H Q E →
      ∃ t, PSs (cxOf CX0 P w K mg base N qual (defScope st) f (.ref c) A outer s H E).nox (defBody st) t ∧ t { nx := fun _ H' => Q .non H', rt := Q } (L2.start N vs) H) :
    FnOk P w K mg base CX0 (k + 1) f (PySem.W.fnOf x qual (defArgs st) (defBody st) (defScope st) .none kV doc pm an (.ref c) ct) ps sp := by
  refine fn_of lk hcd S len fun A outer s H vs Q E hr hsp => ?_
  obtain ⟨t, h, q⟩ := hbody A outer s H vs Q E hr hsp
  exact ⟨t, h.nox, q⟩
/-! ### a class of refusals without a value -/
def spIni0 (K : PySem.W.Frag) (C : Addr) (nm : Str) : Sp := fun vs H Q _ => ∃ (a : Addr), vs = [.ref a] ∧ H a = some (exo a C none) ∧ ∀ d, H d = none → d ≠ a → Q .non (upd (upd H d (exd d [(("word" : Str), .str nm)])) a (exo a C (some d)))
section
variable {X : Cx} {k : Nat} {nm : Str} {C : Addr} {sp : Sp} {p pos : Pos}
theorem pmk_c0 (x : XcOk X.prog X.w X.K X.mg X.base k nm C sp) (hr : Room (k + 1) X.A) (hg : Gl X nm) (hdb : (nm == ("__debug__" : Str)) = false := by decide) : PMk X (.Call (.Name nm p) [] [] pos) (tMkO C sp [] tNil) := by
  obtain ⟨fI, fd, ps, T, iC, tI, F1, hb, hm⟩ := x
  intro pins s σ H Q I h
  obtain ⟨nm', q, N, bs, bm, sn, sub, ab, col, dd, k0, k1, k2, k3, k5, hC, hbm⟩ := T.cls
  refine wpAny_Call_Name_kw (ld_glob I hg hm ?_ hdb)
  refine PySem.W.callWith_K0 I.kIn T.kC ?_
  show wpAny _ _ (call (.ref C) []) _ _ _
  have q1 : ∀ a, H a = none → sp (.ref a :: ([] ++ [])) (upd H a (exo a C none)) _ _ := h.2
  obtain ⟨hp, g, dr, tk, os⟩ := s
  have hsz : hp.objs.size ≤ hp.objs.size + 1 := Nat.le_succ _
  have hq := q1 (hp.objs.size + 1) (I.hok.fresh hsz)
  have kk : ∀ b o, hp.get? b = some o → ((hp.push (PySem.W.kdv_tup [])).push (PySem.HandSPX.excO C hp.objs.size)).get? b = some o := fun b o e => Heap.get?_push_of_some _ (Heap.get?_push_of_some _ e)
  have hget : ((hp.push (PySem.W.kdv_tup [])).push (PySem.HandSPX.excO C hp.objs.size)).get? (hp.objs.size + 1) = some (PySem.HandSPX.excO C hp.objs.size) := by heap_get
  have I2 : Inv X pins σ (upd H (hp.objs.size + 1) (exo (hp.objs.size + 1) C none)) ⟨(hp.push (PySem.W.kdv_tup [])).push (PySem.HandSPX.excO C hp.objs.size), g, dr, tk, os⟩ :=
    I.laid (t' := tk) (a := hp.objs.size + 1) (o := exo (hp.objs.size + 1) C none) (h' := (hp.push (PySem.W.kdv_tup [])).push (PySem.HandSPX.excO C hp.objs.size)) kk hsz (exo_ok hget)
  have r2 : Vals [V.ref (hp.objs.size + 1)] [Value.ref (hp.objs.size + 1)] := .cons rfl .nil
  have hl : ([Value.ref (hp.objs.size + 1)] ++ []).length = ps.length := (F1.len _ _ _ _ hq)
  refine wpAny_call (PySem.HandSPX.call_own F.excBase_ValueError (fun Y => PySem.HandSPX.refsVE_contains Y bm hbm) (I.kIn _ _ hC) (PySem.W.looks_findIn I.kIn iC) (fun self => PySem.W.bind_fn I.kIn self tI) (Nat.zero_le _)
    (codeAny_mono (F1.run _ X.stack _ _ ⟨[Value.ref (hp.objs.size + 1)], []⟩ [Value.ref (hp.objs.size + 1)] _ _ (fun _ _ _ => False) (hr.make C [] []) (I2.env0.make C [] []) (hb _ [Value.ref (hp.objs.size + 1)] I2.kIn hl) r2 hq) fun r s' hq' => ?_))
  cases r with
  | error er => exact (show False from hq').elim
  | ok fl =>
    cases fl with
    | ret u =>
      obtain ⟨v, H2, os2, bare2, un2, hok2, rv, ev, d, fs, ea, ed, hd1, q2⟩ := hq'
      subst ev
      obtain ⟨h2, g2, d2, t2, os'⟩ := s'
      exact ⟨rv, mk_end (raises_own T.exC T.tyC) I hsz kk un2 hok2 os2 bare2 ea ed hd1 q2⟩
    | next => exact False.elim hq'
    | brk => exact False.elim hq'
    | cont => exact False.elim hq'
end
theorem mk_inner0 {K : PySem.W.Frag} {C : Addr} {nm : Str} {H1 : Hp} {Q : XK}
    (q : ∀ H' d, Same H1 H' → H1 d = none → H' d = some (.xd [(("word" : Str), .str nm)]) → Q (.ref C) (some d) H') :
    ([] : List V).length ≤ 1000 ∧ ∀ a, H1 a = none → spIni0 K C nm (.ref a :: (([] : List V) ++ [])) (upd H1 a (exo a C none))
      (fun v H2 => v = .non ∧ ∃ (d : Addr) (fs : List (Str × V)), H2 a = some (exo a C (some d)) ∧ H2 d = some (exd d fs) ∧ H1 d = none ∧ Q (.ref C) (some d) (upd (del H2 a) d (.xd fs))) (fun _ _ _ => False) := by
  refine ⟨Nat.zero_le _, fun a na => ⟨a, rfl, upd_same, fun d nd da => ⟨rfl, d, [(("word" : Str), .str nm)], upd_same, ?_, ?_, ?_⟩⟩⟩
  · rw [upd_ne da, upd_same]
  · rw [upd_ne da] at nd
    exact nd
  · rw [upd_ne da] at nd
    refine q _ d (fun b o h => ?_) nd upd_same
    have hb : b ≠ d := ne_of_none h nd
    have hba : b ≠ a := ne_of_none h na
    rw [upd_ne hb, del_ne hba, upd_ne hba, upd_ne hb, upd_ne hba]
    exact h
/-- what the law's tried makes of a lambda: told, or refused by the class at C, whose word it tells -/
def TTried (C : Addr) (nm : Str) : (XK → Hp → VK → Prop) → Hp → VK → Prop := fun tl H Q =>
  tl (fun cls d H' => cls = .ref C ∧ ∃ (dd : Addr) (fs : List (Str × V)), d = some dd ∧ H' dd = some (.xd fs) ∧ fs.lookup ("word" : Str) = some (.str nm) ∧ ∀ p, H' p = none → Q (.ref p) (upd H' p (.tup [.str "refused", .str nm]))) H
    (fun v H1 => ([V.str "told", v] : List V).length ≤ sizeLine ∧ ∀ p, H1 p = none → Q (.ref p) (upd H1 p (.tup [.str "told", v])))
/-! ### a def called by keywords alone -/
def gK {α : Type} (perm : List α → List α) : List α → List α → List α
  | [], ws => perm ws
  | _ :: _, _ => []
section
variable {X : Cx} {CX : CXT} {k : Nat} {f : Addr} {fd : FuncData} {ps ks : List Str} {sp : Sp} {E : XK} {x : Str} {p pos : Pos} {kws : List Keyword} {tk : TA} {g : List Value → List Value → List Value} {gV : List V → List V → List V}
theorem pe_callK0 (F : FnOk X.prog X.w X.K X.mg X.base CX k f fd ps sp) (hr : Room k X.A) (hg : Gl X x) (hm : X.mg x = some (.ref f)) (hk : PySem.W.keepIn X.K (.ref f) = true) (hb : KBinds X.K fd ps ks g gV) (hx : Passes CX X E) (hkw : PK X kws tk)
    (hall : ((backToKw pos (keywordEach kws X.env)).all fun x => x.1.isSome) = true := by rfl) (hks : (backToKw pos (keywordEach kws X.env)).filterMap (·.1) = ks := by rfl) (hdb : (x == ("__debug__" : Str)) = false := by decide)
    (hpl : ((backTo pos (starEach [] X.env)).any (·.1) || (backToKw pos (keywordEach kws X.env)).any fun x => x.1.isNone) = false := by rfl) : PE X (.Call (.Name x p) [] kws pos) (tCallK sp gV E tNil tk) := by
  refine ⟨fun pins s σ H Q I h => wpAny_Call_Name_kw (ld_glob I hg hm ?_ hdb)⟩
  refine PySem.W.callWith_KW0 (I.ok.mod.kin) hk hall (thn (hkw.run pos pins s σ H (fun zs H2 => sp (gV [] zs) H2 Q E) I h) fun ws s2 x => ?_) hpl
  obtain ⟨zs, H2, I2, rz, q2⟩ := x
  refine ⟨I2.kIn, ?_⟩
  rw [hks]
  exact run_fnk F hr hb hx I2 .nil rz q2
end
def CalK (P : Program) (w : World) (K : PySem.W.Frag) (mg : Str → Option Value) (base : Heap) (k : Nat) (nm : Str) (ps ks : List Str) (gV : List V → List V → List V) (sp : Sp) : Prop :=
  ∃ (f : Addr) (fd : FuncData) (g : List Value → List Value → List Value), FnOk P w K mg base (L2.CX P w) k f fd ps sp ∧ mg nm = some (.ref f) ∧ PySem.W.keepIn K (.ref f) = true ∧ KBinds K fd ps ks g gV
theorem CalK.mono {P : Program} {w : World} {K : PySem.W.Frag} {mg : Str → Option Value} {base : Heap} {j k : Nat} {nm : Str} {ps ks : List Str} {gV : List V → List V → List V} {sp : Sp} (c : CalK P w K mg base j nm ps ks gV sp) (h : j ≤ k) : CalK P w K mg base k nm ps ks gV sp := by
  obtain ⟨f, fd, g, a, b, d, e⟩ := c
  exact ⟨f, fd, g, a.mono h, b, d, e⟩
section
variable {X : Cx} {k : Nat} {ps ks : List Str} {sp : Sp} {nm : Str} {p pos : Pos} {kws : List Keyword} {tk : TA} {gV : List V → List V → List V}
theorem pe_callKF (c : CalK X.prog X.w X.K X.mg X.base k nm ps ks gV sp) (hr : Room k X.A) (hg : Gl X nm) (hkw : PK X kws tk)
    (hall : ((backToKw pos (keywordEach kws X.env)).all fun x => x.1.isSome) = true := by rfl) (hks : (backToKw pos (keywordEach kws X.env)).filterMap (·.1) = ks := by rfl) (hdb : (nm == ("__debug__" : Str)) = false := by decide)
    (hpl : ((backTo pos (starEach [] X.env)).any (·.1) || (backToKw pos (keywordEach kws X.env)).any fun x => x.1.isNone) = false := by rfl) : PE X (.Call (.Name nm p) [] kws pos) (tCallK sp gV E0 tNil tk) := by
  obtain ⟨f, fd, g, a, b, d, e⟩ := c
  exact pe_callK0 a hr hg b d e passL hkw hall hks hdb hpl
end
def two {α : Type} : List α → List α
  | [a, b] => [b, a]
  | _ => []
theorem kb_one {K : PySem.W.Frag} {x qual y : Str} {st : Stmt} {f : Addr} {fd : FuncData} (F : Fun K x qual st f fd) (h : ∀ (kV doc pm : Value) (an : Option Addr) (cdv ct : Value) (u : Value), bindArgs (PySem.W.fnOf x qual (defArgs st) (defBody st) (defScope st) .none kV doc pm an cdv ct) ⟨[], [(y, u)]⟩ = pure [(y, u)]) :
    KBinds K fd [y] [y] (gK id) (gK id) := by
  refine ⟨fun s us ws X hl M A E Q q => ?_, fun {vs us zs ws} r rz => ?_⟩
  · obtain ⟨oc, od, kV, doc, pm, an, cdv, ct, osl, rfl, _⟩ := F.ex
    cases us with
    | cons _ _ => exact absurd hl (by show 0 ≠ 1; decide)
    | nil =>
      match ws, hl with
      | [u], _ =>
        show wpAny M A (bindArgs _ ⟨[], [(y, u)]⟩) Q E s
        rw [h]
        exact wpAny_pure q
  · cases r with
    | nil => exact rz
    | cons _ _ => exact .nil
theorem kb_two {K : PySem.W.Frag} {x qual y z : Str} {st : Stmt} {f : Addr} {fd : FuncData} (F : Fun K x qual st f fd) (h : ∀ (kV doc pm : Value) (an : Option Addr) (cdv ct : Value) (u v : Value), bindArgs (PySem.W.fnOf x qual (defArgs st) (defBody st) (defScope st) .none kV doc pm an cdv ct) ⟨[], [(z, u), (y, v)]⟩ = pure [(y, v), (z, u)]) :
    KBinds K fd [y, z] [z, y] (gK two) (gK two) := by
  refine ⟨fun s us ws X hl M A E Q q => ?_, fun {vs us zs ws} r rz => ?_⟩
  · obtain ⟨oc, od, kV, doc, pm, an, cdv, ct, osl, rfl, _⟩ := F.ex
    cases us with
    | cons _ _ => exact absurd hl (by show 0 ≠ 2; decide)
    | nil =>
      match ws, hl, q with
      | [], hl, q => exact absurd hl (by show 0 ≠ 2; decide)
      | [_], hl, q => exact absurd hl (by show 0 ≠ 2; decide)
      | [u, v], _, q =>
        show wpAny M A (bindArgs _ ⟨[], [(z, u), (y, v)]⟩) Q E s
        rw [h]
        exact wpAny_pure q
      | _ :: _ :: _ :: _, hl, q => exact absurd hl (by show 0 ≠ 2; decide)
  · cases r with
    | cons _ _ => exact .nil
    | nil =>
      cases rz with
      | nil => exact .nil
      | cons a r => cases r with
        | nil => exact .nil
        | cons b r => cases r with
          | nil => exact .cons b (.cons a .nil)
          | cons _ _ => exact .nil
/-- what the law's most makes of a lambda that is refused by the class at C -/
def TMost (C : Addr) (nm : Str) : (XK → Hp → VK → Prop) → Hp → VK → Prop := fun tl H Q =>
  tl (fun cls d H' => cls = .ref C ∧ ∃ (dd : Addr) (v : V), d = some dd ∧ H' dd = some (.xd [(("most" : Str), v), (("word" : Str), .str nm)]) ∧ ∀ p, H' p = none → Q (.ref p) (upd H' p (.lst [.str nm, v]))) H (fun _ _ => False)
end WB
namespace WB
open PySem PySem.Spec PyProof.Rows L2
/-! ### lambdas that are kept in a list -/
abbrev lamO (X : Cx) (params : Arguments) (body : Expr) (scope : Scope) (pm : Value) (c' : Addr) (ctv : Value) : Obj := PySem.W.kla_obj "<lambda>" (X.env.qual ++ "<lambda>") params body scope (cloFrom X.env.cells scope.names []) pm c' ctv
section
variable {X : Cx} {pins : List (Addr × Obj)} {σ : L2.St} {H : Hp} {s : Shared}
theorem inv_pin (I : Inv X pins σ H s) (hst : X.stack = X.env :: X.outer) (hfm : X.env.frame = some X.env.locals) {f : Addr} {o : Obj} (hf : s.heap.get? f = some o) (hn : H f = none) (hfr : f ∉ frs X.stack) (hd : ∀ v, o.data ≠ .cell v) : Inv X (pins ++ [(f, o)]) σ H s := by
  have nL : f ≠ X.env.locals := fun y => hfr (List.mem_filterMap.mpr ⟨X.env, by rw [hst]; exact List.mem_cons_self, hfm.trans (congrArg some y.symm)⟩)
  have nF : f ∉ X.fs := fun hm => by
    obtain ⟨e, he, y⟩ := List.mem_filterMap.mp hm
    exact hfr (List.mem_filterMap.mpr ⟨e, by rw [hst]; exact List.mem_cons_of_mem _ he, y⟩)
  refine { I with pin := fun p hp => ?_ }
  rcases List.mem_append.mp hp with h | h
  · exact I.pin p (List.mem_append_left _ h)
  rcases List.mem_append.mp h with h | h
  · exact I.pin p (List.mem_append_right _ h)
  · rw [List.mem_singleton.mp h]
    exact ⟨hf, hn, nL, nF, hd⟩
theorem inv_unpin {l : List (Addr × Obj)} (I : Inv X (pins ++ l) σ H s) : Inv X pins σ H s := by
  refine { I with pin := fun p hp => I.pin p ?_ }
  rcases List.mem_append.mp hp with h | h
  · exact List.mem_append_left _ h
  · exact List.mem_append_right _ (List.mem_append_left _ h)
end
section
variable {X : Cx} {T : List (Addr × Str)} {c P : Addr} {params : Arguments} {body : Expr} {scope : Scope} {lpos lp py pos : Pos} {y : Str} {i : Nat} {rest : List Stmt} {u : Addr → Addr → TS}
theorem sp_back {X : Cx} {pins l : List (Addr × Obj)} {D : Ends} {fl : Flow} {s : Shared} (kk : Cx.Ok X) (h : SP (X.tr (X.pn ++ (pins ++ l)) X.xe) [] D fl s) : SP X pins D fl s := by
  cases fl with
  | next => obtain ⟨τ, G, J, q⟩ := h; exact ⟨τ, G, inv_unpin (J.ofTry kk), q⟩
  | brk => obtain ⟨τ, G, J, q⟩ := h; exact ⟨τ, G, inv_unpin (J.ofTry kk), q⟩
  | cont => obtain ⟨τ, G, J, q⟩ := h; exact ⟨τ, G, inv_unpin (J.ofTry kk), q⟩
  | ret u => obtain ⟨v, τ, G, J, r, q⟩ := h; exact ⟨v, τ, G, inv_unpin (J.ofTry kk), r, q⟩
/-- xs = [lambda: e] -/
theorem pss_lamset {q : Str} (hq : X.env.qual ++ "<lambda>" = q) (hst : X.stack = X.env :: X.outer) (hfm : X.env.frame = some X.env.locals) (hN : X.N.Nodup) (hi : X.N[i]? = some y) (hy : Loc X.env.scope y) (TB : LamX.TabB X.base X.mg c P) (hcode : X.env.code = .ref c) (hmT : (P, X.env.qual ++ "<lambda>") ∈ T)
    (hu : ∀ p ∈ T, p.1 = P → p.2 = X.env.qual ++ "<lambda>") (L : LamX.LamS X.env.scope scope) (hdef : defaultsOf params X.env = ([], []))
    (hrest : ∀ (f c' : Addr) (pm ctv : Value) (pn' : List (Addr × Obj)), f ∉ frs X.stack → (f, lamO X params body scope pm c' ctv) ∈ pn' → (∀ p ∈ X.pn, p ∈ pn') → PSs (X.tr pn' X.xe) rest (u f c'))
    (hs : swapsWith (.List [.Lambda params body scope lpos] lp) (some (.Name y py)) pos.line X.env = pure false := by rfl) (hl : X.fn y = true ∨ X.env.scope.names.lookup y = some .local := by first | exact .inr rfl | exact .inl rfl) :
    PSs X (.Assign [.Name y py] (.List [.Lambda params body scope lpos] lp) pos :: rest)
      (fun D σ H => LamX.Tabs T H ∧ ∀ (f c' : Addr) (H1 : Hp), LamX.ExtN H H1 → LamX.Tabs T H1 → H1 f = none → H1 c' = some (LamX.CodeO c' q) → ∀ p, H1 p = none → u f c' D (σ.set i (some (.ref p))) (upd H1 p (.lst [.ref f]))) := by
  refine ⟨fun pins s σ H D I h => ?_⟩
  subst hq
  obtain ⟨hT, h⟩ := h
  have kk := I.ok
  refine wpAny_execs_cons (wpAny_Assign_Name (wpAny_List_spliced ?_) hs)
  show wpAny _ _ (spliced [(false, _)]) _ _ _
  refine Calls.spliced_cons (LamX.lam_make2 I TB hcode hmT hu hT hdef (L.has I.ok) fun f c' pm ctv H1 s' I1 eN T1 hf hfn hfr hco => Calls.spliced_nil ⟨(by show 1 ≤ sizeLine; decide), ?_⟩)
  have I2 := inv_pin I1 hst hfm hf hfn hfr (fun v z => by cases z)
  have hfresh := I2.hok.fresh (Nat.le_refl s'.heap.objs.size)
  have I3 : Inv X (pins ++ [(f, lamO X params body scope pm c' ctv)]) σ (upd H1 s'.heap.objs.size (.lst [.ref f])) { s' with heap := s'.heap.push { cls := .type "list", data := .seq (List.toArray [Value.ref f]) } } :=
    I2.laid (t' := s'.toks) (fun b w e => Heap.get?_push_of_some _ e) (Nat.le_refl _) ⟨(by show 1 ≤ sizeLine; decide), [Value.ref f], 0, .cons rfl .nil, Heap.get?_push_size s'.heap rfl⟩
  refine store_ok (v := .ref s'.heap.objs.size) I3 hN hi hy rfl (fun s2 I4 => ?_) hl
  have kr := (hrest f c' pm ctv (X.pn ++ (pins ++ [(f, lamO X params body scope pm c' ctv)])) hfr (List.mem_append_right _ (List.mem_append_right _ (.head _))) (fun p hp => List.mem_append_left _ hp)).run [] s2 _ _ D (I4.toTry X.xe) (h f c' H1 eN T1 hfn hco _ hfresh)
  exact wpAny_mono kr (fun fl z hsp => sp_back kk hsp) (fun _ _ y => y)
variable {p1 p2 p3 p4 : Pos}
/-- xs.append(lambda: e) -/
theorem pss_lamapp {q : Str} (hq : X.env.qual ++ "<lambda>" = q) (hst : X.stack = X.env :: X.outer) (hfm : X.env.frame = some X.env.locals) (hv : PE X (.Name y p1) (tVar i)) (TB : LamX.TabB X.base X.mg c P) (hcode : X.env.code = .ref c) (hmT : (P, X.env.qual ++ "<lambda>") ∈ T)
    (hu : ∀ p ∈ T, p.1 = P → p.2 = X.env.qual ++ "<lambda>") (L : LamX.LamS X.env.scope scope) (hdef : defaultsOf params X.env = ([], []))
    (hrest : ∀ (f c' : Addr) (pm ctv : Value) (pn' : List (Addr × Obj)), f ∉ frs X.stack → (f, lamO X params body scope pm c' ctv) ∈ pn' → (∀ p ∈ X.pn, p ∈ pn') → PSs (X.tr pn' X.xe) rest (u f c'))
    (hbase : attributeBase (.Name y p1) "append" X.env (eval (.Name y p1) X.env) = eval (.Name y p1) X.env := by rfl) (hline : (p2.endLine == p3.line) = true := by rfl)
    (hs : swapsWith (.Call (.Attribute (.Name y p1) "append" p2) [.Lambda params body scope lpos] [] p3) none p4.line X.env = pure false := by rfl) :
    PSs X (.Expr (.Call (.Attribute (.Name y p1) "append" p2) [.Lambda params body scope lpos] [] p3) p4 :: rest)
      (fun D σ H => LamX.Tabs T H ∧ ∃ p xs, σ[i]? = some (some (.ref p)) ∧ H p = some (.lst xs) ∧ xs.length < sizeLine ∧ ∀ (f c' : Addr) (H1 : Hp), LamX.ExtN H H1 → LamX.Tabs T H1 → H1 f = none → H1 c' = some (LamX.CodeO c' q) → u f c' D σ (upd H1 p (.lst (xs ++ [.ref f])))) := by
  refine ⟨fun pins s σ H D I h => ?_⟩
  subst hq
  obtain ⟨hT, p, xs, hσ, hp, hz, h⟩ := h
  have kk := I.ok
  refine wpAny_execs_cons (wpAny_Expr_any ?_ I.quiet hs)
  refine wpAny_Call_method_late (trees := [(false, _)]) hbase (by rfl) hline rfl (thn (hv.run pins s σ H (fun x H1 => x = .ref p ∧ H1 = H) I ⟨_, hσ, rfl, rfl⟩) fun v s1 x => ?_)
  obtain ⟨x, H1, I1, r1, rfl, rfl⟩ := x
  obtain ⟨h1, h2⟩ := tyV_is (T := "list") I1 r1 (.inl ⟨rfl, xs, SqL.of hp⟩)
  refine ⟨"list", "list.append", PySem.F.plainAttrs_list, PySem.F.slot_list_append, PySem.F.type_list_append, h1, h2, ?_⟩
  refine Calls.callWith_builtin (by rfl) (Calls.evalArgs_plain ?_)
  refine Calls.spliced_cons (LamX.lam_make2 I1 TB hcode hmT hu hT hdef (L.has I1.ok) fun f c' pm ctv H2 s' I2 eN T2 hf hfn hfr hco => Calls.spliced_nil ?_)
  have I3 := inv_pin I2 hst hfm hf hfn hfr (fun v z => by cases z)
  have hp2 := eN _ _ hp (fun ps z => by cases z)
  refine thn (mt_append (X := X) (pins ++ [(f, lamO X params body scope pm c' ctv)]) s' σ H2 (.ref p) [.ref f] v [Value.ref f] (fun v H' => H' = upd H2 p (.lst (xs ++ [.ref f]))) I3 r1 (.cons rfl .nil) ⟨p, xs, .ref f, rfl, rfl, hp2, hz, rfl⟩) fun w s2 x => ?_
  obtain ⟨w', H', I4, r4, rfl⟩ := x
  have kr := (hrest f c' pm ctv (X.pn ++ (pins ++ [(f, lamO X params body scope pm c' ctv)])) hfr (List.mem_append_right _ (List.mem_append_right _ (.head _))) (fun p hp => List.mem_append_left _ hp)).run [] s2 _ _ D (I4.toTry X.xe) (h f c' H2 eN T2 hfn hco)
  exact wpAny_mono kr (fun fl z hsp => sp_back kk hsp) (fun _ _ y => y)
end
section
variable {X : Cx} {TT : (XK → Hp → VK → Prop) → Hp → VK → Prop} {x a : Str} {g f c' : Addr} {k : Nat} {pg : Arguments} {bg : List Stmt} {sg : Scope} {dV kV doc pm cdv ct oc pm' ctv : Value} {an od : Option Addr} {osl : Array (Option Value)} {Ng : List Str}
  {params : Arguments} {body ea : Expr} {scope : Scope} {t : XK → TE} {p pos : Pos} {j : Nat}
/-- g(x), where x is a lambda that was kept -/
theorem pe_actname {q : Str} (hq : X.env.qual ++ "<lambda>" = q) (hpin : (f, lamO X params body scope pm' c' ctv) ∈ X.pn) (hfr : f ∉ frs X.stack) (hg : Gl X x) (hm : X.mg x = some (.ref g)) (hk : PySem.W.keepIn X.K (.ref g) = true) (lk : X.K.lookup g = some ⟨oc, od, .func (PySem.W.fnOf x x pg bg sg dV kV doc pm an cdv ct), osl⟩)
    (hcg : PySem.W.codeIn X.K cdv x = true) (hb : L2.Binds X.K (PySem.W.fnOf x x pg bg sg dV kV doc pm an cdv ct) [a] []) (Sg : FnScope Ng [a] sg) (hNg : Ng[0]? = some a) (hva : Vis sg a) (hG : LamX.GivesTo X Ng x sg g cdv bg a (X.env.qual ++ "<lambda>") TT)
    (hr : Room (k + 2) X.A) (L : LamX.LamS X.env.scope scope) (hbind : ∀ (q : Str) (cl : List (Str × Addr)) (pm cv ctv : Value), bindArgs (PySem.W.kla_fn "<lambda>" q params body scope cl pm cv ctv) ⟨[], []⟩ = pure [])
    (hbody : ∀ (A : Around) (outer : List Env) (s : Shared) (H : Hp) (E : XK) (f c' : Addr), Room k (A.deeper (LamX.lamEnv X scope s.heap.objs.size f c')) → PE (LamX.lamCx X A outer s H E scope f c') body (t E)) (ha : PE X ea (tVar j))
    (hdb : (x == ("__debug__" : Str)) = false := by decide) (hd : (a == ("__debug__" : Str)) = false := by decide) (hcd : (a == ("__classdict__" : Str)) = false := by decide)
    (he : starEach [ea] X.env = (false, eval ea X.env) :: starEach [] X.env := by rfl) (hpl : (backTo pos (starEach [] X.env)).any (·.1) = false := by rfl) :
    PE X (.Call (.Name x p) [ea] [] pos) (fun σ H Q => σ[j]? = some (some (.ref f)) ∧ H c' = some (LamX.CodeO c' q) ∧ TT (fun E H' Q' => t E σ H' Q') H Q) := by
  refine ⟨fun pins s σ H Q I h => wpAny_Call_Name_kw (ld_glob I hg hm (PySem.W.callWith_K I.ok.mod.kin hk ?_ he hpl) hdb)⟩
  subst hq
  obtain ⟨hσ, hco, hT⟩ := h
  refine thn ((pa_cons ha pa_nil he).run pos pins s σ H (fun vs H1 => vs = [.ref f] ∧ H1 = H) I ⟨_, hσ, rfl, rfl⟩) fun us s1 y => ?_
  obtain ⟨vs, H1, I1, r1, rfl, rfl⟩ := y
  obtain ⟨w, rfl, rw_⟩ := r1.one
  have rw2 : w = Value.ref f := rw_
  subst rw2
  refine ⟨I1.kIn, ?_⟩
  obtain ⟨hf, hfn, _⟩ := I1.pin _ (List.mem_append_left _ hpin)
  have rc := LamX.run_ofS (CX := C8.CX0) (E := C8.E0) (Q := Q) lk hcg Sg hr I1.env0 (hb s1 [Value.ref f] I1.kIn rfl) (show Vals [V.ref f] [Value.ref f] from .cons rfl .nil) rfl (fun hr' => by
    obtain ⟨t', ht', hq'⟩ := hG f c' s1 H1 Q (fun E H' Q' => t E σ H' Q') (fun W pn xe E p1 p2 tk hW => LamX.pe_act I1 L hf hfn hfr (hbind _ _ _ _ _) tk hW hr' (fun A outer s H hr2 => hbody A outer s H E f c' hr2) hNg hva hd hcd) hco hT
    exact ⟨t', ht'.nox, hq'⟩)
  refine wpAny_call (codeAny_mono rc fun r s2 hq => ?_)
  cases r with
  | error e => exact (show False from hq).elim
  | ok fl =>
    cases fl with
    | next => exact (show False from hq).elim
    | brk => exact (show False from hq).elim
    | cont => exact (show False from hq).elim
    | ret u => exact I1.after hq
theorem pe_or2 {X : Cx} {e : Expr} {t u : TE} (h1 : PE X e t) (h2 : PE X e u) : PE X e (fun σ H Q => t σ H Q ∨ u σ H Q) := ⟨fun pins s σ H Q I h => h.elim (fun h => h1.run pins s σ H Q I h) (fun h => h2.run pins s σ H Q I h)⟩
end
end WB
namespace WB
open PySem PySem.Spec PyProof.Rows L2
/-! ### objects: fields, methods, new ones -/
section
variable {X : Cx} (K : PySem.W.Frag) {e o value : Expr} {f : Str} {pos pos' tpos : Pos} {ta tv : TE} {op : Operator} {rd : V → V → Hp → VK → Prop}
theorem pe_fldK (h : X.K = K) (he : PE X e ta) (hb : attributeBase e f X.env (eval e X.env) = eval e X.env := by rfl) : PE X (.Attribute e f pos) (tFld K ta f) := by subst h; exact pe_fld he hb
theorem ps_fldK (h : X.K = K) (ho : PE X o ta) (hv : PE X value tv) (hs : swapsWith value (some (.Attribute o f pos')) pos.line X.env = pure false := by rfl) : PS X (.Assign [.Attribute o f pos'] value pos) (sFld K ta tv f) := by subst h; exact ps_fld ho hv hs
theorem ps_fldaugK (h : X.K = K) (ho : PE X o ta) (hv : PE X value tv) (hop : InOp X op rd) : PS X (.AugAssign (.Attribute o f tpos) op value pos) (sFldAug K ta tv rd f) := by subst h; exact ps_fldaug ho hv hop
def rTupK (K : PySem.W.Frag) : List V → Hp → VK → Prop := fun xs H Q => ∃ p ys, xs = [.ref p] ∧ ((SqL K H p ys ∧ ∀ l, H l = none → Q (.ref l) (upd H l (.tup ys))) ∨ (SqT K H p ys ∧ Q (.ref p) H))
theorem call_tupleK (h : X.K = K) : CallR X (.type "tuple") (rTupK K) := by subst h; exact call_tuple_of
end
/-- a method of the class at C -/
def CalM (CX : CXT) (P : Program) (w : World) (K : PySem.W.Frag) (mg : Str → Option Value) (base : Heap) (k : Nat) (C : Addr) (m : Str) (ps : List Str) (sp : Sp) : Prop :=
  ∃ (f : Addr) (fd : FuncData), Cls K C ∧ Meth K C m f ∧ FnOk P w K mg base CX k f fd ps sp ∧ Binds K fd ps []
theorem CalM.mono {CX : CXT} {P : Program} {w : World} {K : PySem.W.Frag} {mg : Str → Option Value} {base : Heap} {j k : Nat} {C : Addr} {m : Str} {ps : List Str} {sp : Sp} (c : CalM CX P w K mg base j C m ps sp) (h : j ≤ k) : CalM CX P w K mg base k C m ps sp := by
  obtain ⟨f, fd, a, b, d, e⟩ := c
  exact ⟨f, fd, a, b, d.mono h, e⟩
/-- new things of the class at C -/
def CalN (P : Program) (w : World) (K : PySem.W.Frag) (mg : Str → Option Value) (base : Heap) (k : Nat) (nm : Str) (C : Addr) (ps : List Str) (sp : Sp) : Prop :=
  ∃ (f : Addr) (fd : FuncData), Mk K C f ∧ FnOk P w K mg base CX0 k f fd ps sp ∧ mg nm = some (.ref C) ∧ Binds K fd ps []
theorem CalN.mono {P : Program} {w : World} {K : PySem.W.Frag} {mg : Str → Option Value} {base : Heap} {j k : Nat} {nm : Str} {C : Addr} {ps : List Str} {sp : Sp} (c : CalN P w K mg base j nm C ps sp) (h : j ≤ k) : CalN P w K mg base k nm C ps sp := by
  obtain ⟨f, fd, a, b, d, e⟩ := c
  exact ⟨f, fd, a, b.mono h, d, e⟩
section
variable {X : Cx} {k : Nat} {C : Addr} {m nm : Str} {ps : List Str} {sp : Sp} {E : XK} {pos apos p : Pos} {e o : Expr} {es : List Expr} {ta : TE} {t : TA} {pl : Sem Bool}
theorem pe_methC (ho : PE X o ta) (c : CalM CX0 X.prog X.w X.K X.mg X.base k C m ps sp) (hr : Room k X.A) (ha : PA X (e :: es) t) (hs : starEach (e :: es) X.env = (false, eval e X.env) :: starEach es X.env := by rfl) (hpl : (backTo pos (starEach es X.env)).any (·.1) = false := by rfl)
    (hc : eval (.Call (.Attribute o m apos) (e :: es) [] pos) X.env = (do
      let ov ← eval o X.env
      standAt apos.atName
      let (f, first) ← holding [ov] (getMethod ov m pl)
      callWith pos f first (backTo pos (starEach (e :: es) X.env)) (backToKw pos (keywordEach [] X.env))) := by rfl) : PE X (.Call (.Attribute o m apos) (e :: es) [] pos) (tMeth C m sp [] E0 ta t) := by
  obtain ⟨f, fd, a, b, d, g⟩ := c
  exact pe_meth ho a b d hr g .nil pass0 ha hs hpl hc
theorem pe_methC0 (ho : PE X o ta) (c : CalM CX0 X.prog X.w X.K X.mg X.base k C m ps sp) (hr : Room k X.A)
    (hc : eval (.Call (.Attribute o m apos) [] [] pos) X.env = (do
      let ov ← eval o X.env
      standAt apos.atName
      let (f, first) ← holding [ov] (getMethod ov m pl)
      callWith pos f first (backTo pos (starEach [] X.env)) (backToKw pos (keywordEach [] X.env))) := by rfl) : PE X (.Call (.Attribute o m apos) [] [] pos) (tMeth C m sp [] E0 ta tNil) := by
  obtain ⟨f, fd, a, b, d, g⟩ := c
  exact pe_meth0 ho a b d hr g .nil pass0 hc
/-- a method that may let an exception out, where it lets out none -/
theorem pe_methF (ho : PE X o ta) (c : CalM (L2.CX X.prog X.w) X.prog X.w X.K X.mg X.base k C m ps sp) (hr : Room k X.A) (ha : PA X (e :: es) t) (hs : starEach (e :: es) X.env = (false, eval e X.env) :: starEach es X.env := by rfl) (hpl : (backTo pos (starEach es X.env)).any (·.1) = false := by rfl)
    (hc : eval (.Call (.Attribute o m apos) (e :: es) [] pos) X.env = (do
      let ov ← eval o X.env
      standAt apos.atName
      let (f, first) ← holding [ov] (getMethod ov m pl)
      callWith pos f first (backTo pos (starEach (e :: es) X.env)) (backToKw pos (keywordEach [] X.env))) := by rfl) : PE X (.Call (.Attribute o m apos) (e :: es) [] pos) (tMeth C m sp [] E0 ta t) := by
  obtain ⟨f, fd, a, b, d, g⟩ := c
  exact pe_meth ho a b d hr g .nil passL ha hs hpl hc
theorem pe_methP (ho : PE X o ta) (c : CalM (L2.CX X.prog X.w) X.prog X.w X.K X.mg X.base k C m ps sp) (hr : Room k X.A) (hx : Passes (L2.CX X.prog X.w) X E) (ha : PA X (e :: es) t) (hs : starEach (e :: es) X.env = (false, eval e X.env) :: starEach es X.env := by rfl) (hpl : (backTo pos (starEach es X.env)).any (·.1) = false := by rfl)
    (hc : eval (.Call (.Attribute o m apos) (e :: es) [] pos) X.env = (do
      let ov ← eval o X.env
      standAt apos.atName
      let (f, first) ← holding [ov] (getMethod ov m pl)
      callWith pos f first (backTo pos (starEach (e :: es) X.env)) (backToKw pos (keywordEach [] X.env))) := by rfl) : PE X (.Call (.Attribute o m apos) (e :: es) [] pos) (tMeth C m sp [] E ta t) := by
  obtain ⟨f, fd, a, b, d, g⟩ := c
  exact pe_meth ho a b d hr g .nil hx ha hs hpl hc
theorem pe_makeC0 (c : CalN X.prog X.w X.K X.mg X.base k nm C ps sp) (hr : Room (k + 1) X.A) (hg : Gl X nm) (hdb : (nm == ("__debug__" : Str)) = false := by decide) : PE X (.Call (.Name nm p) [] [] pos) (tMake C sp [] E0 tNil) := by
  obtain ⟨f, fd, a, b, d, g⟩ := c
  exact pe_make0 a b hr hg d g .nil pass0 hdb
end
/-! ### heaps that keep their lists -/
/-- lists, tuples and what is held still stay -/
def Lk (H H' : Hp) : Prop := ∀ a o, H a = some o → (∃ xs, o = .lst xs) ∨ (∃ xs, o = .tup xs) ∨ (∃ u v, o = .frz u v) → H' a = some o
section
variable {K : PySem.W.Frag}
theorem lk_l {H H' : Hp} {a : Addr} {xs : List V} (e : Lk H H') (h : SqL K H a xs) : SqL K H' a xs := by
  rcases h with (h | ⟨o, h⟩) | h
  · exact .inl (.inl (e _ _ h (.inl ⟨_, rfl⟩)))
  · exact .inl (.inr ⟨o, e _ _ h (.inr (.inr ⟨_, _, rfl⟩))⟩)
  · exact .inr h
theorem lk_t {H H' : Hp} {a : Addr} {xs : List V} (e : Lk H H') (h : SqT K H a xs) : SqT K H' a xs := by
  rcases h with (h | ⟨o, h⟩) | h
  · exact .inl (.inl (e _ _ h (.inr (.inl ⟨_, rfl⟩))))
  · exact .inl (.inr ⟨o, e _ _ h (.inr (.inr ⟨_, _, rfl⟩))⟩)
  · exact .inr h
mutual
theorem dp_lk {H H' : Hp} (e : Lk H H') : ∀ {d : PyData} {x : V}, Dp K H x d → Dp K H' x d
  | _, _, .non => .non
  | _, _, .bl b => .bl b
  | _, _, .int i => .int i
  | _, _, .str s => .str s
  | _, _, .lst hs ha => .lst (lk_l e hs) (dpa_lk e ha)
  | _, _, .tup hs ha => .tup (lk_t e hs) (dpa_lk e ha)
theorem dpa_lk {H H' : Hp} (e : Lk H H') : ∀ {ds : List PyData} {xs : List V}, DpAll K H xs ds → DpAll K H' xs ds
  | _, _, .nil => .nil
  | _, _, .cons h t => .cons (dp_lk e h) (dpa_lk e t)
end
theorem lk_mv {b : Addr} {H H' : Hp} (m : Mv b H H') (h : ∀ o, H b = some o → ¬ ((∃ xs, o = .lst xs) ∨ (∃ xs, o = .tup xs) ∨ (∃ u v, o = .frz u v))) : Lk H H' := fun a o e k => m a o (fun z => by subst z; exact h o e k) e
theorem lk_same {H H' : Hp} (s : Same H H') : Lk H H' := fun a o e _ => s a o e
end
end WB
namespace WB
open PySem PySem.Spec PyProof.Rows L2
/-! ### things that stand apart in the heap -/
/-- all but what stands at F stays, and nothing vanishes -/
structure MvF (F : List Addr) (H H' : Hp) : Prop where
  kp : ∀ a o, a ∉ F → H a = some o → H' a = some o
  al : ∀ a, H' a = none → H a = none
theorem al_same {H H' : Hp} (s : Same H H') : ∀ a, H' a = none → H a = none := fun _ h => s.free h
theorem al_upd {H H' : Hp} {p : Addr} {o : HO} (s : ∀ a, H' a = none → H a = none) : ∀ a, upd H' p o a = none → H a = none := fun a h => by
  by_cases z : a = p
  · rw [z, upd_same] at h
    cases h
  · rw [upd_ne z] at h
    exact s a h
theorem al_mv {H H' : Hp} {p : Addr} {o : HO} (m : Mv p H H') (e : H' p = some o) : ∀ a, H' a = none → H a = none := fun a h => by
  by_cases z : a = p
  · rw [z, e] at h
    cases h
  · exact m.none z h
section
variable {F : List Addr} {H H' H1 H2 : Hp}
theorem MvF.refl (F : List Addr) (H : Hp) : MvF F H H := ⟨fun _ _ _ h => h, fun _ h => h⟩
theorem MvF.of (s : Same H H') : MvF F H H' := ⟨fun a o _ h => s a o h, al_same s⟩
theorem MvF.mv {p : Addr} {o : HO} (m : Mv p H H') (e : H' p = some o) (hp : p ∈ F) : MvF F H H' := ⟨fun a u n h => m a u (fun z => n (z ▸ hp)) h, al_mv m e⟩
theorem MvF.trans (m : MvF F H H1) (m' : MvF F H1 H2) : MvF F H H2 := ⟨fun a o n h => m'.kp a o n (m.kp a o n h), fun a h => m.al a (m'.al a h)⟩
theorem MvF.upd {p : Addr} {o : HO} (m : MvF F H H') (hp : p ∈ F) : MvF F H (L2.upd H' p o) := ⟨fun a u n h => by rw [upd_ne (fun z : a = p => n (by rw [z]; exact hp))]; exact m.kp a u n h, al_upd m.al⟩
theorem MvF.wide {G : List Addr} (m : MvF F H H') (h : ∀ a ∈ F, a ∈ G) : MvF G H H' := ⟨fun a o n e => m.kp a o (fun z => n (h a z)) e, m.al⟩
/-- where the second one's places are the first one's, or new -/
theorem MvF.trans2 {G : List Addr} (m : MvF F H H1) (m' : MvF G H1 H2) (hg : ∀ a ∈ G, a ∈ F ∨ H a = none) : MvF F H H2 := by
  refine ⟨fun a o n e => m'.kp a o (fun z => ?_) (m.kp a o n e), fun a h => m.al a (m'.al a h)⟩
  rcases hg a z with y | y
  · exact n y
  · rw [y] at e
    cases e
theorem MvF.same (m : MvF F H H') (s : Same H' H1) : MvF F H H1 := m.trans (.of s)
theorem MvF.new (m : MvF F H H') {p : Addr} {o : HO} (n : H' p = none) : MvF F H (L2.upd H' p o) := m.same (same_upd n)
theorem MvF.free (m : MvF F H H') {p : Addr} (h : H' p = none) : H p = none := m.al p h
theorem MvF.toSame (m : MvF [] H H') : Same H H' := fun a o h => m.kp a o List.not_mem_nil h
end
/-- no table of code, no thing of the machine's own -/
def plain : HO → Prop
  | .tbl _ => False
  | .ext _ => False
  | _ => True
structure Th where
  ft : List Addr
  P : Hp → Prop
  loc : ∀ H H' : Hp, (∀ a ∈ ft, ∀ o, H a = some o → H' a = some o) → P H → P H'
  al : ∀ H, P H → ∀ a ∈ ft, ∃ o, H a = some o ∧ plain o
/-- these things stand apart, and the tables of code are as they were -/
structure Hs (T : List (Addr × Str)) (Ts : List Th) (H : Hp) : Prop where
  all : ∀ (i : Nat) (T : Th), Ts[i]? = some T → T.P H
  sep : ∀ (i j : Nat) (x y : Th), i ≠ j → Ts[i]? = some x → Ts[j]? = some y → ∀ a ∈ x.ft, a ∉ y.ft
  tab : LamX.Tabs T H
theorem Th.live (T : Th) {H : Hp} (h : T.P H) {a : Addr} (ha : a ∈ T.ft) : H a ≠ none := by
  obtain ⟨o, e, _⟩ := T.al H h a ha
  rw [e]
  exact fun z => nomatch z
theorem tabs_keep {T : List (Addr × Str)} {H H' : Hp} (t : LamX.Tabs T H) (h : ∀ a o, H a = some o → ¬ plain o → H' a = some o) : LamX.Tabs T H' := fun p hp => by
  obtain ⟨ps, h1, h2, h3⟩ := t p hp
  refine ⟨ps, h _ _ h1 (fun z => z), h2, fun pos cv hc => ?_⟩
  obtain ⟨c, e1, e2⟩ := h3 pos cv hc
  exact ⟨c, e1, h _ _ e2 (fun z => z)⟩
section
variable {T0 : List (Addr × Str)} {Ts Ts' : List Th} {T T' N : Th} {H H' : Hp}
theorem Hs.nil (t : LamX.Tabs T0 H) : Hs T0 [] H := ⟨fun i T h => (by cases h), fun i j x y _ h => (by cases h), t⟩
theorem Hs.nil0 : Hs [] [] H := .nil (fun p hp => absurd hp List.not_mem_nil)
theorem Hs.get (h : Hs T0 Ts H) (i : Nat) (hi : Ts[i]? = some T) : T.P H := h.all i T hi
theorem Hs.same (h : Hs T0 Ts H) (s : Same H H') : Hs T0 Ts H' := ⟨fun i T hi => T.loc H H' (fun a _ o e => s a o e) (h.all i T hi), h.sep, h.tab.ext s⟩
/-- a lambda was made -/
theorem Hs.extN (h : Hs T0 Ts H) (e : LamX.ExtN H H') (t : LamX.Tabs T0 H') : Hs T0 Ts H' := ⟨fun i T hi => T.loc H H' (fun a ha o q => e a o q (fun ps z => by
  obtain ⟨o', e1, e2⟩ := T.al H (h.all i T hi) a ha
  rw [e1] at q
  cases q
  rw [z] at e2
  exact e2)) (h.all i T hi), h.sep, t⟩
theorem Hs.ne (h : Hs T0 Ts H) (i j : Nat) {x y : Th} (hi : Ts[i]? = some x) (hj : Ts[j]? = some y) {a b : Addr} (ha : a ∈ x.ft) (hb : b ∈ y.ft) (n : i ≠ j := by decide) : a ≠ b := fun z => h.sep i j x y n hi hj a ha (z ▸ hb)
theorem Hs.keep (h : Hs T0 Ts H) {i j : Nat} {x : Th} {F : List Addr} (hi : Ts[i]? = some T) (hj : Ts[j]? = some x) (n : j ≠ i) (m : MvF F H H') (hF : ∀ a ∈ F, a ∈ T.ft ∨ H a = none) : x.P H' := by
  refine x.loc H H' (fun a ha o e => m.kp a o (fun z => ?_) e) (h.all j x hj)
  rcases hF a z with y | y
  · exact h.sep j i x T n hj hi a ha y
  · rw [y] at e
    cases e
theorem Hs.op {F : List Addr} (h : Hs T0 Ts H) (i : Nat) (hi : Ts[i]? = some T) (m : MvF F H H') (hF : ∀ a ∈ F, a ∈ T.ft ∨ H a = none) (hp : T'.P H') (hf : ∀ a ∈ T'.ft, a ∈ T.ft ∨ H a = none) : Hs T0 (Ts.set i T') H' := by
  have hil : i < Ts.length := (List.getElem?_eq_some_iff.mp hi).1
  have new : ∀ (j : Nat) (y : Th), j ≠ i → Ts[j]? = some y → ∀ a ∈ T'.ft, a ∉ y.ft := fun j y n hj a ha z => by
    rcases hf a ha with q | q
    · exact h.sep i j T y n.symm hi hj a q z
    · exact y.live (h.all j y hj) z q
  refine ⟨fun j x hj => ?_, fun j k x y n hj hk => ?_, tabs_keep h.tab fun a o e np => m.kp a o (fun z => ?_) e⟩
  · rw [List.getElem?_set] at hj
    by_cases z : i = j
    · rw [if_pos z, if_pos (z ▸ hil)] at hj
      cases hj
      exact hp
    · rw [if_neg z] at hj
      exact h.keep hi hj (fun q => z q.symm) m hF
  · rw [List.getElem?_set] at hj hk
    by_cases z : i = j
    · rw [if_pos z, if_pos (z ▸ hil)] at hj
      rw [if_neg (fun q => n (z.symm.trans q))] at hk
      cases hj
      exact new k y (fun q => n (z.symm.trans q.symm)) hk
    · rw [if_neg z] at hj
      by_cases z2 : i = k
      · rw [if_pos z2, if_pos (z2 ▸ hil)] at hk
        cases hk
        exact fun a ha hb => new j x (fun q => z q.symm) hj a hb ha
      · rw [if_neg z2] at hk
        exact h.sep j k x y n hj hk
  · rcases hF a z with y | y
    · obtain ⟨o', e1, e2⟩ := T.al H (h.all i T hi) a y
      rw [e1] at e
      cases e
      exact np e2
    · rw [y] at e
      cases e
theorem Hs.cons (h : Hs T0 Ts H) (hp : T.P H) (hf : ∀ (j : Nat) (y : Th), Ts[j]? = some y → ∀ a ∈ T.ft, a ∉ y.ft) : Hs T0 (T :: Ts) H := by
  refine ⟨fun j x hj => ?_, fun j k x y n hj hk => ?_, h.tab⟩
  · cases j with
    | zero => cases hj; exact hp
    | succ j => exact h.all j x hj
  · cases j with
    | zero =>
      cases hj
      cases k with
      | zero => exact absurd rfl n
      | succ k => exact hf k y hk
    | succ j =>
      cases k with
      | zero =>
        cases hk
        exact fun a ha hb => hf j x hj a hb ha
      | succ k => exact h.sep j k x y (fun q => n (congrArg (· + 1) q)) hj hk
theorem Hs.new (h : Hs T0 Ts H) (s : Same H H') (hp : T.P H') (hf : ∀ a ∈ T.ft, H a = none) : Hs T0 (T :: Ts) H' :=
  (h.same s).cons hp fun j y hj a ha hb => y.live (h.all j y hj) hb (hf a ha)
/-- a thing changes, and a new one comes -/
theorem Hs.opNew {F : List Addr} (h : Hs T0 Ts H) (i : Nat) (hi : Ts[i]? = some T) (m : MvF F H H') (hF : ∀ a ∈ F, a ∈ T.ft ∨ H a = none) (hp : T'.P H') (hf : ∀ a ∈ T'.ft, a ∈ T.ft ∨ H a = none) (hn : N.P H') (hnf : ∀ a ∈ N.ft, H a = none ∧ a ∉ T'.ft) : Hs T0 (N :: Ts.set i T') H' := by
  refine (h.op i hi m hF hp hf).cons hn fun j y hj a ha hb => ?_
  rw [List.getElem?_set] at hj
  by_cases z : i = j
  · rw [if_pos z, if_pos (z ▸ (List.getElem?_eq_some_iff.mp hi).1)] at hj
    cases hj
    exact (hnf a ha).2 hb
  · rw [if_neg z] at hj
    exact y.live (h.all j y hj) hb (hnf a ha).1
/-- these places of the list, in this order -/
def pickTs (Ts : List Th) : List Nat → List Th
  | [] => []
  | i :: r => match Ts[i]? with
    | some x => x :: pickTs Ts r
    | none => pickTs Ts r
theorem mem_pick : ∀ {is : List Nat} {k : Nat} {x : Th}, (pickTs Ts is)[k]? = some x → ∃ i ∈ is, Ts[i]? = some x
  | [], k, x, h => by cases h
  | i :: r, k, x, h => by
    unfold pickTs at h
    cases e : Ts[i]? with
    | none =>
      rw [e] at h
      obtain ⟨j, hj, q⟩ := mem_pick h
      exact ⟨j, .tail _ hj, q⟩
    | some y =>
      rw [e] at h
      cases k with
      | zero => cases h; exact ⟨i, .head _, e⟩
      | succ k =>
        obtain ⟨j, hj, q⟩ := mem_pick (k := k) h
        exact ⟨j, .tail _ hj, q⟩
theorem Hs.sel (h : Hs T0 Ts H) : ∀ (is : List Nat), is.Nodup → Hs T0 (pickTs Ts is) H
  | [], _ => .nil h.tab
  | i :: r, hn => by
    have hn := List.nodup_cons.mp hn
    have t := h.sel r hn.2
    unfold pickTs
    cases e : Ts[i]? with
    | none => exact t
    | some x =>
      refine t.cons (h.all i x e) fun j y hj => ?_
      obtain ⟨k, hk, q⟩ := mem_pick hj
      exact h.sep i k x y (fun z => hn.1 (z ▸ hk)) e q
theorem Hs.tail {x : Th} (h : Hs T0 (x :: Ts) H) : Hs T0 Ts H := ⟨fun i T hi => h.all (i + 1) T hi, fun i j x y n hi hj => h.sep (i + 1) (j + 1) x y (by omega) hi hj, h.tab⟩
theorem Hs.head {x : Th} (h : Hs T0 (x :: Ts) H) : x.P H := h.all 0 x rfl
theorem Hs.apart {x y : Th} (h : Hs T0 (x :: Ts) H) (hy : y ∈ Ts) : ∀ a ∈ x.ft, a ∉ y.ft := by
  obtain ⟨j, hj⟩ := List.getElem?_of_mem hy
  exact h.sep 0 (j + 1) x y (by omega) rfl hj
theorem Hs.swap {x y : Th} (h : Hs T0 (x :: y :: Ts) H) : Hs T0 (y :: x :: Ts) H :=
  (h.tail.tail.cons h.head fun j z hj => h.apart (.tail _ (List.mem_of_getElem? hj))).cons h.tail.head fun j z hj a ha hb => by
    rcases List.mem_cons.mp (List.mem_of_getElem? hj) with rfl | hm
    · exact h.apart (.head _) a hb ha
    · exact h.tail.apart hm a ha hb
theorem Hs.perm (p : Ts.Perm Ts') : ∀ {H : Hp}, Hs T0 Ts H → Hs T0 Ts' H := by
  induction p with
  | nil => exact fun h => h
  | cons x q ih => exact fun h => (ih h.tail).cons h.head fun j y hj => h.apart (q.mem_iff.mpr (List.mem_of_getElem? hj))
  | swap x y l => exact fun h => h.swap
  | trans _ _ ih1 ih2 => exact fun h => ih2 (ih1 h)
/-- two things seen as one -/
theorem Hs.merge {A B C : Th} (h : Hs T0 (A :: B :: Ts) H) (hp : C.P H) (hf : ∀ a ∈ C.ft, a ∈ A.ft ∨ a ∈ B.ft) : Hs T0 (C :: Ts) H :=
  h.tail.tail.cons hp fun j y hj a ha hb => (hf a ha).elim (fun z => h.apart (.tail _ (List.mem_of_getElem? hj)) a z hb) (fun z => h.tail.apart (List.mem_of_getElem? hj) a z hb)
theorem Hs.drop1 {x y : Th} (h : Hs T0 (x :: y :: Ts) H) : Hs T0 (x :: Ts) H := h.swap.tail
theorem Hs.drop2 {x y z : Th} (h : Hs T0 (x :: y :: z :: Ts) H) : Hs T0 (x :: y :: Ts) H := h.tail.drop1.cons h.head fun j u hj => by
  rcases List.mem_cons.mp (List.mem_of_getElem? hj) with rfl | hm
  · exact h.apart (.head _)
  · exact h.apart (.tail _ (.tail _ hm))
theorem Hs.drop3 {x y z u : Th} (h : Hs T0 (x :: y :: z :: u :: Ts) H) : Hs T0 (x :: y :: z :: Ts) H := h.tail.drop2.cons h.head fun j v hj => by
  rcases List.mem_cons.mp (List.mem_of_getElem? hj) with rfl | hm
  · exact h.apart (.head _)
  rcases List.mem_cons.mp hm with rfl | hm
  · exact h.apart (.tail _ (.head _))
  · exact h.apart (.tail _ (.tail _ (.tail _ hm)))
end
/-! ### the commonest things -/
/-- what stands at a -/
def tO (a : Addr) (o : HO) : Th := ⟨[a], fun H => H a = some o ∧ plain o, fun H H' k h => ⟨k a (.head _) o h.1, h.2⟩, fun H h b hb => by rw [List.mem_singleton.mp hb]; exact ⟨o, h⟩⟩
abbrev tL (a : Addr) (xs : List V) : Th := tO a (.lst xs)
theorem Bag.al {b : Addr × Addr} {H : Hp} (g : Bag b H) : H b.1 ≠ none ∧ H b.2 ≠ none := by
  obtain ⟨ns, i, r, x, c, h1, h2, _⟩ := g
  exact ⟨(by rw [h1]; exact fun z => nomatch z), (by rw [h2]; exact fun z => nomatch z)⟩
def tB (b : Addr × Addr) : Th := ⟨[b.1, b.2], Bag b, fun H H' k h => by
  obtain ⟨ns, i, r, x, c, h1, h2, h3⟩ := h
  exact ⟨ns, i, r, x, c, k _ (.head _) _ h1, k _ (.tail _ (.head _)) _ h2, h3⟩, fun H h a ha => by
  obtain ⟨ns, i, r, x, c, h1, h2, h3⟩ := h
  rcases List.mem_cons.mp ha with rfl | ha
  · exact ⟨_, h1, trivial⟩
  · rw [List.mem_singleton.mp ha]
    exact ⟨_, h2, trivial⟩⟩
theorem in1 {a p : Addr} (h : a ∈ [p]) : a = p := List.mem_singleton.mp h
section
variable {T0 : List (Addr × Str)} {b : Addr × Addr} {Ts : List Th} {H H' : Hp} {p : Addr} {o o' : HO}
theorem Hs.bag (h : Hs T0 (tB b :: Ts) H) : Bag b H := h.get 0 rfl
theorem mvf_bag (m : Mv b.1 H H') (g : Bag b H') : MvF [b.1, b.2] H H' := by
  obtain ⟨ns, i, r, x, c, h1, h2, h3⟩ := g
  exact .mv m h1 (.head _)
theorem Hs.mv (h : Hs T0 (tB b :: Ts) H) (m : Mv b.1 H H') (g : Bag b H') : Hs T0 (tB b :: Ts) H' := h.op (T := tB b) (T' := tB b) 0 rfl (mvf_bag m g) (fun a ha => .inl ha) g (fun a ha => .inl ha)
/-- a draw that tells a new thing -/
theorem Hs.newM (h : Hs T0 (tB b :: Ts) H) (m : Mv b.1 H H') (g : Bag b H') (n : H p = none) (e : H' p = some o) (pl : plain o := by exact trivial) : Hs T0 (tB b :: tO p o :: Ts) H' := by
  have h2 : Hs T0 (tO p o :: tB b :: Ts) H' := (h.opNew (T := tB b) (T' := tB b) (N := tO p o) 0 rfl (mvf_bag m g) (fun a ha => .inl ha) g (fun a ha => .inl ha) ⟨e, pl⟩ (fun a ha => by
    rw [in1 ha]
    refine ⟨n, fun z => ?_⟩
    rcases List.mem_cons.mp z with z | z
    · exact (h.bag.al.1) (z ▸ n)
    · exact (h.bag.al.2) (in1 z ▸ n)))
  exact h2.swap
/-- a new thing at the head -/
theorem Hs.newH (h : Hs T0 Ts H) (s : Same H H') (n : H p = none) (e : H' p = some o) (pl : plain o := by exact trivial) : Hs T0 (tO p o :: Ts) H' := h.new (T := tO p o) s ⟨e, pl⟩ (fun a ha => by rw [in1 ha]; exact n)
theorem Hs.newHU (h : Hs T0 Ts H) (n : H p = none) (pl : plain o := by exact trivial) : Hs T0 (tO p o :: Ts) (upd H p o) := h.newH (same_upd n) n upd_same pl
/-- a new thing, put behind the bag -/
theorem Hs.newB (h : Hs T0 (tB b :: Ts) H) (s : Same H H') (n : H p = none) (e : H' p = some o) (pl : plain o := by exact trivial) : Hs T0 (tB b :: tO p o :: Ts) H' := (h.newH s n e pl).swap
theorem Hs.newU (h : Hs T0 (tB b :: Ts) H) (n : H p = none) (pl : plain o := by exact trivial) : Hs T0 (tB b :: tO p o :: Ts) (upd H p o) := h.newB (same_upd n) n upd_same pl
theorem Hs.put (h : Hs T0 Ts H) (i : Nat) (hi : Ts[i]? = some (tO p o)) (pl : plain o' := by exact trivial) : Hs T0 (Ts.set i (tO p o')) (upd H p o') :=
  h.op i hi (F := [p]) ((MvF.refl [p] H).upd (.head _)) (fun a ha => .inl ha) ⟨upd_same, pl⟩ (fun a ha => .inl ha)
theorem Hs.at (h : Hs T0 Ts H) (i : Nat) (hi : Ts[i]? = some (tO p o)) : H p = some o := (h.get i hi).1
end
/-! ### groups: several things seen as one -/
theorem sep_flat {Ts : List Th} {H : Hp} (h : Hs [] Ts H) : ∀ a ∈ Ts.flatMap (·.ft), ∃ o, H a = some o ∧ plain o := fun a ha => by
  obtain ⟨T, hT, ha⟩ := List.mem_flatMap.mp ha
  obtain ⟨i, hi⟩ := List.getElem?_of_mem hT
  exact T.al H (h.all i T hi) a ha
def tG (Ts : List Th) : Th := ⟨Ts.flatMap (·.ft), fun H => Hs [] Ts H, fun H H' k h => ⟨fun i T hi => T.loc H H' (fun a ha => k a (List.mem_flatMap.mpr ⟨T, List.mem_of_getElem? hi, ha⟩)) (h.all i T hi), h.sep, fun p hp => absurd hp List.not_mem_nil⟩, fun H h a ha => sep_flat h a ha⟩
section
variable {T0 : List (Addr × Str)} {Ts Gs : List Th} {H : Hp}
theorem Hs.tabs0 (h : Hs T0 Ts H) : Hs [] Ts H := ⟨h.all, h.sep, fun p hp => absurd hp List.not_mem_nil⟩
theorem Hs.app : ∀ {As : List Th}, Hs [] As H → Hs T0 Ts H → (∀ x ∈ As, ∀ y ∈ Ts, ∀ a ∈ x.ft, a ∉ y.ft) → Hs T0 (As ++ Ts) H
  | [], _, h, _ => h
  | A :: As, g, h, d => (Hs.app g.tail h (fun x hx => d x (.tail _ hx))).cons g.head fun j y hj a ha hb => by
    rcases List.mem_append.mp (List.mem_of_getElem? hj) with hm | hm
    · exact g.apart hm a ha hb
    · exact d A (.head _) y hm a ha hb
theorem Hs.left : ∀ {As : List Th}, Hs T0 (As ++ Ts) H → Hs [] As H
  | [], _ => .nil (fun p hp => absurd hp List.not_mem_nil)
  | A :: As, h => (Hs.left (As := As) h.tail).cons h.head fun j y hj => h.apart (List.mem_append_left _ (List.mem_of_getElem? hj))
theorem Hs.right : ∀ {As : List Th}, Hs T0 (As ++ Ts) H → Hs T0 Ts H
  | [], h => h
  | _ :: As, h => Hs.right (As := As) h.tail
theorem Hs.cross : ∀ {As : List Th}, Hs T0 (As ++ Ts) H → ∀ x ∈ As, ∀ y ∈ Ts, ∀ a ∈ x.ft, a ∉ y.ft
  | A :: As, h, x, hx, y, hy => by
    rcases List.mem_cons.mp hx with rfl | hx
    · exact h.apart (List.mem_append_right _ hy)
    · exact Hs.cross (As := As) h.tail x hx y hy
theorem Hs.ungroup (h : Hs T0 (tG Ts :: Gs) H) : Hs T0 (Ts ++ Gs) H := Hs.app h.head h.tail (fun x hx y hy a ha hb => h.apart hy a (List.mem_flatMap.mpr ⟨x, hx, ha⟩) hb)
theorem Hs.group (h : Hs T0 (Ts ++ Gs) H) : Hs T0 (tG Ts :: Gs) H := h.right.cons h.left fun j y hj a ha hb => by
  obtain ⟨x, hx, ha⟩ := List.mem_flatMap.mp ha
  exact h.cross x hx y (List.mem_of_getElem? hj) a ha hb
end
section
variable {α : Type} {T0 : List (Addr × Str)} {As : List Th} {Y : List α} {f : α → Th} {w : Nat} {y y' : α} {H : Hp}
theorem perm_at : ∀ {Y : List α} {w : Nat} {y : α}, Y[w]? = some y → (y :: Y.eraseIdx w).Perm Y
  | x :: Y, 0, y, h => by cases h; exact .refl _
  | x :: Y, w + 1, y, h => (List.Perm.swap x y _).trans (.cons x (perm_at (Y := Y) (w := w) h))
theorem erase_set : ∀ (Y : List α) (w : Nat) (y : α), (Y.set w y).eraseIdx w = Y.eraseIdx w
  | [], _, _ => rfl
  | x :: Y, 0, y => rfl
  | x :: Y, w + 1, y => congrArg (x :: ·) (erase_set Y w y)
/-- the w-th one to the head -/
theorem Hs.front (h : Hs T0 (As ++ Y.map f) H) (hy : Y[w]? = some y) : Hs T0 (f y :: (As ++ (Y.eraseIdx w).map f)) H := by
  refine h.perm (List.Perm.trans ?_ List.perm_middle)
  exact .append_left As ((perm_at hy).map f).symm
theorem Hs.back (h : Hs T0 (f y' :: (As ++ (Y.eraseIdx w).map f)) H) (hw : w < Y.length) : Hs T0 (As ++ (Y.set w y').map f) H := by
  have hy : (Y.set w y')[w]? = some y' := by rw [List.getElem?_set, if_pos rfl, if_pos hw]
  have := perm_at hy
  rw [erase_set] at this
  refine h.perm (List.Perm.trans List.perm_middle.symm ?_)
  exact .append_left As (this.map f)
end
end WB
namespace WB
open PySem PySem.Spec PyProof.Rows L2
section
variable {X : Cx} (K : PySem.W.Frag)
theorem cr_sumK (h : X.K = K) (hc : X.calm = true) : CallR X (.builtin "sum") (rSum K) := by subst h; exact cr_sum hc
theorem cr_minK (h : X.K = K) (hc : X.calm = true) : CallR X (.builtin "min") (rMin K) := by subst h; exact cr_min hc
theorem cr_maxK (h : X.K = K) (hc : X.calm = true) : CallR X (.builtin "max") (rMax K) := by subst h; exact cr_max hc
end
/-! ### while, by an invariant and a measure -/
def wN (Pv : L2.St → Hp → Prop) (μ : L2.St → Hp → Nat) (m : Nat) : L2.St → Hp → Prop := fun σ H => Pv σ H ∧ μ σ H < m
theorem wN_ok {Pv : L2.St → Hp → Prop} {μ : L2.St → Hp → Nat} {m : Nat} : ∀ σ' H', wN Pv μ m σ' H' → ∃ m', m' < m ∧ m' = μ σ' H' ∧ Pv σ' H' := fun _ _ h => ⟨_, h.2, rfl, h.1⟩
theorem while_w {c : TT} {tb : TS} {D : Ends} {σ : L2.St} {H : Hp} (Pv : L2.St → Hp → Prop) (μ : L2.St → Hp → Nat) (h0 : Pv σ H)
    (hs : ∀ σ H, Pv σ H → c σ H fun b H1 => if b = true then ∃ N : L2.St → Hp → Prop, (∀ σ' H', N σ' H' → ∃ m', m' < μ σ H ∧ m' = μ σ' H' ∧ Pv σ' H') ∧ tb { D with nx := N, ct := N, bk := D.nx } σ H1 else D.nx σ H1) : tWhile c tb D σ H := by
  refine ⟨fun m σ H => m = μ σ H ∧ Pv σ H, ⟨_, rfl, h0⟩, ?_⟩
  rintro m σ H ⟨rfl, p⟩
  exact hs σ H p
/-! ### defs with keyword-only parameters: n written by place, keywords named ks; gV puts them in the parameters' order -/
def CalW (P : Program) (w : World) (K : PySem.W.Frag) (mg : Str → Option Value) (base : Heap) (k : Nat) (nm : Str) (ps : List Str) (n : Nat) (ks : List Str) (gV : List V → List V → List V) (sp : Sp) : Prop :=
  ∃ (f : Addr) (fd : FuncData) (g : List Value → List Value → List Value), FnOk P w K mg base (L2.CX P w) k f fd ps sp ∧ mg nm = some (.ref f) ∧ PySem.W.keepIn K (.ref f) = true ∧ KBn K fd ps n ks g gV
theorem CalW.mono {P : Program} {w : World} {K : PySem.W.Frag} {mg : Str → Option Value} {base : Heap} {j k n : Nat} {nm : Str} {ps ks : List Str} {gV : List V → List V → List V} {sp : Sp} (c : CalW P w K mg base j nm ps n ks gV sp) (h : j ≤ k) : CalW P w K mg base k nm ps n ks gV sp := by
  obtain ⟨f, fd, g, a, b, d, e⟩ := c
  exact ⟨f, fd, g, a.mono h, b, d, e⟩
/-- with the keyword-only ones left out: dvs their values -/
def CalD (P : Program) (w : World) (K : PySem.W.Frag) (mg : Str → Option Value) (base : Heap) (k : Nat) (nm : Str) (ps : List Str) (dvs : List V) (sp : Sp) : Prop :=
  ∃ (f : Addr) (fd : FuncData) (ds : List Value), FnOk P w K mg base (L2.CX P w) k f fd ps sp ∧ mg nm = some (.ref f) ∧ PySem.W.keepIn K (.ref f) = true ∧ Binds K fd ps ds ∧ Vals dvs ds
theorem CalD.mono {P : Program} {w : World} {K : PySem.W.Frag} {mg : Str → Option Value} {base : Heap} {j k : Nat} {nm : Str} {ps : List Str} {dvs : List V} {sp : Sp} (c : CalD P w K mg base j nm ps dvs sp) (h : j ≤ k) : CalD P w K mg base k nm ps dvs sp := by
  obtain ⟨f, fd, g, a, b, d, e⟩ := c
  exact ⟨f, fd, g, a.mono h, b, d, e⟩
/-- new things of the class at C, by keywords -/
def CalNW (P : Program) (w : World) (K : PySem.W.Frag) (mg : Str → Option Value) (base : Heap) (k : Nat) (nm : Str) (C : Addr) (ps ks : List Str) (gV : List V → List V → List V) (sp : Sp) : Prop :=
  ∃ (f : Addr) (fd : FuncData) (g : List Value → List Value → List Value), Mk K C f ∧ FnOk P w K mg base (L2.CX P w) k f fd ps sp ∧ mg nm = some (.ref C) ∧ KBn K fd ps 1 ks g gV
theorem CalNW.mono {P : Program} {w : World} {K : PySem.W.Frag} {mg : Str → Option Value} {base : Heap} {j k : Nat} {nm : Str} {C : Addr} {ps ks : List Str} {gV : List V → List V → List V} {sp : Sp} (c : CalNW P w K mg base j nm C ps ks gV sp) (h : j ≤ k) : CalNW P w K mg base k nm C ps ks gV sp := by
  obtain ⟨f, fd, g, a, b, d, e⟩ := c
  exact ⟨f, fd, g, a, b.mono h, d, e⟩
/-- and with the keyword-only ones left out -/
def CalND (P : Program) (w : World) (K : PySem.W.Frag) (mg : Str → Option Value) (base : Heap) (k : Nat) (nm : Str) (C : Addr) (ps : List Str) (dvs : List V) (sp : Sp) : Prop :=
  ∃ (f : Addr) (fd : FuncData) (ds : List Value), Mk K C f ∧ FnOk P w K mg base (L2.CX P w) k f fd ps sp ∧ mg nm = some (.ref C) ∧ Binds K fd ps ds ∧ Vals dvs ds
theorem CalND.mono {P : Program} {w : World} {K : PySem.W.Frag} {mg : Str → Option Value} {base : Heap} {j k : Nat} {nm : Str} {C : Addr} {ps : List Str} {dvs : List V} {sp : Sp} (c : CalND P w K mg base j nm C ps dvs sp) (h : j ≤ k) : CalND P w K mg base k nm C ps dvs sp := by
  obtain ⟨f, fd, g, a, b, d, e⟩ := c
  exact ⟨f, fd, g, a, b.mono h, d, e⟩
section
variable {X : Cx} {k n : Nat} {C : Addr} {ps ks : List Str} {sp : Sp} {E : XK} {nm : Str} {p pos : Pos} {e : Expr} {es : List Expr} {kws : List Keyword} {t tk : TA} {gV : List V → List V → List V} {dvs : List V}
theorem pe_callW (c : CalW X.prog X.w X.K X.mg X.base k nm ps n ks gV sp) (hr : Room k X.A) (hx : Passes (L2.CX X.prog X.w) X E) (hg : Gl X nm) (ha : PA X (e :: es) t) (hkw : PK X kws tk)
    (hall : (backToKw pos (keywordEach kws X.env)).all (·.1.isSome) = true := by rfl) (hks : (backToKw pos (keywordEach kws X.env)).filterMap (·.1) = ks := by rfl)
    (hdb : (nm == ("__debug__" : Str)) = false := by decide) (he : starEach (e :: es) X.env = (false, eval e X.env) :: starEach es X.env := by rfl)
    (hpl : ((backTo pos (starEach (e :: es) X.env)).any (·.1) || (backToKw pos (keywordEach kws X.env)).any (·.1.isNone)) = false := by rfl) :
    PE X (.Call (.Name nm p) (e :: es) kws pos) (tCallN n ks.length sp gV E t tk) := by
  obtain ⟨f, fd, g, a, b, d, q⟩ := c
  exact pe_callN a hr hg b d q hx ha hkw hall hks hdb he hpl
theorem pe_callWF (c : CalW X.prog X.w X.K X.mg X.base k nm ps n ks gV sp) (hr : Room k X.A) (hg : Gl X nm) (ha : PA X (e :: es) t) (hkw : PK X kws tk)
    (hall : (backToKw pos (keywordEach kws X.env)).all (·.1.isSome) = true := by rfl) (hks : (backToKw pos (keywordEach kws X.env)).filterMap (·.1) = ks := by rfl)
    (hdb : (nm == ("__debug__" : Str)) = false := by decide) (he : starEach (e :: es) X.env = (false, eval e X.env) :: starEach es X.env := by rfl)
    (hpl : ((backTo pos (starEach (e :: es) X.env)).any (·.1) || (backToKw pos (keywordEach kws X.env)).any (·.1.isNone)) = false := by rfl) :
    PE X (.Call (.Name nm p) (e :: es) kws pos) (tCallN n ks.length sp gV E0 t tk) := pe_callW c hr passL hg ha hkw hall hks hdb he hpl
/-- keywords alone -/
theorem pe_callW0 (c : CalW X.prog X.w X.K X.mg X.base k nm ps 0 ks gV sp) (hr : Room k X.A) (hx : Passes (L2.CX X.prog X.w) X E) (hg : Gl X nm) (hkw : PK X kws tk)
    (hall : (backToKw pos (keywordEach kws X.env)).all (·.1.isSome) = true := by rfl) (hks : (backToKw pos (keywordEach kws X.env)).filterMap (·.1) = ks := by rfl) (hdb : (nm == ("__debug__" : Str)) = false := by decide)
    (hpl : ((backTo pos (starEach [] X.env)).any (·.1) || (backToKw pos (keywordEach kws X.env)).any (·.1.isNone)) = false := by rfl) :
    PE X (.Call (.Name nm p) [] kws pos) (tCallN 0 ks.length sp gV E tNil tk) := by
  obtain ⟨f, fd, g, a, b, d, hb⟩ := c
  refine ⟨fun pins s σ H Q I h => wpAny_Call_Name_kw (ld_glob I hg b ?_ hdb)⟩
  refine PySem.W.callWith_KW0 (I.ok.mod.kin) d hall (thn (hkw.run pos pins s σ H _ I h) fun ws s2 x => ?_) hpl
  obtain ⟨zs, H2, I2, rz, l1, l2, q2⟩ := x
  refine ⟨I2.kIn, ?_⟩
  rw [hks]
  exact run_fnN (us := []) (vs := []) a hr hb hx I2 .nil rz rfl l2 q2
theorem pe_callW0F (c : CalW X.prog X.w X.K X.mg X.base k nm ps 0 ks gV sp) (hr : Room k X.A) (hg : Gl X nm) (hkw : PK X kws tk)
    (hall : (backToKw pos (keywordEach kws X.env)).all (·.1.isSome) = true := by rfl) (hks : (backToKw pos (keywordEach kws X.env)).filterMap (·.1) = ks := by rfl) (hdb : (nm == ("__debug__" : Str)) = false := by decide)
    (hpl : ((backTo pos (starEach [] X.env)).any (·.1) || (backToKw pos (keywordEach kws X.env)).any (·.1.isNone)) = false := by rfl) :
    PE X (.Call (.Name nm p) [] kws pos) (tCallN 0 ks.length sp gV E0 tNil tk) := pe_callW0 c hr passL hg hkw hall hks hdb hpl
/-- the keyword-only ones left out -/
theorem pe_callD (c : CalD X.prog X.w X.K X.mg X.base k nm ps dvs sp) (hr : Room k X.A) (hx : Passes (L2.CX X.prog X.w) X E) (hg : Gl X nm) (ha : PA X (e :: es) t) (hdb : (nm == ("__debug__" : Str)) = false := by decide)
    (he : starEach (e :: es) X.env = (false, eval e X.env) :: starEach es X.env := by rfl) (hpl : (backTo pos (starEach es X.env)).any (·.1) = false := by rfl) :
    PE X (.Call (.Name nm p) (e :: es) [] pos) (tCall sp dvs E t) := by
  obtain ⟨f, fd, ds, a, b, d, q, v⟩ := c
  exact pe_call a hr hg b d q v hx ha hdb he hpl
theorem pe_callDF (c : CalD X.prog X.w X.K X.mg X.base k nm ps dvs sp) (hr : Room k X.A) (hg : Gl X nm) (ha : PA X (e :: es) t) (hdb : (nm == ("__debug__" : Str)) = false := by decide)
    (he : starEach (e :: es) X.env = (false, eval e X.env) :: starEach es X.env := by rfl) (hpl : (backTo pos (starEach es X.env)).any (·.1) = false := by rfl) :
    PE X (.Call (.Name nm p) (e :: es) [] pos) (tCall sp dvs E0 t) := pe_callD c hr passL hg ha hdb he hpl
theorem pe_callD0F (c : CalD X.prog X.w X.K X.mg X.base k nm ps dvs sp) (hr : Room k X.A) (hg : Gl X nm) (hdb : (nm == ("__debug__" : Str)) = false := by decide) :
    PE X (.Call (.Name nm p) [] [] pos) (tCall sp dvs E0 tNil) := by
  obtain ⟨f, fd, ds, a, b, d, q, v⟩ := c
  exact pe_call0 a hr hg b d q v passL hdb
theorem pe_makeW (c : CalNW X.prog X.w X.K X.mg X.base k nm C ps ks gV sp) (hr : Room (k + 1) X.A) (hx : Passes (L2.CX X.prog X.w) X E) (hg : Gl X nm) (hkw : PK X kws tk)
    (hall : (backToKw pos (keywordEach kws X.env)).all (·.1.isSome) = true := by rfl) (hks : (backToKw pos (keywordEach kws X.env)).filterMap (·.1) = ks := by rfl) (hdb : (nm == ("__debug__" : Str)) = false := by decide)
    (hpl : ((backTo pos (starEach [] X.env)).any (·.1) || (backToKw pos (keywordEach kws X.env)).any (·.1.isNone)) = false := by rfl) :
    PE X (.Call (.Name nm p) [] kws pos) (tMakeK C 0 ks.length sp gV E tNil tk) := by
  obtain ⟨f, fd, g, a, b, d, hb⟩ := c
  exact pe_makeK0 a b hr hg d hb hx hkw hall hks hdb hpl
theorem pe_makeWF (c : CalNW X.prog X.w X.K X.mg X.base k nm C ps ks gV sp) (hr : Room (k + 1) X.A) (hg : Gl X nm) (hkw : PK X kws tk)
    (hall : (backToKw pos (keywordEach kws X.env)).all (·.1.isSome) = true := by rfl) (hks : (backToKw pos (keywordEach kws X.env)).filterMap (·.1) = ks := by rfl) (hdb : (nm == ("__debug__" : Str)) = false := by decide)
    (hpl : ((backTo pos (starEach [] X.env)).any (·.1) || (backToKw pos (keywordEach kws X.env)).any (·.1.isNone)) = false := by rfl) :
    PE X (.Call (.Name nm p) [] kws pos) (tMakeK C 0 ks.length sp gV E0 tNil tk) := pe_makeW c hr passL hg hkw hall hks hdb hpl
theorem pe_makeDF (c : CalND X.prog X.w X.K X.mg X.base k nm C ps dvs sp) (hr : Room (k + 1) X.A) (hg : Gl X nm) (hdb : (nm == ("__debug__" : Str)) = false := by decide) :
    PE X (.Call (.Name nm p) [] [] pos) (tMake C sp dvs E0 tNil) := by
  obtain ⟨f, fd, ds, a, b, d, hb, v⟩ := c
  exact pe_make0 a b hr hg d hb v passL hdb
end
/-! ### defs as values, called out of a list -/
def tGl (mg : Str → Option Value) (nm : Str) : TE := fun _ H Q => ∀ f, mg nm = some (.ref f) → Q (.ref f) H
def tCall2 (mg : Str → Option Value) (nm1 nm2 : Str) (sp1 sp2 : Sp) (tf : TE) (t : TA) : TE := fun σ H Q => tf σ H fun y H1 => ∃ f, y = .ref f ∧ ((mg nm1 = some (.ref f) ∧ t σ H1 fun vs H2 => sp1 (vs ++ []) H2 Q E0) ∨ (mg nm2 = some (.ref f) ∧ t σ H1 fun vs H2 => sp2 (vs ++ []) H2 Q E0))
section
variable {X : Cx} {k : Nat} {nm nm1 nm2 : Str} {ps ps1 ps2 : List Str} {sp sp1 sp2 : Sp} {fe e : Expr} {es : List Expr} {tf : TE} {t : TA} {p pos : Pos}
theorem pe_gl (c : Cal X.prog X.w X.K X.mg X.base k nm ps sp) (mg : Str → Option Value) (hm : X.mg = mg) (hg : Gl X nm) (hdb : (nm == ("__debug__" : Str)) = false := by decide) : PE X (.Name nm p) (tGl mg nm) := by
  subst hm
  obtain ⟨f, fd, a, b, d, g⟩ := c
  refine ⟨fun pins s σ H Q I h => ?_⟩
  exact (pe_glob (v := .ref f) (pos := p) hg b rfl hdb).run pins s σ H Q I (h f b)
theorem pe_call2 (c1 : Cal X.prog X.w X.K X.mg X.base k nm1 ps1 sp1) (c2 : Cal X.prog X.w X.K X.mg X.base k nm2 ps2 sp2) (mg : Str → Option Value) (hm : X.mg = mg) (hf : PE X fe tf) (hr : Room k X.A) (ha : PA X (e :: es) t)
    (ht : eval (.Call fe (e :: es) [] pos) X.env = (do callWith pos (← eval fe X.env) [] (backTo pos (starEach (e :: es) X.env)) (backToKw pos (keywordEach [] X.env))) := by rfl)
    (he : starEach (e :: es) X.env = (false, eval e X.env) :: starEach es X.env := by rfl) (hpl : (backTo pos (starEach es X.env)).any (·.1) = false := by rfl) : PE X (.Call fe (e :: es) [] pos) (tCall2 mg nm1 nm2 sp1 sp2 tf t) := by
  subst hm
  obtain ⟨f1, fd1, a1, b1, d1, g1⟩ := c1
  obtain ⟨f2, fd2, a2, b2, d2, g2⟩ := c2
  refine ⟨fun pins s σ H Q I h => ?_⟩
  refine Call_ (thn (hf.run pins s σ H _ I h) fun u s1 ⟨y, H1, I1, ry, f, ey, q⟩ => ?_) ht
  subst ey
  obtain rfl : u = Value.ref f := ry
  rcases q with ⟨m, q⟩ | ⟨m, q⟩
  · obtain rfl : f1 = f := by
      rw [b1] at m
      cases m
      rfl
    refine PySem.W.callWith_K (h₀ := X.base) I.ok.mod.kin d1 (thn (ha.run pos pins s1 σ _ _ I1 q) fun us s2 ⟨vs, H2, I2, r, q⟩ => ⟨I2.kIn, ?_⟩) he hpl
    exact run_fn a1 hr g1 .nil pass0 I2 r q
  · obtain rfl : f2 = f := by
      rw [b2] at m
      cases m
      rfl
    refine PySem.W.callWith_K (h₀ := X.base) I.ok.mod.kin d2 (thn (ha.run pos pins s1 σ _ _ I1 q) fun us s2 ⟨vs, H2, I2, r, q⟩ => ⟨I2.kIn, ?_⟩) he hpl
    exact run_fn a2 hr g2 .nil pass0 I2 r q
end
section
variable {K : PySem.W.Frag} {x qual y : Str} {params : Arguments} {body : List Stmt} {scope : Scope} {kws : List (Str × V)} {f : Addr} {fd : FuncData} {ps : List Str} {v : V}
theorem kbn_app (F : FunD K x qual params body scope [] kws f fd) (n : Nat) (ks : List Str) (hk : kws ≠ [])
    (h : ∀ (D : Addr) (doc pm : Value) (an : Option Addr) (cdv ct : Value) (us ws : List Value), us.length = n → ws.length = ks.length → bindArgs (PySem.W.fnOf x qual params body scope .none (.ref D) doc pm an cdv ct) ⟨us, ks.zip ws⟩ = pure (ps.zip (us ++ ws))) :
    ∃ g, KBn K fd ps n ks g (fun vs zs => vs ++ zs) := by
  obtain ⟨mv, h⟩ := F.kbinds0 (ps := ps) n ks [] (fun {α} us mv ws => us ++ ws) hk (fun q hq => by cases hq) (fun r1 _ r3 => r1.append r3) (fun D doc pm an cdv ct us mv ws l1 l2 l3 => by
    have : mv = [] := List.eq_nil_of_length_eq_zero l2
    subst this
    exact h D doc pm an cdv ct us ws l1 l3)
  exact ⟨_, h⟩
/-- two keywords, in the other order -/
theorem kbn_two (F : FunD K x qual params body scope [] kws f fd) (ks : List Str) (hk : kws ≠ []) (h2 : ks.length = 2)
    (h : ∀ (D : Addr) (doc pm : Value) (an : Option Addr) (cdv ct : Value) (u v : Value), bindArgs (PySem.W.fnOf x qual params body scope .none (.ref D) doc pm an cdv ct) ⟨[], ks.zip [u, v]⟩ = pure (ps.zip [v, u])) :
    ∃ g, KBn K fd ps 0 ks g (fun vs zs => vs ++ two zs) := by
  obtain ⟨mv, h⟩ := F.kbinds0 (ps := ps) 0 ks [] (fun {α} us mv ws => us ++ two ws) hk (fun q hq => by cases hq) (fun r1 _ r3 => r1.append (by
    cases r3 with
    | nil => exact .nil
    | cons a r => cases r with
      | nil => exact .nil
      | cons b r => cases r with
        | nil => exact .cons b (.cons a .nil)
        | cons _ _ => exact .nil)) (fun D doc pm an cdv ct us mv ws l1 l2 l3 => by
    have : mv = [] := List.eq_nil_of_length_eq_zero l2
    subst this
    have : us = [] := List.eq_nil_of_length_eq_zero l1
    subst this
    rw [h2] at l3
    match ws, l3 with
    | [u, v], _ => exact h D doc pm an cdv ct u v)
  exact ⟨_, h⟩
theorem dfl_one (F : FunD K x qual params body scope [] [(y, v)] f fd) (n : Nat) (hn : n + 1 = ps.length)
    (h : ∀ (D : Addr) (doc pm : Value) (an : Option Addr) (cdv ct : Value) (us : List Value) (u : Value), us.length = n → KwChain D [(y, u)] (bindArgs (PySem.W.fnOf x qual params body scope .none (.ref D) doc pm an cdv ct) ⟨us, []⟩) (ps.zip (us ++ [u]))) :
    ∃ ds, Vals [v] ds ∧ Binds K fd ps ds := F.binds0 n (by intro z; cases z) hn (fun D doc pm an cdv ct us ks l1 l2 => by
  match ks, l2 with
  | [u], _ => exact h D doc pm an cdv ct us u l1)
theorem funD_one {oc : Value} {od an : Option Addr} {dc pm cd ct : Value} {sl : Array (Option Value)} {D : Addr} {u : Value} (l : K.lookup f = some ⟨oc, od, .func (PySem.W.fnOf x qual params body scope .none (.ref D) dc pm an cd ct), sl⟩) (c : PySem.W.codeIn K cd qual = true) (k : PySem.W.keepIn K (.ref f) = true)
    (n : PySem.W.nsIn K D y = some (some u)) (r : RelV v u) : FunD K x qual params body scope [] [(y, v)] f (PySem.W.fnOf x qual params body scope .none (.ref D) dc pm an cd ct) :=
  ⟨⟨_, _, _, _, _, _, _, _, _, _, rfl, l, c, .inl ⟨rfl, rfl⟩, .inr ⟨D, rfl, fun q hq => by rw [List.mem_singleton.mp hq]; exact ⟨u, n, r⟩⟩⟩, k⟩
end
end WB
namespace WB
open PySem PySem.Spec PyProof.Rows L2
/-! ### many things of one kind, as one -/
section
variable {α : Type} {T0 : List (Addr × Str)} {Ts : List Th} {Y : List α} {f : α → Th} {i j : Nat} {y y' z : α} {H H' : Hp} {N : Th}
theorem mem_tG {a : Addr} : a ∈ (tG (Y.map f)).ft ↔ ∃ y ∈ Y, a ∈ (f y).ft := by
  show a ∈ (Y.map f).flatMap (·.ft) ↔ _
  rw [List.mem_flatMap]
  constructor
  · rintro ⟨T, hT, ha⟩
    obtain ⟨y, hy, rfl⟩ := List.mem_map.mp hT
    exact ⟨y, hy, ha⟩
  · rintro ⟨y, hy, ha⟩
    exact ⟨f y, List.mem_map.mpr ⟨y, hy, rfl⟩, ha⟩
theorem map_at (hj : Y[j]? = some y) : (Y.map f)[j]? = some (f y) := by
  rw [List.getElem?_map, hj]
  rfl
theorem Hs.gget (h : Hs T0 Ts H) (i : Nat) (hi : Ts[i]? = some (tG (Y.map f))) (hj : Y[j]? = some y) : (f y).P H := by
  have g : Hs [] (Y.map f) H := h.get i hi
  exact g.get j (map_at hj)
theorem gset_ft (hj : Y[j]? = some y) (hf : ∀ a ∈ (f y').ft, a ∈ (f y).ft ∨ H a = none) : ∀ a ∈ (tG ((Y.set j y').map f)).ft, a ∈ (tG (Y.map f)).ft ∨ H a = none := fun a ha => by
  obtain ⟨z, hz, ha⟩ := mem_tG.mp ha
  rcases List.mem_or_eq_of_mem_set hz with q | q
  · exact .inl (mem_tG.mpr ⟨z, q, ha⟩)
  · rw [q] at ha
    exact (hf a ha).imp (fun x => mem_tG.mpr ⟨y, List.mem_of_getElem? hj, x⟩) id
theorem gset_P {F : List Addr} (g : Hs [] (Y.map f) H) (hj : Y[j]? = some y) (m : MvF F H H') (hF : ∀ a ∈ F, a ∈ (f y).ft ∨ H a = none) (hp : (f y').P H') (hf : ∀ a ∈ (f y').ft, a ∈ (f y).ft ∨ H a = none) : (tG ((Y.set j y').map f)).P H' := by
  have := g.op (T' := f y') j (map_at hj) m hF hp hf
  rw [← List.map_set] at this
  exact this
theorem Hs.gset {F : List Addr} (h : Hs T0 Ts H) (i : Nat) (hi : Ts[i]? = some (tG (Y.map f))) (hj : Y[j]? = some y) (m : MvF F H H') (hF : ∀ a ∈ F, a ∈ (f y).ft ∨ H a = none) (hp : (f y').P H') (hf : ∀ a ∈ (f y').ft, a ∈ (f y).ft ∨ H a = none) : Hs T0 (Ts.set i (tG ((Y.set j y').map f))) H' :=
  h.op i hi m (fun a ha => (hF a ha).imp (fun x => mem_tG.mpr ⟨y, List.mem_of_getElem? hj, x⟩) id) (gset_P (h.get i hi) hj m hF hp hf) (gset_ft hj hf)
/-- the j-th changes, and a new one comes -/
theorem Hs.gsetN {F : List Addr} (h : Hs T0 Ts H) (i : Nat) (hi : Ts[i]? = some (tG (Y.map f))) (hj : Y[j]? = some y) (m : MvF F H H') (hF : ∀ a ∈ F, a ∈ (f y).ft ∨ H a = none) (hp : (f y').P H') (hf : ∀ a ∈ (f y').ft, a ∈ (f y).ft ∨ H a = none)
    (hn : N.P H') (hnf : ∀ a ∈ N.ft, H a = none ∧ a ∉ (f y').ft) : Hs T0 (N :: Ts.set i (tG ((Y.set j y').map f))) H' := by
  refine h.opNew i hi m (fun a ha => (hF a ha).imp (fun x => mem_tG.mpr ⟨y, List.mem_of_getElem? hj, x⟩) id) (gset_P (h.get i hi) hj m hF hp hf) (gset_ft hj hf) hn (fun a ha => ⟨(hnf a ha).1, fun q => ?_⟩)
  obtain ⟨z, hz, hz2⟩ := mem_tG.mp q
  rcases List.mem_or_eq_of_mem_set hz with q | q
  · have g : Hs [] (Y.map f) H := h.get i hi
    obtain ⟨k, hk⟩ := List.getElem?_of_mem q
    exact (f z).live (g.get k (map_at hk)) hz2 (hnf a ha).1
  · rw [q] at hz2
    exact (hnf a ha).2 hz2
theorem Hs.gadd (h : Hs T0 (f z :: tG (Y.map f) :: Ts) H) : Hs T0 (tG ((Y ++ [z]).map f) :: Ts) H := by
  have h1 := h.swap.ungroup
  rw [show Y.map f ++ f z :: Ts = (Y ++ [z]).map f ++ Ts by simp] at h1
  exact h1.group
theorem Hs.gnil (h : Hs T0 Ts H) : Hs T0 (tG (([] : List α).map f) :: Ts) H := Hs.group (Ts := []) h
end
theorem map_set_same {α β : Type} {f : α → β} {Y : List α} {w : Nat} {x x' : α} (h : Y[w]? = some x) (e : f x' = f x) : (Y.set w x').map f = Y.map f := by
  rw [List.map_set, e]
  apply List.ext_getElem?
  intro i
  rw [List.getElem?_set]
  by_cases z : w = i
  · subst z
    rw [if_pos rfl, List.getElem?_map, h, List.length_map, if_pos (List.getElem?_eq_some_iff.mp h).1]
    rfl
  · rw [if_neg z]
theorem const_by {v : V} {i : Nat} {u : TS} {D : Ends} {σ : L2.St} {H : Hp} (h : u D (σ.set i (some v)) H) : tSeq (tAsg (tC v) (gName i)) u D σ H := h
theorem getElem?_ex {α : Type} {l : List α} {i : Nat} (h : i < l.length) : ∃ x, l[i]? = some x := ⟨_, List.getElem?_eq_getElem h⟩
end WB
namespace WB
open PySem PySem.Spec PyProof.Rows L2
/-! ### tuples of ints, ordered -/
def tupD (t : List Int) : PyData := .tuple (t.map PyData.int)
/-- the first difference decides -/
def lexB : List Int → List Int → Bool
  | [], [] => false
  | [], _ :: _ => true
  | _ :: _, [] => false
  | x :: xs, y :: ys => if x = y then lexB xs ys else decide (x < y)
theorem lexB_eq : ∀ xs ys : List Int, PySem.W.listLt xs ys = lexB xs ys
  | [], [] => rfl
  | [], _ :: _ => rfl
  | _ :: _, [] => rfl
  | x :: xs, y :: ys => by
    unfold PySem.W.listLt lexB
    rw [lexB_eq xs ys]
    rfl
theorem dataLt_tup (s t : List Int) : PySem.W.dataLt (tupD s) (tupD t) = lexB s t := by
  have h := PySem.W.DatumOrd.lt_eq (α := PySem.W.Tup Int) ⟨s⟩ ⟨t⟩
  rw [← lexB_eq]
  exact h
def minT (x : List Int) (r : List (List Int)) : List Int := r.foldl (fun a y => if lexB y a = true then y else a) x
theorem minD_tup : ∀ (r : List (List Int)) (x : List Int), PySem.W.minD (tupD x) (r.map tupD) = tupD (minT x r)
  | [], x => rfl
  | y :: r, x => by
    show (r.map tupD).foldl _ (if PySem.W.dataLt (tupD y) (tupD x) = true then tupD y else tupD x) = tupD (r.foldl _ (if lexB y x = true then y else x))
    rw [dataLt_tup]
    cases lexB y x with
    | true => exact minD_tup r y
    | false => exact minD_tup r x
theorem alike_tup (s t : List Int) : PySem.W.alike (tupD s) (tupD t) = true := PySem.W.DatumOrd.alike (α := PySem.W.Tup Int) ⟨s⟩ ⟨t⟩
theorem depth_tups : ∀ ts : List (List Int), PyData.depthAll (ts.map tupD) ≤ 1
  | [] => Nat.zero_le _
  | t :: ts => by
    show max (PyData.depthAll (t.map PyData.int) + 1) (PyData.depthAll (ts.map tupD)) ≤ 1
    rw [depth_ints]
    exact Nat.max_le.mpr ⟨Nat.le_refl _, depth_tups ts⟩
section
variable {K : PySem.W.Frag}
theorem dpa_at {H : Hp} : ∀ {xs : List V} {ds : List PyData} {i : Nat} {x : V}, DpAll K H xs ds → xs[i]? = some x → ∃ d, ds[i]? = some d ∧ Dp K H x d
  | _, _, _, _, .nil, e => by simp at e
  | _, _, 0, _, .cons h _, e => by simp at e; subst e; exact ⟨_, rfl, h⟩
  | _, _, i + 1, x, .cons _ t, e => by
    obtain ⟨d, h1, h2⟩ := dpa_at (i := i) (x := x) t (by simpa using e)
    exact ⟨d, by simpa using h1, h2⟩
theorem dpa_int_inv {H : Hp} : ∀ {t : List Int} {xs : List V}, DpAll K H xs (t.map PyData.int) → xs = t.map V.int
  | [], _, .nil => rfl
  | _ :: _, _, .cons h r => by
    cases h
    rw [dpa_int_inv r]
    rfl
theorem dp_tup_inv {H : Hp} {v : V} {t : List Int} (h : Dp K H v (tupD t)) : ∃ p, v = .ref p ∧ SqT K H p (t.map V.int) := by
  cases h with
  | tup hs ha => exact ⟨_, rfl, by rw [← dpa_int_inv ha]; exact hs⟩
theorem dp_tup {H : Hp} {p : Addr} {t : List Int} (h : SqT K H p (t.map V.int)) : Dp K H (.ref p) (tupD t) := .tup h (dpa_ints t)
end
theorem tupD_inj {s t : List Int} (h : tupD s = tupD t) : s = t := by
  have h1 : s.map PyData.int = t.map PyData.int := PyData.tuple.inj h
  exact List.map_inj_right (fun _ _ e => PyData.int.inj e) |>.mp h1
/-- min of a list of tuples of ints: one of them, whose numbers are the least -/
def rMinT (K : PySem.W.Frag) : List V → Hp → VK → Prop := fun vs H Q => ∃ (a : Addr) (xs : List V) (x : List Int) (r : List (List Int)), vs = [.ref a] ∧ SqL K H a xs ∧ DpAll K H xs ((x :: r).map tupD) ∧ ∀ (i : Nat) (p : Addr), xs[i]? = some (.ref p) → (x :: r)[i]? = some (minT x r) → SqT K H p ((minT x r).map V.int) → Q (.ref p) H
theorem vals_at {xs : List V} {us : List Value} (h : Vals xs us) : ∀ {i : Nat} {u : Value}, us[i]? = some u → ∃ x, xs[i]? = some x ∧ RelV x u := by
  induction h with
  | nil => intro i u e; simp at e
  | cons a r ih =>
    intro i u e
    cases i with
    | zero => simp at e; subst e; exact ⟨_, rfl, a⟩
    | succ i =>
      obtain ⟨x, h1, h2⟩ := ih (i := i) (u := u) (by simpa using e)
      exact ⟨x, by simpa using h1, h2⟩
section
variable {X : Cx}
theorem cr_minT (hu : X.A.units + 64 < cLine) (hc : X.calm = true) : CallR X (.builtin "min") (rMinT X.K) := by
  intro pins s σ H vs us Q I r h
  obtain ⟨a, xs, x, rs, rfl, hs, hd, q⟩ := h
  obtain ⟨its, rv, hl, _⟩ := I.list hs
  rw [Vals.ref1 r]
  obtain ⟨as, hr⟩ := Dp.readsAll I _ _ _ hd rv
  have hdep := depth_tups (x :: rs)
  refine PySem.W.min_list_data (vs := its.toArray) (x := tupD x) (xs := rs.map tupD) (I.ok.hd hc) hl.isList hr ⟨?_, ?_⟩ ?_ fun i v h' tk bs hi hv hk => ?_
  · intro y hy z hz
    obtain ⟨t1, _, rfl⟩ := List.mem_map.mp (show y ∈ (x :: rs).map tupD from hy)
    obtain ⟨t2, _, rfl⟩ := List.mem_map.mp (show z ∈ (x :: rs).map tupD from hz)
    exact alike_tup t1 t2
  · intro y hy
    obtain ⟨t1, _, rfl⟩ := List.mem_map.mp (show y ∈ (x :: rs).map tupD from hy)
    exact fun z => by cases z
  · have e : PyData.depthAll (tupD x :: rs.map tupD) ≤ 1 := hdep
    omega
  · rw [minD_tup] at hv
    obtain ⟨xv, h1, h2⟩ := vals_at rv (i := i) (u := v) (by simpa using hi)
    obtain ⟨d, e1, e2⟩ := dpa_at hd h1
    obtain ⟨cs, hv2⟩ := Dp.reads I d xv v e2 h2
    have e3 := (reads_det (h := s.heap) (h' := h') (fun b o e _ => hk b o e) hv2 hv).1
    rw [← e3] at e1 e2
    obtain ⟨p, rfl, hp⟩ := dp_tup_inv e2
    have e4 : (x :: rs)[i]? = some (minT x rs) := by
      rw [List.getElem?_map] at e1
      cases e5 : (x :: rs)[i]? with
      | none => rw [e5] at e1; cases e1
      | some t =>
        rw [e5] at e1
        rw [tupD_inj (Option.some.inj e1)]
    exact ⟨.ref p, H, I.kept hk, h2, q i p h1 e4 hp⟩
theorem cr_minTK (K : PySem.W.Frag) (h : X.K = K) (hu : X.A.units + 64 < cLine) (hc : X.calm = true) : CallR X (.builtin "min") (rMinT K) := by subst h; exact cr_minT hu hc
end
end WB
namespace WB
open PySem PySem.Spec PyProof.Rows L2
theorem mt_lcountK {X : Cx} (K : PySem.W.Frag) (h : X.K = K) : MtR X "list.count" (rCntI K) := by subst h; exact mt_lcount
theorem eq_t {a b : Int} (e : decide (V.int a = V.int b) = true) : a = b := V.int.inj (of_decide_eq_true e)
theorem eq_f {a b : Int} (e : ¬ decide (V.int a = V.int b) = true) : a ≠ b := fun z => e (decide_eq_true (congrArg V.int z))
theorem ne_t {a b : Int} (e : (!decide (V.int a = V.int b)) = true) : a ≠ b := fun z => by
  rw [decide_eq_true (congrArg V.int z)] at e
  cases e
theorem ne_f {a b : Int} (e : ¬ (!decide (V.int a = V.int b)) = true) : a = b := by
  by_cases z : a = b
  · exact z
  · exact absurd (by rw [decide_eq_false (fun y => z (V.int.inj y))]; rfl) e
end WB
namespace WB
open PySem PySem.Spec PyProof.Rows L2
/-! ### zip of two sequences, each a list (true) or a tuple (false) -/
def SqK (K : PySem.W.Frag) : Bool → Hp → Addr → List V → Prop
  | true, H, a, xs => SqL K H a xs
  | false, H, a, xs => SqT K H a xs
def KIt : Bool → Heap → Addr → Addr → Nat → Prop
  | true, h, it, a, i => h.IsListIter it a i
  | false, h, it, a, i => h.IsTupleIter it a i
def KSeq : Bool → Heap → Addr → Array Value → Prop
  | true, h, a, vs => h.IsList a vs
  | false, h, a, vs => h.IsTuple a vs
def kItO : Bool → Addr → Obj
  | true, a => { cls := .type "list_iterator", data := .fields #[.ref a, .int 0 0] }
  | false, a => { cls := .type "tuple_iterator", data := .fields #[.ref a, .int 0 0] }
theorem draws_k {P : Program} {w : World} {A : Around} (k : Bool) (hh : A.handled = none) (it l : Addr) (hne : l ≠ it) (vs : Array Value) :
    Draws P w A it [it, l] vs.size (fun i v => vs[i]? = some v) (fun i h => KIt k h it l i ∧ KSeq k h l vs) := by
  cases k with
  | true => exact Draws.list hh it l hne vs
  | false => exact Draws.tuple hh it l hne vs
theorem begins_k (k : Bool) (l : Addr) (vs : Array Value) : Begins (.ref l) (kItO k l) (fun h => KSeq k h l vs) := by
  cases k with
  | true => exact begins_list l vs
  | false => exact begins_tuple l vs
theorem kit_at {k : Bool} {h h' : Heap} {it a : Addr} {i : Nat} (x : KIt k h it a i) (e : ∀ o, h.get? it = some o → h'.get? it = some o) : KIt k h' it a i := by
  cases k with
  | true => exact Heap.IsListIter.at x e
  | false => exact Heap.IsTupleIter.at x e
theorem kit_obj {k : Bool} {h : Heap} {it a : Addr} {i : Nat} (x : KIt k h it a i) : ∃ o, h.get? it = some o ∧ ∀ v, o.data ≠ .cell v := by
  cases k with
  | true =>
    obtain ⟨o, e, _, d⟩ := x
    exact ⟨o, e, fun v q => by rw [d] at q; cases q⟩
  | false =>
    obtain ⟨o, e, _, d⟩ := x
    exact ⟨o, e, fun v q => by rw [d] at q; cases q⟩
theorem kit_new {k : Bool} {h : Heap} {it a : Addr} (e : h.get? it = some (kItO k a)) : KIt k h it a 0 := by
  cases k with
  | true => exact ⟨_, e, rfl, rfl⟩
  | false => exact ⟨_, e, rfl, rfl⟩
section
variable {X : Cx} {pins : List (Addr × Obj)} {σ : L2.St} {H : Hp} {s : Shared} {k : Bool} {a : Addr} {xs ys : List V}
theorem SqK.read (I : Inv X pins σ H s) (h : SqK X.K k H a xs) : ∃ its : List Value, Vals xs its ∧ KSeq k s.heap a its.toArray ∧ a < s.heap.objs.size := by
  cases k with
  | true =>
    obtain ⟨its, r, p, _⟩ := I.list h
    exact ⟨its, r, p.isList, p.lt⟩
  | false =>
    obtain ⟨its, r, p, _⟩ := I.tuple h
    obtain ⟨o, e, _⟩ := id p
    exact ⟨its, r, p, Heap.lt_size e⟩
theorem SqK.inj (I : Inv X pins σ H s) (h : SqK X.K k H a xs) (h' : SqK X.K k H a ys) : xs = ys := by
  cases k with
  | true => exact I.list_inj h h'
  | false => exact I.tuple_inj h h'
end
theorem SqK.same {K : PySem.W.Frag} {k : Bool} {H H' : Hp} {a : Addr} {xs : List V} (e : Same H H') (h : SqK K k H a xs) : SqK K k H' a xs := by
  cases k with
  | true => exact e.seq h
  | false => exact same_t e h
def Itz2 (K : PySem.W.Frag) (k1 k2 : Bool) (a b : Addr) : It where
  go i H := ∃ (xs ys : List V) (x y : V), SqK K k1 H a xs ∧ SqK K k2 H b ys ∧ xs[i]? = some x ∧ ys[i]? = some y
  yld i H v H' := ∃ (T : Addr) (x y : V), v = .ref T ∧ H T = none ∧ H' = upd H T (.tup [x, y]) ∧ (∀ l, SqK K k1 H a l → l[i]? = some x) ∧ ∀ l, SqK K k2 H b l → l[i]? = some y
  stop i H := ∃ (xs ys : List V), SqK K k1 H a xs ∧ SqK K k2 H b ys ∧ i ≤ xs.length ∧ i ≤ ys.length ∧ (i = xs.length ∨ i = ys.length)
theorem of5 {c z TI TO i1 i2 : Addr} (h : c ∈ [z, TI, TO, i1, i2]) : c = z ∨ c = TI ∨ c = TO ∨ c = i1 ∨ c = i2 := by simpa using h
theorem turn_z2 {P : Program} {w : World} {K : PySem.W.Frag} {elts : List Expr} {kk : Nat} {tpos : Pos} {k1 k2 : Bool} {a b z TI TO i1 i2 : Addr} (S : ZipSep2 z TI TO i1 i2 [i1, a] [i2, b]) (n1 : a ≠ i1) (n2 : b ≠ i2) :
    Turn P w K (.Tuple elts kk tpos) (Itz2 K k1 k2 a b) [z, TI, TO, i1, i2] z (fun i h => IsZip h z TI TO .none ∧ IsTupOf2 h TI (.ref i1) (.ref i2) ∧ (∃ x y, IsTupOf2 h TO x y) ∧ KIt k1 h i1 a i ∧ KIt k2 h i2 b i) where
  mem := .head _
  obj := by
    rintro i h ⟨hz, hI, ⟨x, y, hO⟩, h1, h2⟩ c hc
    rcases of5 hc with rfl | rfl | rfl | rfl | rfl
    · exact ⟨_, hz, fun v q => nomatch q⟩
    · exact ⟨_, hI, fun v q => nomatch q⟩
    · exact ⟨_, hO, fun v q => nomatch q⟩
    · exact kit_obj h1
    · exact kit_obj h2
  keep := by
    rintro i h h' ⟨hz, hI, ⟨x, y, hO⟩, h1, h2⟩ kp
    exact ⟨kp z (by simp) _ hz, kp TI (by simp) _ hI, ⟨x, y, kp TO (by simp) _ hO⟩, kit_at h1 (fun o => kp i1 (by simp) o), kit_at h2 (fun o => kp i2 (by simp) o)⟩
  item := by
    intro X hP hw hK hc i pins s σ H E I hf st hg
    subst hP hw hK
    obtain ⟨hz, hI, ⟨x0, y0, hO⟩, h1, h2⟩ := st
    obtain ⟨xs, ys, x, y, qx, qy, ex, ey⟩ := hg
    obtain ⟨us, ru, pu, _⟩ := qx.read I
    obtain ⟨vs, rv, pv, _⟩ := qy.read I
    obtain ⟨u, hu, rxu⟩ := ru.get ex
    obtain ⟨v, hv, ryv⟩ := rv.get ey
    have lz : z < s.heap.objs.size := Heap.lt_size hz
    have hh : X.A.in1.handled = none := I.ok.hd hc
    refine wpAny_pyNext_zipD2_item S (draws_k k1 hh i1 a n1 us.toArray) (draws_k k2 hh i2 b n2 vs.toArray) hz hI hO ⟨h1, pu⟩ ⟨h2, pv⟩ (by simpa using (List.getElem?_eq_some_iff.mp hu).1) (by simpa using (List.getElem?_eq_some_iff.mp hv).1) fun u' v' h' tk hu' hv' z' O' t1 t2 hT hsz keep => ?_
    obtain rfl : u = u' := by
      have : us[i]? = some u' := by simpa using hu'
      rw [hu] at this
      exact Option.some.inj this
    obtain rfl : v = v' := by
      have : vs[i]? = some v' := by simpa using hv'
      rw [hv] at this
      exact Option.some.inj this
    refine ⟨_, rfl, wpAny_letOwnedTupleGo_zip (s := { s with heap := h', toks := tk }) z' fun h'' z'' sb => ?_⟩
    have hT2 : h''.get? s.heap.objs.size = some { cls := .type "tuple", data := .seq #[u, v] } := (sb.2 _ (Nat.ne_of_gt lz)).trans hT
    have J : Inv X pins σ (upd H s.heap.objs.size (.tup [x, y])) { s with heap := h'', toks := tk } :=
      I.turnedNew (ch := [z, TI, TO, i1, i2]) (fun c o nc q => by
        have m : ∀ d, d ∈ [z, TI, TO, i1, i2] → c ≠ d := fun d hd e => nc (e ▸ hd)
        rw [sb.2 c (m z (by simp))]
        exact keep c o (m z (by simp)) (m TO (by simp)) (m i1 (by simp)) (m i2 (by simp)) q) hf (Nat.le_refl _) ⟨by show 2 ≤ sizeLine; decide, [u, v], .cons rxu (.cons ryv .nil), _, hT2, rfl, _, rfl⟩
    refine ⟨.ref s.heap.objs.size, _, J, rfl, ⟨_, x, y, rfl, I.hok.fresh (Nat.le_refl _), rfl, fun l hl => by rw [hl.inj I qx]; exact ex, fun l hl => by rw [hl.inj I qy]; exact ey⟩, ⟨z'', ?_, ⟨u, v, ?_⟩, ?_, ?_⟩, fun c hcm => ?_⟩
    · exact (sb.2 _ S.TIz).trans (keep _ _ S.TIz S.TITO S.TIi1 S.TIi2 hI)
    · exact (sb.2 _ S.TOz).trans O'
    · exact kit_at t1.1 (fun o q => (sb.2 _ S.zi1.symm).trans q)
    · exact kit_at t2.1 (fun o q => (sb.2 _ S.zi2.symm).trans q)
    · have lt : c < s.heap.objs.size := by
        rcases of5 hcm with rfl | rfl | rfl | rfl | rfl
        · exact lz
        · exact Heap.lt_size hI
        · exact Heap.lt_size hO
        · obtain ⟨o, e, _⟩ := kit_obj h1
          exact Heap.lt_size e
        · obtain ⟨o, e, _⟩ := kit_obj h2
          exact Heap.lt_size e
      rw [upd_ne (Nat.ne_of_lt lt)]
      exact (hf c hcm).1
  done := by
    intro X hP hw hK hc i pins s σ H E I hf st hg
    subst hP hw hK
    obtain ⟨hz, hI, ⟨x0, y0, hO⟩, h1, h2⟩ := st
    obtain ⟨xs, ys, qx, qy, l1, l2, he⟩ := hg
    obtain ⟨us, ru, pu, _⟩ := qx.read I
    obtain ⟨vs, rv, pv, _⟩ := qy.read I
    have e1 := ru.length
    have e2 := rv.length
    have hh : X.A.in1.handled = none := I.ok.hd hc
    refine wpAny_pyNext_zipD2_end S (draws_k k1 hh i1 a n1 us.toArray) (draws_k k2 hh i2 b n2 vs.toArray) hz hI hO ⟨h1, pu⟩ ⟨h2, pv⟩ (by simp; omega) (by simp; omega) (by simp; omega) fun h' tk keep => ⟨rfl, ?_⟩
    exact I.turnedL (ch := [z, TI, TO, i1, i2]) (fun c o nc q => by
      have m : ∀ d, d ∈ [z, TI, TO, i1, i2] → c ≠ d := fun d hd e => nc (e ▸ hd)
      exact keep c o (m z (by simp)) (m TO (by simp)) (m i1 (by simp)) (m i2 (by simp)) q) hf
  self := fun A i s Q E st h => wpAny_pyIter_zip st.1 h
def iZip2 (K : PySem.W.Frag) (ta : TA) : TI := fun σ H R => ta σ H fun vs H1 => ∃ (a b : Addr) (k1 k2 : Bool) (xs ys : List V), vs = [.ref a, .ref b] ∧ SqK K k1 H1 a xs ∧ SqK K k2 H1 b ys ∧ R (Itz2 K k1 k2 a b) H1
theorem pi_zip2 {X : Cx} (K : PySem.W.Frag) (hKK : X.K = K) {e e2 : Expr} {ta : TA} {p pos tpos : Pos} {elts : List Expr} {kk : Nat} (hg : Gl X "zip") (hm : X.mg "zip" = none) (ha : PA X [e, e2] ta)
    (hs : starEach [e, e2] X.env = (false, eval e X.env) :: starEach [e2] X.env := by rfl) (hpl : (backTo pos (starEach [e2] X.env)).any (·.1) = false := by rfl) :
    PI X (.Tuple elts kk tpos) (.Call (.Name "zip" p) [e, e2] [] pos) (iZip2 K ta) := by
  subst hKK
  refine ⟨fun pins s σ H R I h => ?_⟩
  refine Call_ (ld_blt I hg hm PyProof.Rows.boot_zip (PyProof.Rows.callWith_type1 (thn (ha.run pos pins s σ H _ I h) fun us s1 y => ?_) hs hpl))
  obtain ⟨vs, H1, I1, r1, a, b, k1, k2, xs, ys, rfl, qx, qy, q⟩ := y
  cases r1 with
  | cons r rr =>
    cases rr with
    | cons r' rr =>
      cases rr
      cases r
      cases r'
      obtain ⟨us, ru, pu, la⟩ := qx.read I1
      obtain ⟨ws, rw_, pw, lb⟩ := qy.read I1
      refine zip_begins2 (begins_k k1 a us.toArray) (begins_k k2 b ws.toArray) pu pw fun h' hz hI hO g1 g2 hsz keep => wpAny_pyIter_zip hz ?_
      refine ⟨s1.heap.objs.size + 4, [s1.heap.objs.size + 4, s1.heap.objs.size + 2, s1.heap.objs.size + 3, s1.heap.objs.size, s1.heap.objs.size + 1], _, _, H1, rfl, I1.kept (t' := s1.toks) keep, turn_z2 (zip_sep2 (N := s1.heap.objs.size) (fp1 := [a]) (fp2 := [b]) (fun c hc => by rw [List.mem_singleton.mp hc]; exact la) (fun c hc => by rw [List.mem_singleton.mp hc]; exact lb)) (Nat.ne_of_lt la) (Nat.ne_of_lt (Nat.lt_succ_of_lt lb)), ⟨hz, hI, ⟨_, _, hO⟩, kit_new g1, kit_new g2⟩, fun c hc => ?_, q⟩
      have le : s1.heap.objs.size ≤ c := by
        rcases of5 hc with z | z | z | z | z
        · rw [z]; exact Nat.le_add_right _ _
        · rw [z]; exact Nat.le_add_right _ _
        · rw [z]; exact Nat.le_add_right _ _
        · rw [z]; exact Nat.le_refl _
        · rw [z]; exact Nat.le_add_right _ _
      exact I1.fpOk le (I1.hok.fresh le)
theorem walk_z2 {K : PySem.W.Frag} {k1 k2 : Bool} {a b : Addr} {xs ys : List V} {n : Nat} (hn : n = min xs.length ys.length) : Walk (Itz2 K k1 k2 a b) n (fun H => SqK K k1 H a xs ∧ SqK K k2 H b ys) (YPair (fun i => xs[i]?) (fun i => ys[i]?)) := by
  subst hn
  refine ⟨fun i _ hi q => ?_, fun _ q => ⟨xs, ys, q.1, q.2, by omega, by omega, by omega⟩, fun i H v H' _ q y => ?_⟩
  · obtain ⟨x, hx⟩ := getElem?_ex (show i < xs.length by omega)
    obtain ⟨y, hy⟩ := getElem?_ex (show i < ys.length by omega)
    exact ⟨xs, ys, x, y, q.1, q.2, hx, hy⟩
  · obtain ⟨T, x, z, h1, h2, h3, h4, h5⟩ := y
    exact ⟨T, x, z, h1, h2, h3, h4 xs q.1, h5 ys q.2⟩
/-! ### tuples that are cut, whole or in part -/
theorem sl_tupAK {X : Cx} (K : PySem.W.Frag) (h : X.K = K) : SlR X (rSlA K) := by subst h; exact sl_tupA
end WB
namespace WB
open PySem PySem.Spec PyProof.Rows L2
/-! ### things that stand apart, and tuples that are known (they may be shared: nothing changes them) -/
def noT : HO → Prop
  | .tup _ => False
  | .frz _ _ => False
  | _ => True
class NT (T : Th) : Prop where
  nt : ∀ H, T.P H → ∀ a ∈ T.ft, ∀ o, H a = some o → noT o
def TF (K : PySem.W.Frag) (L : List (Addr × List V)) (H : Hp) : Prop := ∀ p ∈ L, SqT K H p.1 p.2
section
variable {K : PySem.W.Frag} {L : List (Addr × List V)} {H H' : Hp} {F : List Addr} {a : Addr} {xs : List V}
theorem sqT_keep (kp : ∀ o, H a = some o → ¬ noT o → H' a = some o) (h : SqT K H a xs) : SqT K H' a xs := by
  rcases h with (h | ⟨o, h⟩) | h
  · exact .inl (.inl (kp _ h (fun z => z)))
  · exact .inl (.inr ⟨o, kp _ h (fun z => z)⟩)
  · exact .inr h
theorem sqT_mvf (m : MvF F H H') (hF : ∀ a ∈ F, ∀ o, H a = some o → noT o) (h : SqT K H a xs) : SqT K H' a xs := sqT_keep (fun o e n => m.kp a o (fun z => n (hF a z o e)) e) h
theorem TF.mvf (m : MvF F H H') (hF : ∀ a ∈ F, ∀ o, H a = some o → noT o) (t : TF K L H) : TF K L H' := fun p hp => sqT_mvf m hF (t p hp)
theorem TF.same (s : Same H H') (t : TF K L H) : TF K L H' := fun p hp => same_t s (t p hp)
end
instance (b : Addr × Addr) : NT (tB b) := ⟨fun H h a ha o e => by
  obtain ⟨ns, i, r, x, c, h1, h2, _⟩ := h
  rcases List.mem_cons.mp ha with rfl | ha
  · rw [h1] at e
    cases e
    trivial
  · rw [List.mem_singleton.mp ha, h2] at e
    cases e
    trivial⟩
instance (a : Addr) (xs : List V) : NT (tO a (.lst xs)) := ⟨fun H h b hb o e => by
  rw [in1 hb, h.1] at e
  cases e
  trivial⟩
instance {α : Type} (Y : List α) (f : α → Th) [i : ∀ y, NT (f y)] : NT (tG (Y.map f)) := ⟨fun H h a ha o e => by
  obtain ⟨y, hy, ha⟩ := mem_tG.mp ha
  obtain ⟨j, hj⟩ := List.getElem?_of_mem hy
  have g : Hs [] (Y.map f) H := h
  exact (i y).nt H (g.get j (map_at hj)) a ha o e⟩
structure Hw (K : PySem.W.Frag) (L : List (Addr × List V)) (T0 : List (Addr × Str)) (Ts : List Th) (H : Hp) : Prop where
  hs : Hs T0 Ts H
  tf : TF K L H
section
variable {K : PySem.W.Frag} {L L' : List (Addr × List V)} {T0 : List (Addr × Str)} {Ts : List Th} {T T' N : Th} {H H' : Hp} {a p : Addr} {xs : List V} {b : Addr × Addr} {o o' : HO}
theorem Hw.of (h : Hs T0 Ts H) : Hw K [] T0 Ts H := ⟨h, fun p hp => absurd hp List.not_mem_nil⟩
theorem Hw.get (h : Hw K L T0 Ts H) (i : Nat) (hi : Ts[i]? = some T) : T.P H := h.hs.get i hi
theorem Hw.at (h : Hw K L T0 Ts H) (i : Nat) (hi : Ts[i]? = some (tO p o)) : H p = some o := h.hs.at i hi
theorem Hw.tup (h : Hw K L T0 Ts H) (i : Nat) (hi : L[i]? = some (a, xs)) : SqT K H a xs := h.tf _ (List.mem_of_getElem? hi)
theorem Hw.same (h : Hw K L T0 Ts H) (s : Same H H') : Hw K L T0 Ts H' := ⟨h.hs.same s, h.tf.same s⟩
theorem Hw.know (h : Hw K L T0 Ts H) (t : SqT K H a xs) : Hw K ((a, xs) :: L) T0 Ts H := ⟨h.hs, fun p hp => (List.mem_cons.mp hp).elim (fun z => by rw [z]; exact t) (h.tf p)⟩
theorem Hw.selT (h : Hw K L T0 Ts H) (hs : ∀ q ∈ L', q ∈ L) : Hw K L' T0 Ts H := ⟨h.hs, fun p hp => h.tf p (hs p hp)⟩
theorem Hw.sel (h : Hw K L T0 Ts H) (is : List Nat) (hn : is.Nodup) : Hw K L T0 (pickTs Ts is) H := ⟨h.hs.sel is hn, h.tf⟩
theorem Hw.bag (h : Hw K L T0 (tB b :: Ts) H) : Bag b H := h.hs.bag
theorem Hw.noF [NT T] {F : List Addr} (h : Hw K L T0 Ts H) (i : Nat) (hi : Ts[i]? = some T) (hF : ∀ a ∈ F, a ∈ T.ft ∨ H a = none) : ∀ a ∈ F, ∀ o, H a = some o → noT o := fun a ha o e => by
  rcases hF a ha with z | z
  · exact NT.nt H (h.hs.get i hi) a z o e
  · rw [z] at e
    cases e
theorem Hw.op [NT T] {F : List Addr} (h : Hw K L T0 Ts H) (i : Nat) (hi : Ts[i]? = some T) (m : MvF F H H') (hF : ∀ a ∈ F, a ∈ T.ft ∨ H a = none) (hp : T'.P H') (hf : ∀ a ∈ T'.ft, a ∈ T.ft ∨ H a = none) : Hw K L T0 (Ts.set i T') H' :=
  ⟨h.hs.op i hi m hF hp hf, h.tf.mvf m (h.noF i hi hF)⟩
theorem Hw.opNew [NT T] {F : List Addr} (h : Hw K L T0 Ts H) (i : Nat) (hi : Ts[i]? = some T) (m : MvF F H H') (hF : ∀ a ∈ F, a ∈ T.ft ∨ H a = none) (hp : T'.P H') (hf : ∀ a ∈ T'.ft, a ∈ T.ft ∨ H a = none) (hn : N.P H') (hnf : ∀ a ∈ N.ft, H a = none ∧ a ∉ T'.ft) : Hw K L T0 (N :: Ts.set i T') H' :=
  ⟨h.hs.opNew i hi m hF hp hf hn hnf, h.tf.mvf m (h.noF i hi hF)⟩
theorem Hw.mv (h : Hw K L T0 (tB b :: Ts) H) (m : Mv b.1 H H') (g : Bag b H') : Hw K L T0 (tB b :: Ts) H' :=
  h.op (T := tB b) (T' := tB b) 0 rfl (mvf_bag m g) (fun a ha => .inl ha) g (fun a ha => .inl ha)
theorem Hw.newM (h : Hw K L T0 (tB b :: Ts) H) (m : Mv b.1 H H') (g : Bag b H') (n : H p = none) (e : H' p = some o) (pl : plain o := by exact trivial) : Hw K L T0 (tB b :: tO p o :: Ts) H' :=
  ⟨h.hs.newM m g n e pl, h.tf.mvf (mvf_bag m g) (h.noF (T := tB b) 0 rfl (fun a ha => .inl ha))⟩
theorem Hw.newH (h : Hw K L T0 Ts H) (s : Same H H') (n : H p = none) (e : H' p = some o) (pl : plain o := by exact trivial) : Hw K L T0 (tO p o :: Ts) H' := ⟨h.hs.newH s n e pl, h.tf.same s⟩
theorem Hw.newHU (h : Hw K L T0 Ts H) (n : H p = none) (pl : plain o := by exact trivial) : Hw K L T0 (tO p o :: Ts) (upd H p o) := ⟨h.hs.newHU n pl, h.tf.same (same_upd n)⟩
theorem Hw.newU (h : Hw K L T0 (tB b :: Ts) H) (n : H p = none) (pl : plain o := by exact trivial) : Hw K L T0 (tB b :: tO p o :: Ts) (upd H p o) := ⟨h.hs.newU n pl, h.tf.same (same_upd n)⟩
theorem Hw.new (h : Hw K L T0 Ts H) (s : Same H H') (hp : T.P H') (hf : ∀ a ∈ T.ft, H a = none) : Hw K L T0 (T :: Ts) H' := ⟨h.hs.new s hp hf, h.tf.same s⟩
/-- a new tuple, known from now on -/
theorem Hw.newT (h : Hw K L T0 Ts H) (n : H p = none) : Hw K ((p, xs) :: L) T0 Ts (upd H p (.tup xs)) := (h.same (same_upd n)).know (SqT.of upd_same)
theorem Hw.put (h : Hw K L T0 Ts H) (i : Nat) {xs ys : List V} (hi : Ts[i]? = some (tL p xs)) : Hw K L T0 (Ts.set i (tL p ys)) (upd H p (.lst ys)) :=
  h.op (T := tL p xs) (T' := tL p ys) i hi (F := [p]) ((MvF.refl [p] H).upd (.head _)) (fun a ha => .inl ha) ⟨upd_same, trivial⟩ (fun a ha => .inl ha)
theorem Hw.merge {A B C : Th} (h : Hw K L T0 (A :: B :: Ts) H) (hp : C.P H) (hf : ∀ a ∈ C.ft, a ∈ A.ft ∨ a ∈ B.ft) : Hw K L T0 (C :: Ts) H := ⟨h.hs.merge hp hf, h.tf⟩
end
section
variable {α : Type} {K : PySem.W.Frag} {L : List (Addr × List V)} {T0 : List (Addr × Str)} {Ts : List Th} {Y : List α} {f : α → Th} {i j : Nat} {y y' z : α} {H H' : Hp} {N : Th}
theorem Hw.gget (h : Hw K L T0 Ts H) (i : Nat) (hi : Ts[i]? = some (tG (Y.map f))) (hj : Y[j]? = some y) : (f y).P H := h.hs.gget i hi hj
theorem Hw.gset [∀ y, NT (f y)] {F : List Addr} (h : Hw K L T0 Ts H) (i : Nat) (hi : Ts[i]? = some (tG (Y.map f))) (hj : Y[j]? = some y) (m : MvF F H H') (hF : ∀ a ∈ F, a ∈ (f y).ft ∨ H a = none) (hp : (f y').P H') (hf : ∀ a ∈ (f y').ft, a ∈ (f y).ft ∨ H a = none) : Hw K L T0 (Ts.set i (tG ((Y.set j y').map f))) H' :=
  ⟨h.hs.gset i hi hj m hF hp hf, h.tf.mvf m (h.noF (T := tG (Y.map f)) i hi (fun a ha => (hF a ha).imp (fun x => mem_tG.mpr ⟨y, List.mem_of_getElem? hj, x⟩) id))⟩
theorem Hw.gsetN [∀ y, NT (f y)] {F : List Addr} (h : Hw K L T0 Ts H) (i : Nat) (hi : Ts[i]? = some (tG (Y.map f))) (hj : Y[j]? = some y) (m : MvF F H H') (hF : ∀ a ∈ F, a ∈ (f y).ft ∨ H a = none) (hp : (f y').P H') (hf : ∀ a ∈ (f y').ft, a ∈ (f y).ft ∨ H a = none) (hn : N.P H') (hnf : ∀ a ∈ N.ft, H a = none ∧ a ∉ (f y').ft) : Hw K L T0 (N :: Ts.set i (tG ((Y.set j y').map f))) H' :=
  ⟨h.hs.gsetN i hi hj m hF hp hf hn hnf, h.tf.mvf m (h.noF (T := tG (Y.map f)) i hi (fun a ha => (hF a ha).imp (fun x => mem_tG.mpr ⟨y, List.mem_of_getElem? hj, x⟩) id))⟩
theorem Hw.gadd (h : Hw K L T0 (f z :: tG (Y.map f) :: Ts) H) : Hw K L T0 (tG ((Y ++ [z]).map f) :: Ts) H := ⟨h.hs.gadd, h.tf⟩
theorem Hw.gnil (h : Hw K L T0 Ts H) : Hw K L T0 (tG (([] : List α).map f) :: Ts) H := ⟨h.hs.gnil, h.tf⟩
end
theorem sqT_updI {K : PySem.W.Frag} {H : Hp} {r C dx t : Addr} {fs : List (Str × V)} {o : HO} {xs : List V} (e : H r = some (.ins C dx fs)) (h : SqT K H t xs) : SqT K (upd H r o) t xs := sqT_keep (fun u eu n => by
  rw [upd_ne (fun z => ?_)]
  · exact eu
  · rw [z, e] at eu
    cases eu
    exact n trivial) h
theorem sqK_updI {K : PySem.W.Frag} {H : Hp} {r C dx t : Addr} {fs : List (Str × V)} {o : HO} {k : Bool} {xs : List V} (e : H r = some (.ins C dx fs)) (h : SqK K k H t xs) : SqK K k (upd H r o) t xs := by
  cases k with
  | false => exact sqT_updI e h
  | true =>
    refine lk_l (lk_mv (b := r) (Mv.refl r H).upd ?_) h
    intro u eu
    rw [e] at eu
    cases eu
    rintro (⟨_, z⟩ | ⟨_, z⟩ | ⟨_, _, z⟩) <;> cases z
theorem ix_by {K : PySem.W.Frag} {k : Bool} {H : Hp} {a : Addr} {xs : List V} {i : Int} {v : V} {Q : VK} (h : SqK K k H a xs) (e : atI xs i = some v) (q : Q v H) : rIx K (.ref a) (.int i) H Q := by
  cases k with
  | true => exact .inl ⟨a, _, _, _, rfl, rfl, h, e, q⟩
  | false => exact .inr (.inl ⟨a, _, _, _, rfl, rfl, h, e, q⟩)
theorem SqK.or {K : PySem.W.Frag} {k : Bool} {H : Hp} {a : Addr} {xs : List V} (h : SqK K k H a xs) : SqL K H a xs ∨ SqT K H a xs := by
  cases k with
  | true => exact .inl h
  | false => exact .inr h
theorem made_none {H : Hp} {x dx l : Addr} {o o' : HO} (h : upd (upd H dx o') x o l = none) : H l = none := by
  by_cases z : l = x
  · rw [z, upd_same] at h
    cases h
  by_cases y : l = dx
  · rw [upd_ne z, y, upd_same] at h
    cases h
  rw [upd_ne z, upd_ne y] at h
  exact h
theorem made_same {H H2 : Hp} {x dx : Addr} {o o' : HO} (nx : H x = none) (ndx : H dx = none) (m : MvF [x] (upd (upd H dx o') x o) H2) : Same H H2 := fun a u e => by
  refine m.kp a u (fun z => ne_of_none e nx (in1 z)) ?_
  rw [upd_ne (ne_of_none e nx), upd_ne (ne_of_none e ndx)]
  exact e
/-! ### makers with arguments by place -/
def CalNX (P : Program) (w : World) (K : PySem.W.Frag) (mg : Str → Option Value) (base : Heap) (k : Nat) (nm : Str) (C : Addr) (ps : List Str) (sp : Sp) : Prop :=
  ∃ (f : Addr) (fd : FuncData), Mk K C f ∧ FnOk P w K mg base (L2.CX P w) k f fd ps sp ∧ mg nm = some (.ref C) ∧ Binds K fd ps []
theorem CalNX.mono {P : Program} {w : World} {K : PySem.W.Frag} {mg : Str → Option Value} {base : Heap} {j k : Nat} {nm : Str} {C : Addr} {ps : List Str} {sp : Sp} (c : CalNX P w K mg base j nm C ps sp) (h : j ≤ k) : CalNX P w K mg base k nm C ps sp := by
  obtain ⟨f, fd, a, b, d, e⟩ := c
  exact ⟨f, fd, a, b.mono h, d, e⟩
section
variable {X : Cx} {k : Nat} {C : Addr} {ps : List Str} {sp : Sp} {E : XK} {nm : Str} {p pos : Pos} {e : Expr} {es : List Expr} {t : TA}
theorem pe_makeX (c : CalNX X.prog X.w X.K X.mg X.base k nm C ps sp) (hr : Room (k + 1) X.A) (hx : Passes (L2.CX X.prog X.w) X E) (hg : Gl X nm) (ha : PA X (e :: es) t) (hdb : (nm == ("__debug__" : Str)) = false := by decide)
    (he : starEach (e :: es) X.env = (false, eval e X.env) :: starEach es X.env := by rfl) (hpl : (backTo pos (starEach es X.env)).any (·.1) = false := by rfl) : PE X (.Call (.Name nm p) (e :: es) [] pos) (tMake C sp [] E t) := by
  obtain ⟨f, fd, a, b, d, q⟩ := c
  exact pe_make a b hr hg d q .nil hx ha hdb he hpl
theorem pe_makeXF (c : CalNX X.prog X.w X.K X.mg X.base k nm C ps sp) (hr : Room (k + 1) X.A) (hg : Gl X nm) (ha : PA X (e :: es) t) (hdb : (nm == ("__debug__" : Str)) = false := by decide)
    (he : starEach (e :: es) X.env = (false, eval e X.env) :: starEach es X.env := by rfl) (hpl : (backTo pos (starEach es X.env)).any (·.1) = false := by rfl) : PE X (.Call (.Name nm p) (e :: es) [] pos) (tMake C sp [] E0 t) := pe_makeX c hr passL hg ha hdb he hpl
end
section
variable {X : Cx} (K : PySem.W.Frag)
def rSlAny (K : PySem.W.Frag) : V → Option Int → Option Int → Hp → VK → Prop := fun x lo hi H Q => rSlL K x lo hi H Q ∨ rSlA K x lo hi H Q
theorem sl_anyK (h : X.K = K) : SlR X (rSlAny K) := by
  subst h
  intro pins s σ H x v vl vu lo hi sl Q I rx hs pl pu h
  rcases h with h | h
  · exact sl_list pins s σ H x v vl vu lo hi sl Q I rx hs pl pu h
  · exact sl_tupA pins s σ H x v vl vu lo hi sl Q I rx hs pl pu h
end
end WB
namespace WB
open PySem PySem.Spec PyProof.Rows L2
/-! ### methods with keyword-only parameters: n by place behind the thing itself, keywords ks -/
def tMethN (C : Addr) (m : Str) (n j : Nat) (sp : Sp) (gV : List V → List V → List V) (E : XK) (ta : TE) (t tk : TA) : TE := fun σ H Q => ta σ H fun x H1 => ∃ (a dx : Addr) (fs : List (Str × V)), x = .ref a ∧ H1 a = some (.ins C dx fs) ∧ fs.lookup m = none ∧
  t σ H1 fun vs H2 => tk σ H2 fun zs H3 => vs.length = n ∧ zs.length = j ∧ sp (gV (.ref a :: vs) zs) H3 Q E
def CalMW (P : Program) (w : World) (K : PySem.W.Frag) (mg : Str → Option Value) (base : Heap) (k : Nat) (C : Addr) (m : Str) (ps : List Str) (n : Nat) (ks : List Str) (gV : List V → List V → List V) (sp : Sp) : Prop :=
  ∃ (f : Addr) (fd : FuncData) (g : List Value → List Value → List Value), Cls K C ∧ Meth K C m f ∧ FnOk P w K mg base (L2.CX P w) k f fd ps sp ∧ KBn K fd ps (n + 1) ks g gV
theorem CalMW.mono {P : Program} {w : World} {K : PySem.W.Frag} {mg : Str → Option Value} {base : Heap} {j k n : Nat} {C : Addr} {m : Str} {ps ks : List Str} {gV : List V → List V → List V} {sp : Sp} (c : CalMW P w K mg base j C m ps n ks gV sp) (h : j ≤ k) : CalMW P w K mg base k C m ps n ks gV sp := by
  obtain ⟨f, fd, g, a, b, d, e⟩ := c
  exact ⟨f, fd, g, a, b, d.mono h, e⟩
/-- the keyword-only ones left out -/
def CalMD (P : Program) (w : World) (K : PySem.W.Frag) (mg : Str → Option Value) (base : Heap) (k : Nat) (C : Addr) (m : Str) (ps : List Str) (dvs : List V) (sp : Sp) : Prop :=
  ∃ (f : Addr) (fd : FuncData) (ds : List Value), Cls K C ∧ Meth K C m f ∧ FnOk P w K mg base (L2.CX P w) k f fd ps sp ∧ Binds K fd ps ds ∧ Vals dvs ds
theorem CalMD.mono {P : Program} {w : World} {K : PySem.W.Frag} {mg : Str → Option Value} {base : Heap} {j k : Nat} {C : Addr} {m : Str} {ps : List Str} {dvs : List V} {sp : Sp} (c : CalMD P w K mg base j C m ps dvs sp) (h : j ≤ k) : CalMD P w K mg base k C m ps dvs sp := by
  obtain ⟨f, fd, g, a, b, d, e⟩ := c
  exact ⟨f, fd, g, a, b, d.mono h, e⟩
section
variable {X : Cx} {k n : Nat} {C : Addr} {m : Str} {ps ks : List Str} {sp : Sp} {E : XK} {pos apos : Pos} {e o : Expr} {es : List Expr} {kws : List Keyword} {ta : TE} {t tk : TA} {gV : List V → List V → List V} {dvs : List V} {pl : Sem Bool}
theorem pe_methW (ho : PE X o ta) (c : CalMW X.prog X.w X.K X.mg X.base k C m ps n ks gV sp) (hr : Room k X.A) (hx : Passes (L2.CX X.prog X.w) X E) (ha : PA X (e :: es) t) (hkw : PK X kws tk)
    (hall : (backToKw pos (keywordEach kws X.env)).all (·.1.isSome) = true := by rfl) (hks : (backToKw pos (keywordEach kws X.env)).filterMap (·.1) = ks := by rfl) (he : starEach (e :: es) X.env = (false, eval e X.env) :: starEach es X.env := by rfl)
    (hpl : ((backTo pos (starEach (e :: es) X.env)).any (·.1) || (backToKw pos (keywordEach kws X.env)).any (·.1.isNone)) = false := by rfl)
    (ht : eval (.Call (.Attribute o m apos) (e :: es) kws pos) X.env = (do
      let ov ← eval o X.env
      standAt apos.atName
      let (f, first) ← holding [ov] (getMethod ov m pl)
      callWith pos f first (backTo pos (starEach (e :: es) X.env)) (backToKw pos (keywordEach kws X.env))) := by rfl) :
    PE X (.Call (.Attribute o m apos) (e :: es) kws pos) (tMethN C m n ks.length sp gV E ta t tk) := by
  obtain ⟨f, fd, g, hc, hm, F, hb⟩ := c
  refine ⟨fun pins s σ H Q I h => ?_⟩
  refine PySem.W.methodCall_KW (pl := pl) (thn (ho.run pins s σ H _ I h) fun u s1 y => ?_) ht
  obtain ⟨x, H1, I1, rx, a, dx, fs, rfl, ea, l, q⟩ := y
  obtain rfl : u = Value.ref a := rx
  refine getmeth_ok I1 ea hc hm l ?_
  refine PySem.W.callWith_KW (first := [.ref a]) (h₀ := X.base) I.ok.mod.kin hm.kp hall (thn (ha.run pos pins s1 σ H1 _ I1 q) fun us s2 y => ?_) hpl he
  obtain ⟨vs, H2, I2, r, q2⟩ := y
  refine thn (hkw.run pos pins s2 σ H2 _ I2 q2) fun ws s3 y => ?_
  obtain ⟨zs, H3, I3, rz, l1, l2, q3⟩ := y
  refine ⟨I3.kIn, ?_⟩
  rw [hks]
  exact run_fnN (us := .ref a :: us) (vs := .ref a :: vs) F hr hb hx I3 (.cons rfl r) rz (congrArg (· + 1) l1) l2 q3
theorem pe_methWF (ho : PE X o ta) (c : CalMW X.prog X.w X.K X.mg X.base k C m ps n ks gV sp) (hr : Room k X.A) (ha : PA X (e :: es) t) (hkw : PK X kws tk)
    (hall : (backToKw pos (keywordEach kws X.env)).all (·.1.isSome) = true := by rfl) (hks : (backToKw pos (keywordEach kws X.env)).filterMap (·.1) = ks := by rfl) (he : starEach (e :: es) X.env = (false, eval e X.env) :: starEach es X.env := by rfl)
    (hpl : ((backTo pos (starEach (e :: es) X.env)).any (·.1) || (backToKw pos (keywordEach kws X.env)).any (·.1.isNone)) = false := by rfl)
    (ht : eval (.Call (.Attribute o m apos) (e :: es) kws pos) X.env = (do
      let ov ← eval o X.env
      standAt apos.atName
      let (f, first) ← holding [ov] (getMethod ov m pl)
      callWith pos f first (backTo pos (starEach (e :: es) X.env)) (backToKw pos (keywordEach kws X.env))) := by rfl) :
    PE X (.Call (.Attribute o m apos) (e :: es) kws pos) (tMethN C m n ks.length sp gV E0 ta t tk) := pe_methW ho c hr passL ha hkw hall hks he hpl ht
theorem pe_methD (ho : PE X o ta) (c : CalMD X.prog X.w X.K X.mg X.base k C m ps dvs sp) (hr : Room k X.A) (hx : Passes (L2.CX X.prog X.w) X E) (ha : PA X (e :: es) t) (hs : starEach (e :: es) X.env = (false, eval e X.env) :: starEach es X.env := by rfl) (hpl : (backTo pos (starEach es X.env)).any (·.1) = false := by rfl)
    (hc : eval (.Call (.Attribute o m apos) (e :: es) [] pos) X.env = (do
      let ov ← eval o X.env
      standAt apos.atName
      let (f, first) ← holding [ov] (getMethod ov m pl)
      callWith pos f first (backTo pos (starEach (e :: es) X.env)) (backToKw pos (keywordEach [] X.env))) := by rfl) : PE X (.Call (.Attribute o m apos) (e :: es) [] pos) (tMeth C m sp dvs E ta t) := by
  obtain ⟨f, fd, ds, a, b, d, g, v⟩ := c
  exact pe_meth ho a b d hr g v hx ha hs hpl hc
theorem pe_methDF (ho : PE X o ta) (c : CalMD X.prog X.w X.K X.mg X.base k C m ps dvs sp) (hr : Room k X.A) (ha : PA X (e :: es) t) (hs : starEach (e :: es) X.env = (false, eval e X.env) :: starEach es X.env := by rfl) (hpl : (backTo pos (starEach es X.env)).any (·.1) = false := by rfl)
    (hc : eval (.Call (.Attribute o m apos) (e :: es) [] pos) X.env = (do
      let ov ← eval o X.env
      standAt apos.atName
      let (f, first) ← holding [ov] (getMethod ov m pl)
      callWith pos f first (backTo pos (starEach (e :: es) X.env)) (backToKw pos (keywordEach [] X.env))) := by rfl) : PE X (.Call (.Attribute o m apos) (e :: es) [] pos) (tMeth C m sp dvs E0 ta t) := pe_methD ho c hr passL ha hs hpl hc
end
theorem pi_revAK {X : Cx} (K : PySem.W.Frag) (hKK : X.K = K) {tg e : Expr} {te : TE} {p pos : Pos} (hg : Gl X "reversed") (hm : X.mg "reversed" = none) (he : PE X e te) (hs : starEach [e] X.env = (false, eval e X.env) :: starEach [] X.env := by rfl) : PI X tg (.Call (.Name "reversed" p) [e] [] pos) (RT.iRevA K te) := by
  subst hKK
  exact RT.pi_revA hg hm he hs
theorem walk_revT {K : PySem.W.Frag} {a : Addr} {xs : List V} : Walk (RT.ItvT K a xs.length) xs.length (fun H => SqT K H a xs) (fun i H x H' => H' = H ∧ xs[xs.length - 1 - i]? = some x) := by
  refine ⟨fun i H hi q => ⟨hi, xs, ?_⟩, fun _ _ => Nat.le_refl _, fun i H x H' _ q y => ⟨y.1, y.2 xs q⟩⟩
  obtain ⟨x, hx⟩ := getElem?_ex (show xs.length - 1 - i < xs.length by omega)
  exact ⟨x, q, hx⟩
/-! ### how keywords are bound: ks as written, ms those that lack (their defaults), pm puts both in the parameters' order -/
section
variable {K : PySem.W.Frag} {x qual : Str} {params : Arguments} {body : List Stmt} {scope : Scope} {kws : List (Str × V)} {f : Addr} {fd : FuncData} {ps : List Str}
/-- the i-th of both rows, one behind the other -/
def pickL {α : Type} (l : List α) : List Nat → List α
  | [] => []
  | i :: r => match l[i]? with
    | some x => x :: pickL l r
    | none => pickL l r
theorem vals_pick {vs : List V} {us : List Value} (h : Vals vs us) : ∀ is : List Nat, Vals (pickL vs is) (pickL us is)
  | [] => .nil
  | i :: r => by
    unfold pickL
    cases e : us[i]? with
    | none =>
      have e2 : vs[i]? = none := by
        rw [List.getElem?_eq_none_iff] at e ⊢
        have := h.length
        omega
      rw [e2]
      exact vals_pick h r
    | some u =>
      obtain ⟨y, hy, ry⟩ := vals_at h e
      rw [hy]
      exact .cons ry (vals_pick h r)
theorem kbn_pick (F : FunD K x qual params body scope [] kws f fd) (n : Nat) (ks : List Str) (ms : List (Str × V)) (is : List Nat) (hk : kws ≠ []) (hms : ∀ q ∈ ms, q ∈ kws)
    (h : ∀ (D : Addr) (doc pm : Value) (an : Option Addr) (cdv ct : Value) (us mv ws : List Value), us.length = n → mv.length = ms.length → ws.length = ks.length →
      KwChain D ((ms.map (·.1)).zip mv) (bindArgs (PySem.W.fnOf x qual params body scope .none (.ref D) doc pm an cdv ct) ⟨us, ks.zip ws⟩) (ps.zip (us ++ pickL (ws ++ mv) is))) :
    ∃ g, KBn K fd ps n ks g (fun vs zs => vs ++ pickL (zs ++ ms.map (·.2)) is) := by
  obtain ⟨mv, hb⟩ := F.kbinds0 (ps := ps) n ks ms (fun {α} us mv ws => us ++ pickL (ws ++ mv) is) hk hms (fun r1 r2 r3 => r1.append (vals_pick (r3.append r2) is)) h
  exact ⟨_, hb⟩
end
end WB
namespace WB
open PySem PySem.Spec PyProof.Rows L2
/-! ### a comparison of two instances of one class by the class's own def, whatever it tells -/
def rOwnI (C : Addr) (sp : Sp) (E : XK) : R2 := fun x y H Q => ∃ a dx fs b dy gs, x = .ref a ∧ y = .ref b ∧ H a = some (.ins C dx fs) ∧ H b = some (.ins C dy gs) ∧ sp [x, y] H Q E
section
variable {X : Cx} {CX : CXT} {C g : Addr} {n : Nat} {sp : Sp} {E : XK}
theorem op_ownI {op : CmpOp} (hop : ∀ a b, compareOp op a b = richCompare op a b) (hs : PySem.W.findIn X.K (.ref C) (cmpInfo op).2.1 = some (some (.ref g))) (hf : PySem.W.isFn X.K (.ref g) = true) (F : FnR X.prog X.w X.K X.mg X.base CX n g sp)
    (hr : Room n X.A) (hx : Passes CX X E) : OpR X (compareOp op) (rOwnI C sp E) := by
  intro pins s σ H x y v u Q I rx ry h
  obtain ⟨a, dx, fs, b, dy, gs, rfl, rfl, ha, hb, q⟩ := h
  cases (show v = Value.ref a from rx)
  cases (show u = Value.ref b from ry)
  obtain ⟨mA, J, _⟩ := ins_get I.hok ha
  obtain ⟨mB, J', _⟩ := ins_get I.hok hb
  obtain ⟨od, J, _⟩ := J.look
  obtain ⟨od', J', _⟩ := J'.look
  obtain ⟨m, hF⟩ := I.fr
  rw [hop]
  refine PySem.W.cmp_K (op := op) (tb := .ref C) hr.units0 hF I.ok.mod.kin J J'.type (by simp [PySem.W.notFirst]) hs hf ?_
  refine wpAny_mono (wpAny_call (run_fnR (us := [.ref a, .ref b]) (vs := [.ref a, .ref b]) F hr hx I (.cons rfl (.cons rfl .nil)) q)) (fun w s' z => ?_) fun _ _ x => x
  obtain ⟨z', H', I', rz, qz⟩ := z
  exact SlX.cmpback rz ⟨z', H', I', rz, qz⟩
theorem op_eqI (hs : PySem.W.findIn X.K (.ref C) "__eq__" = some (some (.ref g))) (hf : PySem.W.isFn X.K (.ref g) = true) (F : FnR X.prog X.w X.K X.mg X.base CX n g sp) (hr : Room n X.A) (hx : Passes CX X E) : OpR X (compareOp .Eq) (rOwnI C sp E) :=
  op_ownI (fun _ _ => rfl) hs hf F hr hx
end
end WB
namespace WB
open PySem PySem.Spec PyProof.Rows L2 Builtin
section
variable {M : Model} {A : Around} {E : Value → Shared → Prop} {s : Shared} {K : PySem.W.Frag} {x C : Addr} {ox : Obj} {od : Option Obj}
theorem ifBound_objNe {args : List Value} {Q : Option Value → Shared → Prop} (X : K.In s.heap) (I : PySem.W.InstAt s.heap x ox C od) (hs : PySem.W.findIn K (.ref C) "__ne__" = some (some (.builtin "object.__ne__")))
    (h : wpAny M A (call (.builtin "object.__ne__") (.ref x :: args)) (fun v => Q (some v)) E s) : wpAny M A (callSpecialIfBound? (.ref x) "__ne__" args) Q E s := by
  simp only [callSpecialIfBound?, bindSpecialIfBound?]
  refine wpAny_holding (wpAny_bind (wpAny_bind (wpAny_bind (I.type.here ((PySem.W.looks_findIn X hs).here ?_)))))
  refine wpAny_bind (wpAny_askSetting (wpAny_ite ?_))
  have fin : wpAny M A (call (.builtin "object.__ne__") ([.ref x] ++ args) >>= fun v => pure (some v)) Q E s := wpAny_bind (wpAny_mono h (fun v s' h' => wpAny_pure h') fun _ _ h' => h')
  split
  · exact wpAny_bind (wpAny_of_eq (F.cmp_object.ne.bind _) (wpAny_pure (by exact fin)))
  · exact wpAny_tryCatch (wpAny_bind (wpAny_of_eq (F.cmp_object.ne.bind _) (wpAny_pure (by exact fin))))
end
section
variable {prog : Program} {w : World} {A : Around} {E : Value → Shared → Prop} {s : Shared} {K : PySem.W.Frag} {x b C f : Addr} {ox : Obj} {od : Option Obj}
theorem call_objNe {Q : Value → Shared → Prop} (hu : A.in1.units < cLine) (X : K.In s.heap) (I : PySem.W.InstAt s.heap x ox C od) (hm : PySem.W.mroIn K C (.type "object") = some true)
    (hs : PySem.W.findIn K (.ref C) "__eq__" = some (some (.ref f))) (hf : PySem.W.isFn K (.ref f) = true)
    (h : wpAny (model prog w) A.in1 (call (.ref f) [.ref x, .ref b]) (fun v s' => ∃ t, v = .bool t ∧ Q (.bool (!t)) s') E s) :
    wpAny (model prog w) A (call (.builtin "object.__ne__") [.ref x, .ref b]) Q E s := by
  refine wpAny_call (codeAny_call_builtin F.cmp_object.ne.plain F.cmpEntry_ne (PySem.W.check_slot F.cmpKind_ne F.cmpSplit_ne (I.type.andThen (PySem.W.looks_mroIn X hm)) (F.cmpArgs_ne _ _) ?_))
  unfold Builtin.«object.__ne__»
  repeat (first | with_reducible refine wpAny_cRoomFor hu ?_ | with_reducible refine PySem.W.ifBound_K X I hs hf (wpAny_mono h (fun v s' hv => ?_) fun _ _ e => e) | wp_step)
  obtain ⟨t, rfl, q⟩ := hv
  exact wpAny_bind (wpAny_truthy_bool (wpAny_pure q))
/-- != of two instances of a class with an own ==: it asks that, and turns the answer round -/
theorem ne_K {Q : Value → Shared → Prop} (hu : A.units < cLine) (hu1 : A.in1.units < cLine) (X : K.In s.heap) (I : PySem.W.InstAt s.heap x ox C od) (hb : PySem.W.Looks (model prog w) s.heap (typeOf (.ref b)) (.ref C))
    (hne : PySem.W.findIn K (.ref C) "__ne__" = some (some (.builtin "object.__ne__"))) (hm : PySem.W.mroIn K C (.type "object") = some true) (hs : PySem.W.findIn K (.ref C) "__eq__" = some (some (.ref f))) (hf : PySem.W.isFn K (.ref f) = true)
    (h : wpAny (model prog w) A.in1 (call (.ref f) [.ref x, .ref b]) (fun v s' => ∃ t, v = .bool t ∧ Q (.bool (!t)) s') E s) : wpAny (model prog w) A (richCompare .NotEq (.ref x) (.ref b)) Q E s := by
  have one : wpAny (model prog w) A (tryCompare (.ref x) (cmpInfo .NotEq).2.1 (.ref b)) (fun r s' => ∃ v, r = some v ∧ Q v s') E s := by
    unfold tryCompare
    refine wpAny_bind (ifBound_objNe X I hne (call_objNe hu1 X I hm hs hf (wpAny_mono h (fun v s' hv => ?_) fun _ _ e => e)))
    obtain ⟨t, rfl, q⟩ := hv
    exact ⟨t, rfl, wpAny_pure ⟨_, rfl, q⟩⟩
  unfold richCompare
  simp only [oneThing_ref]
  refine wpAny_holding (wpAny_bind (wpAny_cRoomFor hu ?_))
  refine wpAny_bind (I.type.here (wpAny_bind (hb.here ?_)))
  split
  · rename_i q
    simp at q
  · refine wpAny_bind (wpAny_pure ?_)
    simp only [Bool.false_eq_true, if_false]
    refine wpAny_bind (wpAny_mono one (fun r s' z => ?_) fun _ _ e => e)
    obtain ⟨v, rfl, hq⟩ := z
    exact wpAny_pure hq
end
def rNeI (C : Addr) (sp : Sp) (E : XK) : R2 := fun x y H Q => ∃ a dx fs b dy gs, x = .ref a ∧ y = .ref b ∧ H a = some (.ins C dx fs) ∧ H b = some (.ins C dy gs) ∧ sp [x, y] H (fun v H' => ∃ t, v = .bl t ∧ Q (.bl (!t)) H') E
section
variable {X : Cx} {CX : CXT} {C g : Addr} {n : Nat} {sp : Sp} {E : XK}
theorem op_neI (hne : PySem.W.findIn X.K (.ref C) "__ne__" = some (some (.builtin "object.__ne__"))) (hm : PySem.W.mroIn X.K C (.type "object") = some true) (hs : PySem.W.findIn X.K (.ref C) "__eq__" = some (some (.ref g))) (hf : PySem.W.isFn X.K (.ref g) = true)
    (F : FnR X.prog X.w X.K X.mg X.base CX n g sp) (hr : Room (n + 1) X.A) (hx : Passes CX X E) : OpR X (compareOp .NotEq) (rNeI C sp E) := by
  intro pins s σ H x y v u Q I rx ry h
  obtain ⟨a, dx, fs, b, dy, gs, rfl, rfl, ha, hb, q⟩ := h
  cases (show v = Value.ref a from rx)
  cases (show u = Value.ref b from ry)
  obtain ⟨mA, J, _⟩ := ins_get I.hok ha
  obtain ⟨mB, J', _⟩ := ins_get I.hok hb
  obtain ⟨od, J, _⟩ := J.look
  obtain ⟨od', J', _⟩ := J'.look
  have hr1 : Room n X.A.in1 := Room.in1 hr
  refine ne_K hr.units0 hr1.units0 I.kIn J J'.type hne hm hs hf (wpAny_mono (wpAny_call (SlX.run_at (us := [.ref a, .ref b]) (ws := [.ref a, .ref b]) F hr1 I.env0.in1 hx I (.cons rfl (.cons rfl .nil)) q)) (fun w s' z => ?_) fun _ _ x => x)
  obtain ⟨z', H', I', rz, t, rfl, qz⟩ := z
  cases (show w = Value.bool t from rz)
  exact ⟨t, rfl, .bl (!t), H', I', rfl, qz⟩
end
end WB
namespace WB
open PySem PySem.Spec PyProof.Rows L2
section
variable {X : Cx} (K : PySem.W.Frag)
theorem op_inDK (h : X.K = K) {k : Nat} (hr : Room k X.A) : OpR X (compareOp .In) (rInD K) := by subst h; exact op_inD (by have := hr.un; omega)
theorem op_notInDK (h : X.K = K) {k : Nat} (hr : Room k X.A) : OpR X (compareOp .NotIn) (rNotInD K) := by subst h; exact op_notInD (by have := hr.un; omega)
theorem mt_indexDK (h : X.K = K) {k : Nat} (hr : Room k X.A) : MtR X "list.index" (rIndexD K) := by subst h; exact mt_indexD (by have := hr.un; omega)
theorem op_catAK (h : X.K = K) : OpR X (binaryOp .Add) (rCatA K) := by subst h; exact op_catA
end
/-! ### list.extend of a tuple -/
theorem extend_tup (l : Addr) (items : Array Value) (n : Nat) (b : Addr) (items2 : Array Value) (n2 : Nat) (dd : Option Addr) (sl : Array (Option Value)) (hs0 : ¬(!items.isEmpty && Builtin.List.listTooLong (items.size + items2.size)) = true) (hs1 : items.size ≤ sizeLine) (hs2 : items.size + items2.size ≤ sizeLine + 1) :
    Meets (Builtin.«list.extend» ⟨[.ref l, .ref b], []⟩) (fun _ R s => s.heap.get? l = some { cls := .type "list", dict := none, data := .seq items n, slots := #[] } ∧ s.heap.get? b = some { cls := .type "tuple", dict := dd, data := .seq items2 n2, slots := sl } ∧ R (.ok (.ret Value.none)) { s with heap := s.heap.update l (Obj.mapSeq fun x => x ++ items2), toks := s.toks }) :=
  .of_wp fun prog w A R s h => by
    obtain ⟨hp, g, d, tk, os⟩ := s; obtain ⟨hl, hb, h⟩ := h; have f1 := AutoSeq1.idx_int; have f2 := AutoSeq1.sub_tuple_tuple; have f3 := AutoSeq1.sub_list_list; have f4 := AutoSeq1.sub_tuple_list; have f5 := AutoSeq1.sub_list_tuple;
    have hz' : (items ++ items2).size ≤ sizeLine + 1 := by rw [Array.size_append]; exact hs2
    wp_walk using (wpAny_updateSeq hl rfl (hz := hs1) (_hz' := hz')), AutoSeq1.wpAny_loadPart' hl, AutoSeq1.wpAny_loadPart' hb; exact ⟨_, rfl, h⟩
def rExtendT (K : PySem.W.Frag) : V → List V → Hp → VK → Prop := fun x vs H Q => ∃ l b xs zs, x = .ref l ∧ vs = [.ref b] ∧ H l = some (.lst xs) ∧ SqT K H b zs ∧ xs.length + zs.length ≤ sizeLine ∧ Q .non (upd H l (.lst (xs ++ zs)))
theorem mt_extendTK {X : Cx} (K : PySem.W.Frag) (hK : X.K = K) : MtM X "list.extend" (rExtendT K) := by
  subst hK
  intro pins s σ H x vs v us Q I rx rv h
  obtain ⟨l, b, xs, zs, rfl, rfl, hH, hB, hz, q⟩ := h
  cases rx
  obtain ⟨u, rfl, ru⟩ := rv.one
  cases ru
  obtain ⟨z, its, n, r, hl, e⟩ := I.lstM hH
  obtain ⟨its2, r2, ⟨o, ho, hc, n2, hd⟩, hz2⟩ := I.tuple hB
  obtain ⟨oc, odd, oda, osl⟩ := o
  cases hc
  cases hd
  have l1 := r.length
  have l2 := r2.length
  have hsz : its.toArray.size + its2.toArray.size ≤ sizeLine := by rw [List.size_toArray, List.size_toArray]; omega
  have hlong : ¬ (!its.toArray.isEmpty && Builtin.List.listTooLong (its.toArray.size + its2.toArray.size)) = true := by
    rw [notLongL hsz, Bool.and_false]
    exact Bool.false_ne_true
  refine call_meets F.slot_list_extend ⟨_, e, rfl⟩ F.entry_list_extend (F.args_list_extend_2 _ _)
    (extend_tup l its.toArray n b its2.toArray n2 odd osl hlong (by rw [List.size_toArray]; omega) (by omega)) ⟨e, ho, ?_⟩
  refine ⟨.non, _, I.lset (its' := its ++ its2) hH e (by simp) (r.append r2) ?_, rfl, q⟩
  rw [List.length_append]
  omega
/-- isinstance(x, C) of C's own instances -/
structure IsiC (K : PySem.W.Frag) (C : Addr) : Prop where
  c1 : PySem.W.findIn K (.ref C) "__class__" = some (some (.builtin "object.__class__"))
  c2 : PySem.W.specialIn K (.builtin "object.__class__") "__get__" = some (some (.builtin "getset_descriptor.__get__"))
  c3 : PySem.W.takesIn K (.builtin "object.__class__") = some true
  c4 : PySem.W.mroIn K C (.type "object") = some true
  kt : PySem.W.kitOne K (.ref C) (.ref C) = some true
theorem isi_own {K : PySem.W.Frag} {C r dx : Addr} {fs : List (Str × V)} {H : Hp} (i : IsiC K C) (c : Cls K C) (h : H r = some (.ins C dx fs)) : TyX K H (.ref r) (.ref C) := .base (.ins h c i.c1 i.c2 i.c3 i.c4)
/-- == and != of instances by the class's own == -/
def EqF (P : Program) (w : World) (K : PySem.W.Frag) (mg : Str → Option Value) (base : Heap) (k : Nat) (C : Addr) (sp : Sp) : Prop :=
  ∃ g, PySem.W.findIn K (.ref C) "__eq__" = some (some (.ref g)) ∧ PySem.W.isFn K (.ref g) = true ∧ FnR P w K mg base CX0 k g sp ∧ PySem.W.findIn K (.ref C) "__ne__" = some (some (.builtin "object.__ne__")) ∧ PySem.W.mroIn K C (.type "object") = some true
theorem EqF.mono {P : Program} {w : World} {K : PySem.W.Frag} {mg : Str → Option Value} {base : Heap} {j k : Nat} {C : Addr} {sp : Sp} (c : EqF P w K mg base j C sp) (h : j ≤ k) : EqF P w K mg base k C sp := by
  obtain ⟨g, a, b, d, e⟩ := c
  exact ⟨g, a, b, d.mono h, e⟩
section
variable {X : Cx} {C : Addr} {n : Nat} {sp : Sp}
theorem op_eqO (c : EqF X.prog X.w X.K X.mg X.base n C sp) (hr : Room n X.A) : OpR X (compareOp .Eq) (rOwnI C sp E0) := by
  obtain ⟨g, a, b, d, e⟩ := c
  exact op_eqI a b d hr pass0
theorem op_neO (c : EqF X.prog X.w X.K X.mg X.base n C sp) (hr : Room (n + 1) X.A) : OpR X (compareOp .NotEq) (rNeI C sp E0) := by
  obtain ⟨g, a, b, d, e, h⟩ := c
  exact op_neI e h a b d hr pass0
end
/-! ### len, repr, bool of an instance by the class's own defs -/
def OwnF (P : Program) (w : World) (K : PySem.W.Frag) (mg : Str → Option Value) (base : Heap) (k : Nat) (C : Addr) (m : Str) (sp : Sp) : Prop :=
  ∃ g, PySem.W.findIn K (.ref C) m = some (some (.ref g)) ∧ PySem.W.isFn K (.ref g) = true ∧ FnR P w K mg base CX0 k g sp
theorem OwnF.mono {P : Program} {w : World} {K : PySem.W.Frag} {mg : Str → Option Value} {base : Heap} {j k : Nat} {C : Addr} {m : Str} {sp : Sp} (c : OwnF P w K mg base j C m sp) (h : j ≤ k) : OwnF P w K mg base k C m sp := by
  obtain ⟨g, a, b, d⟩ := c
  exact ⟨g, a, b, d.mono h⟩
def rLenO (C : Addr) (sp : Sp) : List V → Hp → VK → Prop := fun xs H Q => ∃ a dx fs, xs = [V.ref a] ∧ H a = some (.ins C dx fs) ∧ sp [.ref a] H (fun v H' => ∃ n : Int, v = .int n ∧ 0 ≤ n ∧ n < 2 ^ 63 ∧ Q v H') E0
def rReprO (C : Addr) (sp : Sp) : List V → Hp → VK → Prop := fun xs H Q => ∃ a dx fs, xs = [V.ref a] ∧ H a = some (.ins C dx fs) ∧ sp [.ref a] H (fun v H' => ∃ n : Str, v = .str n ∧ Q v H') E0
def rBoolO (C : Addr) (sp : Sp) : List V → Hp → VK → Prop := fun xs H Q => ∃ a dx fs, xs = [V.ref a] ∧ H a = some (.ins C dx fs) ∧ sp [.ref a] H (fun v H' => ∃ n : Int, v = .int n ∧ 0 ≤ n ∧ n < 2 ^ 63 ∧ Q (.bl (n != 0)) H') E0
section
variable {X : Cx} {C : Addr} {n : Nat} {sp : Sp}
theorem call_lenO (c : OwnF X.prog X.w X.K X.mg X.base n C "__len__" sp) (hr : Room (n + 1) X.A) : CallR X (.builtin "len") (rLenO C sp) := by
  intro pins s σ H xs us Q I r h
  obtain ⟨a, dx, fs, rfl, ha, q⟩ := h
  obtain rfl := Vals.ref1 r
  obtain ⟨g, hs, hf, F⟩ := c
  obtain ⟨mA, J, _⟩ := ins_get I.hok ha
  obtain ⟨od, J, _⟩ := J.look
  obtain ⟨m, fr⟩ := I.fr
  have hr1 : Room n X.A.in1 := Room.in1 hr
  refine PySem.W.len_K fr I.ok.mod.kin J hs hf (wpAny_mono (wpAny_call (SlX.run_at (us := [.ref a]) (ws := [.ref a]) F hr1 I.env0.in1 pass0 I (.cons rfl .nil) q)) (fun v s' z => ?_) fun _ _ x => x)
  obtain ⟨z', H', I', rz, i, rfl, h0, h1, qz⟩ := z
  obtain ⟨t, rfl⟩ := (show ∃ t, v = Value.int i t from rz)
  exact ⟨⟨h0, h1⟩, .int i, H', I'.tok _, ⟨_, rfl⟩, qz⟩
theorem call_reprO (c : OwnF X.prog X.w X.K X.mg X.base n C "__repr__" sp) (hr : Room (n + 1) X.A) : CallR X (.builtin "repr") (rReprO C sp) := by
  intro pins s σ H xs us Q I r h
  obtain ⟨a, dx, fs, rfl, ha, q⟩ := h
  obtain rfl := Vals.ref1 r
  obtain ⟨g, hs, hf, F⟩ := c
  obtain ⟨mA, J, _⟩ := ins_get I.hok ha
  obtain ⟨od, J, _⟩ := J.look
  obtain ⟨m, fr⟩ := I.fr
  have hr1 : Room n X.A.in1 := Room.in1 hr
  refine PySem.W.repr_K hr1.units0 fr I.ok.mod.kin J hs hf (wpAny_mono (wpAny_call (SlX.run_at (us := [.ref a]) (ws := [.ref a]) F hr1 I.env0.in1 pass0 I (.cons rfl .nil) q)) (fun v s' z => ?_) fun _ _ x => x)
  obtain ⟨z', H', I', rz, i, rfl, qz⟩ := z
  obtain ⟨t, rfl⟩ := (show ∃ t, v = Value.str i t from rz)
  exact ⟨.str i, H', I', ⟨_, rfl⟩, qz⟩
end
section
variable {prog : Program} {w : World} {A : Around} {E : Value → Shared → Prop} {s : Shared} {K : PySem.W.Frag} {x C f : Addr} {ox : Obj} {od : Option Obj}
theorem len_bodyO {Q : Value → Shared → Prop} (X : K.In s.heap) (I : PySem.W.InstAt s.heap x ox C od) (hs : PySem.W.findIn K (.ref C) "__len__" = some (some (.ref f))) (hf : PySem.W.isFn K (.ref f) = true)
    (h : wpAny (model prog w) A (call (.ref f) [.ref x]) (PySem.W.LenBack Q) E s) : wpAny (model prog w) A (Builtin.«len» ⟨[.ref x], []⟩) (fun fin s' => ∃ r, fin = .done (.ret r) ∧ Q r s') E s := by
  unfold Builtin.«len»
  refine wpAny_bind (m := oneArg "len" _) (wpAny_pure ?_)
  refine wpAny_bind (m := callSpecial? (.ref x) (Str.ofString "__len__")) (PySem.W.special_fn X I hs (beq_iff_eq.mp hf) (wpAny_mono h (fun r s' hr => ?_) fun _ _ y => y))
  cases r <;> first | exact hr.elim | skip
  rename_i n u
  obtain ⟨⟨h0, h1⟩, hq⟩ := hr
  refine wpAny_bind (wpAny_holding (wpAny_pure ?_))
  refine wpAny_bind (wpAny_letGo ?_)
  show wpAny _ _ (if n < 0 then _ else _) _ _ _
  rw [if_neg (by omega)]
  show wpAny _ _ (if n ≥ 2 ^ 63 then _ else _) _ _ _
  rw [if_neg (by omega)]
  exact wpAny_bind (wpAny_mkInt (wpAny_pure ⟨_, rfl, hq⟩))
theorem truthyO {Q : Bool → Shared → Prop} (X : K.In s.heap) (I : PySem.W.InstAt s.heap x ox C od) (hb : PySem.W.findIn K (.ref C) "__bool__" = some none) (hs : PySem.W.findIn K (.ref C) "__len__" = some (some (.ref f))) (hf : PySem.W.isFn K (.ref f) = true)
    (h : wpAny (model prog w) A.in1 (call (.ref f) [.ref x]) (PySem.W.LenBack (fun v s' => ∃ n t, v = .int n t ∧ Q (n != 0) s')) E s) : wpAny (model prog w) A (truthy (.ref x)) Q E s := by
  have key : wpAny (model prog w) A (runValue (.builtin "len" ⟨[.ref x], []⟩)) (fun r s' => ∃ n t, r = .int n t ∧ Q (n != 0) s') E s := by
    refine wpAny_runValue (codeAny_builtin entry_len ?_)
    rw [Around.under_plainId plain_len _]
    exact wpAny_mono (len_bodyO (Q := fun r s' => ∃ n t, r = .int n t ∧ Q (n != 0) s') X I hs hf h) (fun fin s' h' => by obtain ⟨r, rfl, hq⟩ := h'; exact hq) fun _ _ e => e
  have hsp : ∀ {Q' : Option Value → Shared → Prop}, Q' (some (.ref f)) s → wpAny (model prog w) A (specialOf (.ref x) "__len__") Q' E s := fun q => by
    unfold specialOf
    exact wpAny_bind (I.type.here ((PySem.W.looks_findIn X hs).here q))
  have hno : ∀ {Q' : Option Value → Shared → Prop}, Q' none s → wpAny (model prog w) A (callSpecial? (.ref x) (Str.ofString "__bool__")) Q' E s := fun q => by
    unfold callSpecial? specialOf
    exact wpAny_bind (wpAny_bind (I.type.here ((PySem.W.looks_findIn X hb).here (wpAny_pure q))))
  unfold truthy
  first
    | refine wpAny_bind (hno ?_)
    | refine wpAny_bind (wpAny_pure (wpAny_bind (hno ?_)))
  first
    | refine wpAny_bind (hsp ?_)
    | refine wpAny_bind (wpAny_pure (wpAny_bind (hsp ?_)))
  first
    | exact wpAny_bind (wpAny_mono key (fun r s' h' => by obtain ⟨n, t, rfl, hq⟩ := h'; exact wpAny_pure hq) fun _ _ e => e)
    | exact wpAny_bind (wpAny_pure (wpAny_bind (wpAny_mono key (fun r s' h' => by obtain ⟨n, t, rfl, hq⟩ := h'; exact wpAny_pure hq) fun _ _ e => e)))
theorem meets_boolO (x : Addr) : MeetsIn prog w (Builtin.«bool.__new__» ⟨[.type "bool", .ref x], []⟩) (fun A R s => wpAny (model prog w) A.in1 (truthy (.ref x)) (fun b s' => R (.ok (.ret (.bool b))) s') (fun e s' => R (.error e) s') s) :=
  fun A R s hs => by
    obtain ⟨hp, g, d, tk, os⟩ := s
    have f1 := F.conv_sub_bool
    repeat (any_goals (first | assumption | (with_reducible refine wpAny_bind (wpAny_mono hs (fun b s' h => ?_) fun _ _ e => e)) | wp_step))
    all_goals first | exact ⟨_, rfl, h⟩ | exact h | skip
end
section
variable {X : Cx} {C : Addr} {n : Nat} {sp : Sp}
theorem call_boolO (hb : PySem.W.findIn X.K (.ref C) "__bool__" = some none) (c : OwnF X.prog X.w X.K X.mg X.base n C "__len__" sp) (hr : Room (n + 3) X.A) : CallR X (.type "bool") (rBoolO C sp) := by
  intro pins s σ H xs us Q I r h
  obtain ⟨a, dx, fs, rfl, ha, q⟩ := h
  obtain rfl := Vals.ref1 r
  obtain ⟨g, hs, hf, F⟩ := c
  obtain ⟨mA, J, _⟩ := ins_get I.hok ha
  obtain ⟨od, J, _⟩ := J.look
  have hr2 : Room n X.A.in1.in1.in1 := (show Room (n + 1) X.A.in1.in1 from (show Room (n + 2) X.A.in1 from Room.in1 hr).in1).in1
  refine callType_newIn PySem.F.called_bool PySem.F.newNe_bool (PySem.F.typeCall_bool_1 (.ref a)) (PySem.F.newCall_bool_1 (.ref a)) (fun obj => PySem.F.args_object_init_2 obj (.ref a)) PySem.F.entry_bool_new (meets_boolO a) ?_
  refine truthyO I.kIn J hb hs hf (wpAny_mono (wpAny_call (SlX.run_at (us := [.ref a]) (ws := [.ref a]) F hr2 I.env0.in1.in1.in1 pass0 I (.cons rfl .nil) q)) (fun v s' z => ?_) fun _ _ x => x)
  obtain ⟨z', H', I', rz, i, rfl, h0, h1, qz⟩ := z
  obtain ⟨t, rfl⟩ := (show ∃ t, v = Value.int i t from rz)
  exact ⟨⟨h0, h1⟩, i, _, rfl, rfl, .bl (i != 0), H', I'.tok _, rfl, qz⟩
end
end WB
namespace WB
open PySem PySem.Spec PyProof.Rows L2 Builtin
/-! ### == and != of an instance and something else -/
section
variable {prog : Program} {w : World} {A : Around} {E : Value → Shared → Prop} {s : Shared} {K : PySem.W.Frag} {x C f : Addr} {b tb : Value} {ox : Obj} {od : Option Obj}
theorem call_objNeY {Q : Value → Shared → Prop} (hu : A.in1.units < cLine) (X : K.In s.heap) (I : PySem.W.InstAt s.heap x ox C od) (hm : PySem.W.mroIn K C (.type "object") = some true)
    (hs : PySem.W.findIn K (.ref C) "__eq__" = some (some (.ref f))) (hf : PySem.W.isFn K (.ref f) = true)
    (h : wpAny (model prog w) A.in1 (call (.ref f) [.ref x, b]) (fun v s' => ∃ t, v = .bool t ∧ Q (.bool (!t)) s') E s) :
    wpAny (model prog w) A (call (.builtin "object.__ne__") [.ref x, b]) Q E s := by
  refine wpAny_call (codeAny_call_builtin F.cmp_object.ne.plain F.cmpEntry_ne (PySem.W.check_slot F.cmpKind_ne F.cmpSplit_ne (I.type.andThen (PySem.W.looks_mroIn X hm)) (F.cmpArgs_ne _ _) ?_))
  unfold Builtin.«object.__ne__»
  repeat (first | with_reducible refine wpAny_cRoomFor hu ?_ | with_reducible refine PySem.W.ifBound_K X I hs hf (wpAny_mono h (fun v s' hv => ?_) fun _ _ e => e) | wp_step)
  obtain ⟨t, rfl, q⟩ := hv
  exact wpAny_bind (wpAny_truthy_bool (wpAny_pure q))
theorem neY_K {Q : Value → Shared → Prop} (hu : A.units < cLine) (hu1 : A.in1.units < cLine) (X : K.In s.heap) (I : PySem.W.InstAt s.heap x ox C od) (hb : PySem.W.Looks (model prog w) s.heap (typeOf b) tb) (hn : PySem.W.notFirst K C tb = true)
    (hne : PySem.W.findIn K (.ref C) "__ne__" = some (some (.builtin "object.__ne__"))) (hm : PySem.W.mroIn K C (.type "object") = some true) (hs : PySem.W.findIn K (.ref C) "__eq__" = some (some (.ref f))) (hf : PySem.W.isFn K (.ref f) = true)
    (h : wpAny (model prog w) A.in1 (call (.ref f) [.ref x, b]) (fun v s' => ∃ t, v = .bool t ∧ Q (.bool (!t)) s') E s) : wpAny (model prog w) A (richCompare .NotEq (.ref x) b) Q E s := by
  have one : wpAny (model prog w) A (tryCompare (.ref x) (cmpInfo .NotEq).2.1 b) (fun r s' => ∃ v, r = some v ∧ Q v s') E s := by
    unfold tryCompare
    refine wpAny_bind (ifBound_objNe X I hne (call_objNeY hu1 X I hm hs hf (wpAny_mono h (fun v s' hv => ?_) fun _ _ e => e)))
    obtain ⟨t, rfl, q⟩ := hv
    exact ⟨t, rfl, wpAny_pure ⟨_, rfl, q⟩⟩
  unfold richCompare
  simp only [oneThing_ref]
  refine wpAny_holding (wpAny_bind (wpAny_cRoomFor hu ?_))
  refine wpAny_bind (I.type.here (wpAny_bind (hb.here ?_)))
  split
  · rename_i q
    have e : PySem.W.subIn K tb (.ref C) = some false := by
      rcases Bool.or_eq_true_iff.mp hn with e | e
      · rw [beq_iff_eq.mp e] at q; simp at q
      · exact beq_iff_eq.mp e
    refine wpAny_bind ((PySem.W.looks_subIn X e).here ?_)
    simp only [Bool.false_eq_true, if_false]
    refine wpAny_bind (wpAny_mono one (fun r s' z => ?_) fun _ _ e => e)
    obtain ⟨v, rfl, hq⟩ := z
    exact wpAny_pure hq
  · refine wpAny_bind (wpAny_pure ?_)
    simp only [Bool.false_eq_true, if_false]
    refine wpAny_bind (wpAny_mono one (fun r s' z => ?_) fun _ _ e => e)
    obtain ⟨v, rfl, hq⟩ := z
    exact wpAny_pure hq
end
def TyY (H : Hp) : V → Value → Prop := fun y t => (∃ p xs, y = .ref p ∧ H p = some (.lst xs) ∧ t = .type "list") ∨ (∃ x, y = .str x ∧ t = .type "str") ∨ (∃ i, y = .int i ∧ t = .type "int")
theorem tyY_looks {X : Cx} {pins : List (Addr × Obj)} {σ : L2.St} {H : Hp} {s : Shared} {y : V} {u t : Value} (I : Inv X pins σ H s) (ry : RelV y u) (h : TyY H y t) : PySem.W.Looks (model X.prog X.w) s.heap (typeOf u) t := by
  rcases h with ⟨p, xs, rfl, hp, rfl⟩ | ⟨x, rfl, rfl⟩ | ⟨i, rfl, rfl⟩
  · cases (show u = Value.ref p from ry)
    obtain ⟨_, _, n, _, h1⟩ := (show ObjOk X.prog X.w H s.heap p (.lst xs) from I.hok p _ hp)
    exact fun A Q E s' k q => wpAny_typeOf_ref (k _ _ h1) q
  · obtain ⟨t, rfl⟩ := (show ∃ t, u = Value.str x t from ry)
    exact fun A Q E s' k q => wpAny_pure q
  · obtain ⟨t, rfl⟩ := (show ∃ t, u = Value.int i t from ry)
    exact fun A Q E s' k q => wpAny_pure q
def rEqY (K : PySem.W.Frag) (C : Addr) (sp : Sp) : R2 := fun x y H Q => ∃ a dx fs t, x = .ref a ∧ H a = some (.ins C dx fs) ∧ TyY H y t ∧ PySem.W.subIn K t (.ref C) = some false ∧ sp [x, y] H Q E0
def rNeY (K : PySem.W.Frag) (C : Addr) (sp : Sp) : R2 := fun x y H Q => ∃ a dx fs t, x = .ref a ∧ H a = some (.ins C dx fs) ∧ TyY H y t ∧ PySem.W.subIn K t (.ref C) = some false ∧ sp [x, y] H (fun v H' => ∃ t, v = .bl t ∧ Q (.bl (!t)) H') E0
section
variable {X : Cx} {C : Addr} {n : Nat} {sp : Sp} (K : PySem.W.Frag)
theorem op_eqY (hK : X.K = K) (c : EqF X.prog X.w X.K X.mg X.base n C sp) (hr : Room n X.A) : OpR X (compareOp .Eq) (rEqY K C sp) := by
  subst hK
  obtain ⟨g, hs, hf, F, hne, hm⟩ := c
  intro pins s σ H x y v u Q I rx ry h
  obtain ⟨a, dx, fs, t, rfl, ha, ht, hsub, q⟩ := h
  cases (show v = Value.ref a from rx)
  obtain ⟨mA, J, _⟩ := ins_get I.hok ha
  obtain ⟨od, J, _⟩ := J.look
  obtain ⟨m, hF⟩ := I.fr
  show wpAny _ _ (richCompare .Eq (.ref a) u) _ _ _
  refine PySem.W.cmp_K (op := .Eq) (tb := t) hr.units0 hF I.ok.mod.kin J (tyY_looks I ry ht) (by unfold PySem.W.notFirst; rw [hsub]; simp) hs hf ?_
  refine wpAny_mono (wpAny_call (run_fnR (us := [.ref a, u]) (vs := [.ref a, y]) F hr pass0 I (.cons rfl (.cons ry .nil)) q)) (fun w s' z => ?_) fun _ _ x => x
  obtain ⟨z', H', I', rz, qz⟩ := z
  exact SlX.cmpback rz ⟨z', H', I', rz, qz⟩
theorem op_neY (hK : X.K = K) (c : EqF X.prog X.w X.K X.mg X.base n C sp) (hr : Room (n + 1) X.A) : OpR X (compareOp .NotEq) (rNeY K C sp) := by
  subst hK
  obtain ⟨g, hs, hf, F, hne, hm⟩ := c
  intro pins s σ H x y v u Q I rx ry h
  obtain ⟨a, dx, fs, t, rfl, ha, ht, hsub, q⟩ := h
  cases (show v = Value.ref a from rx)
  obtain ⟨mA, J, _⟩ := ins_get I.hok ha
  obtain ⟨od, J, _⟩ := J.look
  have hr1 : Room n X.A.in1 := Room.in1 hr
  refine neY_K (tb := t) hr.units0 hr1.units0 I.kIn J (tyY_looks I ry ht) (by unfold PySem.W.notFirst; rw [hsub]; simp) hne hm hs hf (wpAny_mono (wpAny_call (SlX.run_at (us := [.ref a, u]) (ws := [.ref a, y]) F hr1 I.env0.in1 pass0 I (.cons rfl (.cons ry .nil)) q)) (fun w s' z => ?_) fun _ _ x => x)
  obtain ⟨z', H', I', rz, t', rfl, qz⟩ := z
  cases (show w = Value.bool t' from rz)
  exact ⟨t', rfl, .bl (!t'), H', I', rfl, qz⟩
end
end WB
namespace WB
open PySem PySem.Spec PyProof.Rows L2
/-! ### what a call makes of a thing, and the run of a method within its own things -/
instance : NT (tG []) := ⟨fun H h a ha => by cases ha⟩
instance (T : Th) (Ts : List Th) [i : NT T] [j : NT (tG Ts)] : NT (tG (T :: Ts)) := ⟨fun H h a ha o e => by
  have g : Hs [] (T :: Ts) H := h
  have ha : a ∈ (T :: Ts).flatMap (·.ft) := ha
  rw [List.flatMap_cons] at ha
  rcases List.mem_append.mp ha with q | q
  · exact i.nt H g.head a q o e
  · exact j.nt H g.tail a q o e⟩
instance (r C dx : Addr) (fs : List (Str × V)) : NT (tO r (.ins C dx fs)) := ⟨fun H h b hb o e => by
  rw [in1 hb, h.1] at e
  cases e
  trivial⟩
instance (r : Addr) (ks : List (Key × V)) : NT (tO r (.dK ks)) := ⟨fun H h b hb o e => by
  rw [in1 hb, h.1] at e
  cases e
  trivial⟩
/-- T became these things, all of them of its places or new -/
structure Up (T : Th) (Us : List Th) (H H' : Hp) : Prop where
  mv : MvF T.ft H H'
  nt : ∀ a o, H a = some o → ¬ noT o → H' a = some o
  hs : Hs [] Us H'
  ow : ∀ x ∈ Us, ∀ a ∈ x.ft, a ∈ T.ft ∨ H a = none
theorem nt_of {T : Th} [i : NT T] {H H' : Hp} (h : T.P H) (m : MvF T.ft H H') : ∀ a o, H a = some o → ¬ noT o → H' a = some o := fun a o e n => m.kp a o (fun z => n (i.nt H h a z o e)) e
section
variable {K : PySem.W.Frag} {L : List (Addr × List V)} {T0 : List (Addr × Str)} {Ts Us : List Th} {T : Th} {H H' : Hp}
theorem Hs.upH (h : Hs T0 (T :: Ts) H) (u : Up T Us H H') : Hs T0 (Us ++ Ts) H' := by
  have t : Hs T0 Ts H' := by
    refine ⟨fun i x hi => x.loc H H' (fun a ha o e => u.mv.kp a o (fun z => ?_) e) (h.tail.all i x hi), h.tail.sep, tabs_keep h.tab fun a o e np => u.mv.kp a o (fun z => ?_) e⟩
    · exact h.apart (List.mem_of_getElem? hi) a z ha
    · obtain ⟨o', e1, e2⟩ := T.al H h.head a z
      rw [e1] at e
      cases e
      exact np e2
  refine Hs.app u.hs t (fun x hx y hy a ha hb => ?_)
  rcases u.ow x hx a ha with z | z
  · exact h.apart hy a z hb
  · obtain ⟨i, hi⟩ := List.getElem?_of_mem hy
    exact y.live (h.tail.all i y hi) hb z
theorem Hw.upH (h : Hw K L T0 (T :: Ts) H) (u : Up T Us H H') : Hw K L T0 (Us ++ Ts) H' := ⟨h.hs.upH u, fun p hp => sqT_keep (fun o e n => u.nt _ o e n) (h.tf p hp)⟩
theorem Hw.frontI (h : Hw K L T0 Ts H) (i : Nat) (hi : Ts[i]? = some T) : Hw K L T0 (T :: Ts.eraseIdx i) H := ⟨h.hs.perm (perm_at hi).symm, h.tf⟩
theorem Hw.up (h : Hw K L T0 Ts H) (i : Nat) (hi : Ts[i]? = some T) (u : Up T Us H H') : Hw K L T0 (Us ++ Ts.eraseIdx i) H' := (h.frontI i hi).upH u
/-- only new things came -/
theorem Hw.upN (h : Hw K L T0 Ts H) (u : Up (tG []) Us H H') : Hw K L T0 (Us ++ Ts) H' := Hw.upH (T := tG []) ⟨Hs.group (Ts := []) h.hs, h.tf⟩ u
end
/-- within a call: the own things, what changed since its beginning -/
structure Rn (K : PySem.W.Frag) (H0 : Hp) (F : List Addr) (L : List (Addr × List V)) (Ts : List Th) (H : Hp) : Prop where
  hw : Hw K L [] Ts H
  mv : MvF F H0 H
  nt : ∀ a o, H0 a = some o → ¬ noT o → H a = some o
  ow : ∀ x ∈ Ts, ∀ a ∈ x.ft, a ∈ F ∨ H0 a = none
section
variable {K : PySem.W.Frag} {L L' : List (Addr × List V)} {Ts Us As Bs : List Th} {T T' : Th} {H0 H H' : Hp} {F : List Addr} {a p : Addr} {xs ys : List V} {o o' : HO}
theorem Rn.start {Ts : List Th} (h : (tG Ts).P H) : Rn K H (tG Ts).ft [] Ts H := ⟨.of h, .refl _ _, fun _ _ e _ => e, fun x hx a ha => .inl (List.mem_flatMap.mpr ⟨x, hx, ha⟩)⟩
theorem Rn.start0 : Rn K H [] [] [] H := ⟨.of .nil0, .refl _ _, fun _ _ e _ => e, fun x hx => absurd hx List.not_mem_nil⟩
theorem Rn.at (h : Rn K H0 F L Ts H) (i : Nat) (hi : Ts[i]? = some (tO p o)) : H p = some o := h.hw.at i hi
theorem Rn.get (h : Rn K H0 F L Ts H) (i : Nat) (hi : Ts[i]? = some T) : T.P H := h.hw.get i hi
theorem Rn.tup (h : Rn K H0 F L Ts H) (i : Nat) (hi : L[i]? = some (a, xs)) : SqT K H a xs := h.hw.tup i hi
theorem Rn.same (h : Rn K H0 F L Ts H) (s : Same H H') : Rn K H0 F L Ts H' := ⟨h.hw.same s, h.mv.same s, fun a o e n => s a o (h.nt a o e n), h.ow⟩
theorem Rn.know (h : Rn K H0 F L Ts H) (t : SqT K H a xs) : Rn K H0 F ((a, xs) :: L) Ts H := ⟨h.hw.know t, h.mv, h.nt, h.ow⟩
theorem Rn.knows (h : Rn K H0 F L Ts H) (t : TF K L' H) : Rn K H0 F (L' ++ L) Ts H := ⟨⟨h.hw.hs, fun p hp => (List.mem_append.mp hp).elim (t p) (h.hw.tf p)⟩, h.mv, h.nt, h.ow⟩
theorem Rn.selT (h : Rn K H0 F L Ts H) (hs : ∀ q ∈ L', q ∈ L) : Rn K H0 F L' Ts H := ⟨h.hw.selT hs, h.mv, h.nt, h.ow⟩
theorem mem_pickTs : ∀ {is : List Nat} {x : Th}, x ∈ pickTs Ts is → x ∈ Ts := fun {is x} h => by
  obtain ⟨k, hk⟩ := List.getElem?_of_mem h
  obtain ⟨i, _, q⟩ := mem_pick hk
  exact List.mem_of_getElem? q
theorem Rn.sel (h : Rn K H0 F L Ts H) (is : List Nat) (hn : is.Nodup) : Rn K H0 F L (pickTs Ts is) H := ⟨h.hw.sel is hn, h.mv, h.nt, fun x hx => h.ow x (mem_pickTs hx)⟩
theorem Rn.free (h : Rn K H0 F L Ts H) (n : H p = none) : H0 p = none := h.mv.free n
theorem Rn.keep (h : Rn K H0 F L Ts H) (n : a ∉ F) (e : H0 a = some o) : H a = some o := h.mv.kp a o n e
theorem Rn.keepT (h : Rn K H0 F L Ts H) (e : SqT K H0 a xs) : SqT K H a xs := sqT_keep (fun o e n => h.nt _ o e n) e
theorem sqL_keep {H H' : Hp} (kp : ∀ o, H a = some o → H' a = some o) (h : SqL K H a xs) : SqL K H' a xs := by
  rcases h with (h | ⟨o, h⟩) | h
  · exact .inl (.inl (kp _ h))
  · exact .inl (.inr ⟨o, kp _ h⟩)
  · exact .inr h
theorem Rn.keepL (h : Rn K H0 F L Ts H) (n : a ∉ F) (e : SqL K H0 a xs) : SqL K H a xs := sqL_keep (fun o e => h.mv.kp _ o n e) e
theorem Rn.up (h : Rn K H0 F L Ts H) (i : Nat) (hi : Ts[i]? = some T) (u : Up T Us H H') : Rn K H0 F L (Us ++ Ts.eraseIdx i) H' := by
  have hT := h.ow T (List.mem_of_getElem? hi)
  refine ⟨h.hw.up i hi u, h.mv.trans2 u.mv hT, fun a o e n => u.nt a o (h.nt a o e n) n, fun x hx a ha => ?_⟩
  rcases List.mem_append.mp hx with q | q
  · rcases u.ow x q a ha with z | z
    · exact hT a z
    · exact .inr (h.free z)
  · exact h.ow x (List.mem_of_mem_eraseIdx q) a ha
theorem Rn.upN (h : Rn K H0 F L Ts H) (u : Up (tG []) Us H H') : Rn K H0 F L (Us ++ Ts) H' := by
  refine ⟨h.hw.upN u, h.mv.same u.mv.toSame, fun a o e n => u.nt a o (h.nt a o e n) n, fun x hx a ha => ?_⟩
  rcases List.mem_append.mp hx with q | q
  · rcases u.ow x q a ha with z | z
    · cases z
    · exact .inr (h.free z)
  · exact h.ow x q a ha
theorem up_put {p : Addr} {o o' : HO} (e : H p = some o) (n : noT o) (pl : plain o' := by exact trivial) : Up (tO p o) [tO p o'] H (upd H p o') := by
  have m : MvF [p] H (upd H p o') := (MvF.refl [p] H).upd (.head _)
  refine ⟨m, fun a u eu nu => m.kp a u (fun z => ?_) eu, Hs.nil0.cons ⟨upd_same, pl⟩ (fun j y hj => by cases hj), fun x hx a ha => ?_⟩
  · rw [in1 z, e] at eu
    cases eu
    exact nu n
  · rw [List.mem_singleton.mp hx] at ha
    exact .inl ha
theorem up_new {p : Addr} {o : HO} (n : H p = none) (pl : plain o := by exact trivial) : Up (tG []) [tO p o] H (upd H p o) :=
  ⟨.of (same_upd n), fun a u e _ => same_upd n a u e, Hs.nil0.cons ⟨upd_same, pl⟩ (fun j y hj => by cases hj), fun x hx a ha => by
    rw [List.mem_singleton.mp hx] at ha
    rw [in1 ha]
    exact .inr n⟩
theorem up_newS {p : Addr} {o : HO} (s : Same H H') (n : H p = none) (e : H' p = some o) (pl : plain o := by exact trivial) : Up (tG []) [tO p o] H H' :=
  ⟨.of s, fun a u e _ => s a u e, Hs.nil0.cons ⟨e, pl⟩ (fun j y hj => by cases hj), fun x hx a ha => by
    rw [List.mem_singleton.mp hx] at ha
    rw [in1 ha]
    exact .inr n⟩
theorem Rn.put (h : Rn K H0 F L Ts H) (i : Nat) (hi : Ts[i]? = some (tO p o)) (n : noT o := by exact trivial) (pl : plain o' := by exact trivial) : Rn K H0 F L ([tO p o'] ++ Ts.eraseIdx i) (upd H p o') := h.up i hi (up_put (h.at i hi) n pl)
theorem Rn.newL (h : Rn K H0 F L Ts H) (n : H p = none) : Rn K H0 F L (tL p xs :: Ts) (upd H p (.lst xs)) := h.upN (up_new n)
theorem Rn.newO (h : Rn K H0 F L Ts H) (n : H p = none) (pl : plain o := by exact trivial) : Rn K H0 F L (tO p o :: Ts) (upd H p o) := h.upN (up_new n pl)
theorem Rn.newS (h : Rn K H0 F L Ts H) (s : Same H H') (n : H p = none) (e : H' p = some o) (pl : plain o := by exact trivial) : Rn K H0 F L (tO p o :: Ts) H' := h.upN (up_newS s n e pl)
theorem Rn.newT (h : Rn K H0 F L Ts H) (n : H p = none) : Rn K H0 F ((p, xs) :: L) Ts (upd H p (.tup xs)) := (h.same (same_upd n)).know (SqT.of upd_same)
theorem flat_ft {a : Addr} (ha : a ∈ (tG As).ft) : ∃ x ∈ As, a ∈ x.ft := List.mem_flatMap.mp ha
theorem Rn.grp {As Bs : List Th} (h : Rn K H0 F L (As ++ Bs) H) : Rn K H0 F L (tG As :: Bs) H := ⟨⟨h.hw.hs.group, h.hw.tf⟩, h.mv, h.nt, fun x hx a ha => by
  rcases List.mem_cons.mp hx with q | q
  · rw [q] at ha
    obtain ⟨y, hy, ha⟩ := flat_ft ha
    exact h.ow y (List.mem_append_left _ hy) a ha
  · exact h.ow x (List.mem_append_right _ q) a ha⟩
theorem Rn.ungrp {As Bs : List Th} (h : Rn K H0 F L (tG As :: Bs) H) : Rn K H0 F L (As ++ Bs) H := ⟨⟨h.hw.hs.ungroup, h.hw.tf⟩, h.mv, h.nt, fun x hx a ha => by
  rcases List.mem_append.mp hx with q | q
  · exact h.ow (tG As) (.head _) a (List.mem_flatMap.mpr ⟨x, q, ha⟩)
  · exact h.ow x (.tail _ q) a ha⟩
theorem Rn.out (h : Rn K H0 (tG As).ft L Us H) : Up (tG As) Us H0 H := ⟨h.mv, h.nt, h.hw.hs.tabs0, fun x hx a ha => h.ow x hx a ha⟩
theorem Rn.out0 (h : Rn K H0 [] L Us H) : Up (tG []) Us H0 H := ⟨h.mv, h.nt, h.hw.hs.tabs0, fun x hx a ha => h.ow x hx a ha⟩
theorem Hw.grp {T0 : List (Addr × Str)} {As Bs : List Th} (h : Hw K L T0 (As ++ Bs) H) : Hw K L T0 (tG As :: Bs) H := ⟨h.hs.group, h.tf⟩
theorem Hw.ungrp {T0 : List (Addr × Str)} {As Bs : List Th} (h : Hw K L T0 (tG As :: Bs) H) : Hw K L T0 (As ++ Bs) H := ⟨h.hs.ungroup, h.tf⟩
/-- a thing taken apart, one of its own changed, put together again -/
theorem Up.refl (T : Th) (h : T.P H) : Up T [T] H H := ⟨.refl _ _, fun _ _ e _ => e, Hs.nil0.cons h (fun j y hj => by cases hj), fun x hx a ha => by rw [List.mem_singleton.mp hx] at ha; exact .inl ha⟩
end
end WB
namespace WB
open PySem PySem.Spec PyProof.Rows L2
/-! ### list(zip(xs, ys)) of two lists -/
theorem zl_no_len : typeLookup (.type "zip") "__len__" = pure none := by rw [typeLookup_type, builtinLookup_eq_fast]; kernel_rfl
theorem zl_no_hint : typeLookup (.type "zip") "__length_hint__" = pure none := by rw [typeLookup_type, builtinLookup_eq_fast]; kernel_rfl
/-- how far the zip is -/
def ZlAt (h : Heap) (z TI TO i1 i2 a b S : Addr) (i : Nat) : Prop :=
  IsPair h TI (.ref i1) (.ref i2) ∧ h.IsListIter i1 a i ∧ h.IsListIter i2 b i ∧
    ((IsZip h z TI TO .none ∧ ∃ x y, IsPair h TO x y) ∨ ∃ T f oT, IsZipHeld h z TI TO T f ∧ h.get? T = some oT ∧ T ≠ z ∧ T ≠ i1 ∧ T ≠ i2 ∧ T ≠ S) ∧ ∃ o, h.get? TO = some o
theorem ZlAt.but {h h' : Heap} {z TI TO i1 i2 a b S : Addr} {i : Nat} (x : ZlAt h z TI TO i1 i2 a b S i) (n1 : S ≠ z) (n2 : S ≠ TI) (n3 : S ≠ TO) (n4 : S ≠ i1) (n5 : S ≠ i2) (k : ∀ c o, c ≠ S → h.get? c = some o → h'.get? c = some o) : ZlAt h' z TI TO i1 i2 a b S i := by
  obtain ⟨x1, x2, x3, x4, oO, hO'⟩ := x
  refine ⟨k _ _ (Ne.symm n2) x1, x2.at fun o e => k _ o (Ne.symm n4) e, x3.at fun o e => k _ o (Ne.symm n5) e, ?_, oO, k _ _ (Ne.symm n3) hO'⟩
  rcases x4 with ⟨hz, x, y, hO⟩ | ⟨T, f, oT, hz, hT, r1, r2, r3, r4⟩
  · exact .inl ⟨k _ _ (Ne.symm n1) hz, x, y, k _ _ (Ne.symm n3) hO⟩
  · exact .inr ⟨T, f, oT, k _ _ (Ne.symm n1) hz, k _ _ r4 hT, r1, r2, r3, r4⟩
structure ZlOut (K : PySem.W.Frag) (H H' : Hp) (S : Addr) (xs ys : List V) (n : Nat) : Prop where
  same : ∀ c o, c ≠ S → H c = some o → H' c = some o
  lst : ∃ ts : List Addr, H' S = some (.lst (ts.map V.ref)) ∧ ts.length = n ∧ ∀ (j : Nat) (t : Addr), ts[j]? = some t → t ≠ S ∧ H t = none ∧ ∃ x y, xs[j]? = some x ∧ ys[j]? = some y ∧ H' t = some (.tup [x, y])
section
variable {X : Cx} {pins : List (Addr × Obj)} {σ : L2.St} {xs ys : List V} {z TI TO i1 i2 a b S : Addr}
theorem zl_loop (hc : X.calm = true) (D : ZipApart z TI TO i1 i2 a b) (S1 : S ≠ z) (S2 : S ≠ TI) (S3 : S ≠ TO) (S4 : S ≠ i1) (S5 : S ≠ i2) (hn : xs.length ≤ sizeLine) (hl : xs.length = ys.length) {H0 : Hp} {A : Around} (hA : A.handled = none) {R : Result → Shared → Prop}
    (hR : ∀ H' s', Inv X pins σ H' s' → ZlOut X.K H0 H' S xs ys xs.length → R (.ok (.ret .none)) s') :
    ∀ (k i : Nat) (H : Hp) (s : Shared), xs.length - i = k → i ≤ xs.length → Inv X pins σ H s → (∀ c ∈ [z, TI, TO, i1, i2], FpOk X pins H c) → SqL X.K H a xs → SqL X.K H b ys → ZlAt s.heap z TI TO i1 i2 a b S i → ZlOut X.K H0 H S xs ys i → a ≠ S → b ≠ S →
      codeAny (model X.prog X.w) A (.builtin "list.extend.loop" ⟨[.ref S, .ref z, .none], []⟩) R s := by
  intro k
  induction k with
  | zero =>
    intro i H s hk hi I hf qa qb st out aS bS
    have hin : i = xs.length := by omega
    subst hin
    obtain ⟨its, rv, pa, _⟩ := I.list qa
    obtain ⟨its2, rv2, pb, _⟩ := I.list qb
    have l1 := rv.length
    have he : its.toArray[xs.length]? = none ∨ its2.toArray[xs.length]? = none := .inl (by simp; omega)
    refine codeAny_builtin PySem.F.entry_extend_loop ?_
    rw [Around.under_plainId PySem.F.plain_extend_loop _]
    show wpAny _ A.in1 (pyNext (.ref z) >>= _) _ _ _
    obtain ⟨hI, h1, h2, hz, oO, hO'⟩ := st
    have fin : ∀ h', (∀ c o, c ≠ z → c ≠ TO → c ≠ i1 → c ≠ i2 → s.heap.get? c = some o → h'.get? c = some o) → R (.ok (.ret .none)) { s with heap := h' } := fun h' hk' =>
      hR H _ (I.turnedL (t' := s.toks) (ch := [z, TI, TO, i1, i2]) (fun c o hb q => hk' c o (fun q' => hb (by simp [q'])) (fun q' => hb (by simp [q'])) (fun q' => hb (by simp [q'])) (fun q' => hb (by simp [q'])) q) hf) out
    rcases hz with ⟨hz, x, y, hO⟩ | ⟨T, f, oT, hz, hT, r1, r2, r3, r4⟩
    · exact wpAny_bind (wpAny_pyNext_zip_end (A := A.in1) hA D hz hI hO h1 h2 pa.isList pb.isList he fun h' hk' => wpAny_pure (fin h' hk'))
    · exact wpAny_bind (wpAny_pyNext_zip_end_held (A := A.in1) hA D hz hT hI h1 h2 pa.isList pb.isList he fun h' hk' => wpAny_pure (fin h' fun c o c1 _ c3 c4 e => hk' c o c1 c3 c4 e))
  | succ k ih =>
    intro i H s hk hi I hf qa qb st out aS bS
    have hlt : i < xs.length := by omega
    obtain ⟨its, rv, pa, _⟩ := I.list qa
    obtain ⟨its2, rv2, pb, _⟩ := I.list qb
    obtain ⟨x, hx⟩ := getElem?_ex hlt
    obtain ⟨y, hy⟩ := getElem?_ex (show i < ys.length by omega)
    obtain ⟨u, hu, ru⟩ := rv.get hx
    obtain ⟨v, hv, rw_⟩ := rv2.get hy
    have ex : its.toArray[i]? = some u := by simpa using hu
    have ey : its2.toArray[i]? = some v := by simpa using hv
    refine codeAny_builtin PySem.F.entry_extend_loop ?_
    rw [Around.under_plainId PySem.F.plain_extend_loop _]
    show wpAny _ A.in1 (pyNext (.ref z) >>= _) _ _ _
    obtain ⟨hI, h1, h2, hz, oO, hO'⟩ := st
    obtain ⟨sm, ts, hSl, htl, hts⟩ := out
    have lt : ∀ {c o}, s.heap.get? c = some o → s.heap.objs.size ≠ c := fun e => Nat.ne_of_gt (Heap.lt_size e)
    have n1 : s.heap.objs.size ≠ i1 := let ⟨_, e, _⟩ := h1; lt e
    have n2 : s.heap.objs.size ≠ i2 := let ⟨_, e, _⟩ := h2; lt e
    have nS : s.heap.objs.size ≠ S := Nat.ne_of_gt (I.hok.lt hSl)
    have na : s.heap.objs.size ≠ a := Nat.ne_of_gt pa.lt
    have nb : s.heap.objs.size ≠ b := Nat.ne_of_gt pb.lt
    have nTI : s.heap.objs.size ≠ TI := lt hI
    have nz : s.heap.objs.size ≠ z := by rcases hz with ⟨hz, _⟩ | ⟨_, _, _, hz, _⟩ <;> exact lt hz
    have hfr : H s.heap.objs.size = none := I.hok.fresh (Nat.le_refl _)
    -- what follows a draw
    have after : ∀ h', IsPair h' TI (.ref i1) (.ref i2) → h'.IsListIter i1 a (i + 1) → h'.IsListIter i2 b (i + 1) → IsPair h' s.heap.objs.size u v →
        (∃ T f oT, IsZipHeld h' z TI TO T f ∧ h'.get? T = some oT ∧ T ≠ z ∧ T ≠ i1 ∧ T ≠ i2 ∧ T ≠ S) → (∃ o, h'.get? TO = some o) →
        (∀ c o, c ≠ z → c ≠ TO → c ≠ i1 → c ≠ i2 → s.heap.get? c = some o → h'.get? c = some o) →
        wpAny (model X.prog X.w) A.in1 (updateSeq S (·.push (Value.ref s.heap.objs.size)) >>= fun _ => again (.builtin "list.extend.loop" ⟨[.ref S, .ref z, .none], []⟩))
          (fun fin s' => match fin with | .done f => R (.ok f) s' | .again c' => c'.quiet = true ∧ codeAny (model X.prog X.w) A c' R s') (fun e s' => R (.error e) s') { s with heap := h' } := by
      intro h' a1 a3 a4 a5 a6 a7 hk'
      have J : Inv X pins σ (upd H s.heap.objs.size (.tup [x, y])) { s with heap := h', toks := s.toks } :=
        I.turnedNew (ch := [z, TI, TO, i1, i2]) (fun c o hb q => hk' c o (fun q' => hb (by simp [q'])) (fun q' => hb (by simp [q'])) (fun q' => hb (by simp [q'])) (fun q' => hb (by simp [q'])) q) hf (Nat.le_refl _) ⟨by show 2 ≤ sizeLine; decide, [u, v], .cons ru (.cons rw_ .nil), _, a5, rfl, _, rfl⟩
      have hS' : upd H s.heap.objs.size (.tup [x, y]) S = some (.lst (ts.map V.ref)) := by rw [upd_ne (Ne.symm nS)]; exact hSl
      obtain ⟨hz0, its3, nn, r3, l3, e3⟩ := J.lstM hS'
      have e3 : h'.get? S = some { cls := .type "list", data := .seq its3.toArray nn } := e3
      have hlen : its3.length = i := by rw [← l3, List.length_map, htl]
      refine wpAny_bind ?_
      refine wpAny_updateSeq (s := { s with heap := h' }) e3 rfl (wpAny_pure ⟨plainId_quiet PySem.F.plain_extend_loop _, ?_⟩) (by rw [List.size_toArray]; omega) (by rw [Array.size_push, List.size_toArray]; omega)
      have J2 := J.lset (its' := its3 ++ [Value.ref s.heap.objs.size]) (ys := ts.map V.ref ++ [V.ref s.heap.objs.size]) (t' := s.toks) hS' e3 (f := (·.push (Value.ref s.heap.objs.size))) (by simp) (r3.append (.cons rfl .nil)) (by rw [List.length_append, List.length_map]; show ts.length + 1 ≤ _; omega)
      have up : ∀ c o, c ≠ S → h'.get? c = some o → (h'.update S (Obj.mapSeq (·.push (Value.ref s.heap.objs.size)))).get? c = some o := fun c o hb e => (Heap.get?_update_other _ _ (Ne.symm hb)).trans e
      have keepH : ∀ c o, c ≠ S → H c = some o → upd (upd H s.heap.objs.size (.tup [x, y])) S (.lst (ts.map V.ref ++ [V.ref s.heap.objs.size])) c = some o := fun c o hb e => by rw [upd_ne hb, upd_ne (ne_of_none e hfr)]; exact e
      have sqk : ∀ {c l}, c ≠ S → SqL X.K H c l → SqL X.K (upd (upd H s.heap.objs.size (.tup [x, y])) S (.lst (ts.map V.ref ++ [V.ref s.heap.objs.size]))) c l := fun {c l} hb e => by
        rcases e with (e | ⟨o, e⟩) | e
        · exact .inl (.inl (keepH _ _ hb e))
        · exact .inl (.inr ⟨o, keepH _ _ hb e⟩)
        · exact .inr e
      refine ih (i + 1) _ _ (by omega) hlt J2 (fun c hcm => ?_) (sqk aS qa) (sqk bS qb) (ZlAt.but ⟨a1, a3, a4, .inr a6, a7⟩ S1 S2 S3 S4 S5 up) ⟨fun c o hb e => keepH c o hb (sm c o hb e), ts ++ [s.heap.objs.size], ?_, ?_, ?_⟩ aS bS
      · obtain ⟨f1, f2⟩ := hf c hcm
        refine ⟨?_, f2⟩
        have c1 : c ≠ S := by
          simp only [List.mem_cons, List.not_mem_nil, or_false] at hcm
          rcases hcm with rfl | rfl | rfl | rfl | rfl
          · exact Ne.symm S1
          · exact Ne.symm S2
          · exact Ne.symm S3
          · exact Ne.symm S4
          · exact Ne.symm S5
        have c2 : c ≠ s.heap.objs.size := by
          intro e
          have : ∃ o, s.heap.get? c = some o := by
            simp only [List.mem_cons, List.not_mem_nil, or_false] at hcm
            rcases hcm with rfl | rfl | rfl | rfl | rfl
            · rcases hz with ⟨hz, _⟩ | ⟨_, _, _, hz, _⟩ <;> exact ⟨_, hz⟩
            · exact ⟨_, hI⟩
            · exact ⟨_, hO'⟩
            · exact let ⟨o, e, _⟩ := h1; ⟨o, e⟩
            · exact let ⟨o, e, _⟩ := h2; ⟨o, e⟩
          obtain ⟨o, e2⟩ := this
          exact lt e2 e.symm
        rw [upd_ne c1, upd_ne c2]
        exact f1
      · rw [upd_same, List.map_append]
        rfl
      · rw [List.length_append, htl]
        rfl
      · intro j t hj
        by_cases hjl : j < ts.length
        · rw [List.getElem?_append_left hjl] at hj
          obtain ⟨t1, t2, x', y', e1, e2, e3⟩ := hts j t hj
          exact ⟨t1, t2, x', y', e1, e2, keepH _ _ t1 e3⟩
        · have hj' := List.getElem?_eq_some_iff.mp hj
          have : j = i := by
            have := hj'.1
            rw [List.length_append, htl] at this
            have : j < i + 1 := this
            omega
          subst this
          rw [List.getElem?_append_right (by omega), show j - ts.length = 0 by omega] at hj
          have : t = s.heap.objs.size := (Option.some.inj hj).symm
          subst this
          refine ⟨nS, ?_, x, y, hx, hy, ?_⟩
          · cases e : H0 s.heap.objs.size with
            | none => rfl
            | some o => exact absurd (sm _ _ nS e) (by rw [hfr]; exact fun q => nomatch q)
          · rw [upd_ne nS, upd_same]
    rcases hz with ⟨hz, x0, y0, hO⟩ | ⟨T, f, oT, hz, hT, r1, r2, r3, r4⟩
    · refine wpAny_bind (wpAny_pyNext_zip_item D hz hI hO h1 h2 pa.isList pb.isList ex ey fun h' b1 b2 b3 b4 b5 b6 hk' => ?_)
      exact after h' (hk' _ _ D.TIz D.TITO D.TIi1 D.TIi2 hI) b3 b4 b5 ⟨s.heap.objs.size, false, _, b1, b5, nz, n1, n2, nS⟩ ⟨_, b2⟩ hk'
    · refine wpAny_bind (wpAny_pyNext_zip_item_held D hz hT hI h1 h2 pa.isList pb.isList ex ey fun h' b1 b3 b4 b5 b6 hk' => ?_)
      exact after h' (hk' _ _ D.TIz D.TIi1 D.TIi2 hI) b3 b4 b5 ⟨T, true, oT, b1, hk' _ _ r1 r2 r3 hT, r1, r2, r3, r4⟩ ⟨_, hk' _ _ D.TOz D.TOi1 D.TOi2 hO'⟩ (fun c o c1 _ c3 c4 e => hk' c o c1 c3 c4 e)
end
/-- list(zip(a, b)): a list of new pairs -/
def tListZip (K : PySem.W.Frag) (ta : TA) : TE := fun σ H Q => ta σ H fun vs H1 => ∃ a b xs ys, vs = [.ref a, .ref b] ∧ SqL K H1 a xs ∧ SqL K H1 b ys ∧ xs.length = ys.length ∧ xs.length ≤ 100000 ∧
  ∀ (H' : Hp) (l : Addr) (ts : List Addr), Same H1 H' → H1 l = none → H' l = some (.lst (ts.map V.ref)) → ts.length = xs.length → (∀ (j : Nat) (t : Addr), ts[j]? = some t → t ≠ l ∧ H1 t = none ∧ ∃ x y, xs[j]? = some x ∧ ys[j]? = some y ∧ H' t = some (.tup [x, y])) → Q (.ref l) H'
theorem pe_listzip {X : Cx} (K : PySem.W.Frag) (hK : X.K = K) {e e2 : Expr} {ta : TA} {p p2 pos pos2 : Pos} (hg : Gl X "list") (hm : X.mg "list" = none) (hg2 : Gl X "zip") (hm2 : X.mg "zip" = none) (ha : PA X [e, e2] ta) (hc : X.calm = true := by rfl)
    (hs : starEach [e, e2] X.env = (false, eval e X.env) :: starEach [e2] X.env := by rfl) (hpl : (backTo pos2 (starEach [e2] X.env)).any (·.1) = false := by rfl)
    (hs2 : starEach [.Call (.Name "zip" p2) [e, e2] [] pos2] X.env = (false, eval (.Call (.Name "zip" p2) [e, e2] [] pos2) X.env) :: starEach [] X.env := by rfl) (hpl2 : (backTo pos (starEach [] X.env)).any (·.1) = false := by rfl) :
    PE X (.Call (.Name "list" p) [.Call (.Name "zip" p2) [e, e2] [] pos2] [] pos) (tListZip K ta) := by
  subst hK
  refine ⟨fun pins s σ H Q I h => ?_⟩
  refine wpAny_Call_Name_kw (ld_blt I hg hm PyProof.Rows.boot_list (PyProof.Rows.callWith_type1 ?_ hs2 hpl2))
  rw [hs2]
  show wpAny _ _ (spliced ((false, eval (.Call (.Name "zip" p2) [e, e2] [] pos2) X.env) :: backTo pos (starEach [] X.env))) _ _ s
  refine Calls.spliced_cons ?_
  refine wpAny_Call_Name_kw (ld_blt I hg2 hm2 PyProof.Rows.boot_zip (PyProof.Rows.callWith_type1 (thn (ha.run pos2 pins s σ H _ I h) fun us s1 y => ?_) hs hpl))
  obtain ⟨vs, H1, I1, r1, a, b, xs, ys, ex, hqx, hqy, hl, hz, q⟩ := y
  subst ex
  cases r1 with
  | cons r rr =>
  cases rr with
  | cons r' rr =>
  cases rr
  cases r
  cases r'
  obtain ⟨its, rv, p1, _⟩ := I1.list hqx
  obtain ⟨its2, rv2, p2', _⟩ := I1.list hqy
  have la : a < s1.heap.objs.size := p1.lt
  have lb : b < s1.heap.objs.size := p2'.lt
  refine call_zip_2 p1.isList p2'.isList fun h' hzz hTI hTO h1 h2 hsz hk => ?_
  have I2 : Inv X pins σ H1 { s1 with heap := h' } := I1.kept (t' := s1.toks) hk
  refine Calls.spliced_nil ?_
  have D := PySem.W.ktu_apart s1.heap.objs.size a b la lb
  have hfr : ∀ c, s1.heap.objs.size ≤ c → H1 c = none := fun c hc => I1.hok.fresh hc
  generalize hN : s1.heap.objs.size = N at *
  have hf : ∀ c ∈ [N + 4, N + 2, N + 3, N, N + 1], FpOk X pins H1 c := fun c hcm => by
    have hle : s1.heap.objs.size ≤ c := by
      rw [hN]
      simp only [List.mem_cons, List.not_mem_nil, or_false] at hcm
      omega
    exact I1.fpOk hle (I1.hok.fresh hle)
  -- the new list
  refine callType_codes (s := { s1 with heap := h' }) (Q₁ := fun obj s₂ => obj = .ref h'.objs.size ∧ s₂ = { s1 with heap := h'.push { cls := .type "list", data := .seq #[] } }) PySem.F.called_list (PySem.F.typeCall_list_1 _) PySem.F.entry_list_init
    (code_list_new _ ⟨rfl, rfl⟩) fun obj s₂ hobj => ?_
  obtain ⟨rfl, rfl⟩ := hobj
  have hS : (h'.push { cls := .type "list", data := .seq #[] }).get? h'.objs.size = some { cls := .type "list", data := .seq #[] } := Heap.get?_push_size _ rfl
  have I3 : Inv X pins σ (upd H1 h'.objs.size (.lst [])) { s1 with heap := h'.push { cls := .type "list", data := .seq #[] } } := I2.lnew (its := []) (t' := s1.toks) .nil (Nat.zero_le _)
  have hH1 : H1 h'.objs.size = none := I2.hok.fresh (Nat.le_refl _)
  generalize hM : h'.objs.size = M at *
  have hMN : M = N + 5 := hsz
  have hz3 : IsZip (h'.push { cls := .type "list", data := .seq #[] }) (N + 4) (N + 2) (N + 3) .none := Heap.get?_push_of_some _ hzz
  refine ⟨⟨_, hS, rfl⟩, PySem.F.args_list_init_2 _ _, ?_⟩
  show wpAny _ _ (do let old ← Builtin.List.listItems (.ref M); Builtin.List.listUpdate (.ref M) (fun _ => #[]); letGo old.toList.reverse; Builtin.List.listExtendWith (.ref M) (.ref (N + 4)) .none) _ _ _
  refine wpAny_bind ?_
  unfold Builtin.List.listItems
  refine wpAny_bind (wpAny_seqItems hS rfl (wpAny_pure ?_))
  show wpAny _ _ (updateSeq M (fun _ => #[]) >>= fun _ => letGo (#[] : Array Value).toList.reverse >>= fun _ => Builtin.List.listExtendWith (.ref M) (.ref (N + 4)) .none) _ _ _
  refine wpAny_bind (wpAny_updateSeq hS rfl ?_)
  have hS₂ := Heap.get?_update_self (Obj.mapSeq (fun _ => (#[] : Array Value))) hS rfl
  have I4 := I3.lset (its := []) (its' := []) (ys := []) (t' := s1.toks) upd_same hS (f := fun _ => #[]) rfl .nil (Nat.zero_le _)
  refine wpAny_bind (wpAny_letGo ?_)
  have oth : ∀ c o, c ≠ M → (h'.push { cls := .type "list", data := .seq #[] }).get? c = some o → ((h'.push { cls := .type "list", data := .seq #[] }).update M (Obj.mapSeq (fun _ => (#[] : Array Value)))).get? c = some o := fun c o hb e => (Heap.get?_update_other _ _ (Ne.symm hb)).trans e
  have nez : N + 4 ≠ M := by omega
  unfold Builtin.List.listExtendWith
  have hz4 := oth _ _ nez hz3
  refine wpAny_bind (wpAny_typeOf (T := "zip") ⟨_, hz4, rfl⟩ ?_)
  have h1' : Builtin.List.listSameRef (.ref M) (.ref (N + 4)) = false := by simp [Builtin.List.listSameRef, Ne.symm nez]
  have h2' : (Value.type "zip" == Value.type "list") = false := by decide
  have h3' : (Value.type "zip" == Value.type "tuple") = false := by decide
  simp only [h1', h2', h3', Bool.or_false, Bool.false_eq_true, if_false]
  refine wpAny_bind (wpAny_pyIter_zip hz4 ?_)
  refine wpAny_bind (wpAny_holding ?_)
  unfold Builtin.List.listLengthHint
  refine wpAny_bind (wpAny_specialOf (T := "zip") ⟨_, hz4, rfl⟩ zl_no_len ?_)
  refine wpAny_bind (wpAny_specialOf (T := "zip") ⟨_, hz4, rfl⟩ zl_no_hint ?_)
  refine wpAny_pure ?_
  show wpAny _ _ (rule "list.extend.makes-room" >>= fun _ => Builtin.List.listTouch (.ref M) >>= fun _ => again (.builtin "list.extend.loop" ⟨[.ref M, .ref (N + 4), .none], []⟩)) _ _ _
  refine wpAny_bind (wpAny_rule ?_)
  refine wpAny_bind ?_
  show wpAny _ _ (updateSeq M (·.push .none) >>= fun _ => updateSeq M (·.pop)) _ _ _
  refine wpAny_bind (wpAny_updateSeq hS₂ rfl ?_)
  have hS₃ := Heap.get?_update_self (Obj.mapSeq (·.push Value.none)) hS₂ rfl
  have I5 := I4.lset (its := []) (its' := [Value.none]) (ys := [V.non]) (t' := s1.toks) upd_same hS₂ (f := (·.push .none)) rfl (.cons rfl .nil) (by show 1 ≤ sizeLine; decide)
  refine wpAny_updateSeq hS₃ rfl ?_
  have hS₄ := Heap.get?_update_self (Obj.mapSeq (·.pop)) hS₃ rfl
  have I6 := I5.lset (its := [Value.none]) (its' := []) (ys := []) (t' := s1.toks) upd_same hS₃ (f := (·.pop)) rfl .nil (Nat.zero_le _)
  have eH : upd (upd (upd (upd H1 M (.lst [])) M (.lst [])) M (.lst [.non])) M (.lst []) = upd H1 M (.lst []) := by
    funext c
    by_cases hcM : c = M
    · rw [hcM, upd_same, upd_same]
    · rw [upd_ne hcM, upd_ne hcM, upd_ne hcM, upd_ne hcM]
  rw [eH] at I6
  have oth2 : ∀ c o, c ≠ M → h'.get? c = some o → ((((h'.push { cls := .type "list", data := .seq #[] }).update M (Obj.mapSeq (fun _ => (#[] : Array Value)))).update M (Obj.mapSeq (·.push Value.none))).update M (Obj.mapSeq (·.pop))).get? c = some o := fun c o hb e =>
    (Heap.get?_update_other _ _ (Ne.symm hb)).trans ((Heap.get?_update_other _ _ (Ne.symm hb)).trans (oth c o hb (Heap.get?_push_of_some _ e)))
  have sq1 : ∀ {c l}, SqL X.K H1 c l → SqL X.K (upd H1 M (.lst [])) c l := fun e => (same_upd hH1).seq e
  have aM : a ≠ M := by rw [hMN]; exact Nat.ne_of_lt (Nat.lt_of_lt_of_le la (Nat.le_add_right _ _))
  have bM : b ≠ M := by rw [hMN]; exact Nat.ne_of_lt (Nat.lt_of_lt_of_le lb (Nat.le_add_right _ _))
  have ne4 : ∀ j : Nat, j < 5 → M ≠ N + j := fun j hj z => by
    have z : M = N + j := z
    omega
  refine wpAny_pure ⟨plainId_quiet PySem.F.plain_extend_loop _, ?_⟩
  refine zl_loop hc D (ne4 4 (by decide)) (ne4 2 (by decide)) (ne4 3 (by decide)) (ne4 0 (by decide)) (ne4 1 (by decide)) (Nat.le_trans hz (by decide)) hl (H0 := H1) (A := X.A.in1) (I1.ok.hd hc) (fun H' s' J out => ?_) xs.length 0 _ _ (Nat.sub_zero _) (Nat.zero_le _) I6 (fun c hcm => ?_) (sq1 hqx) (sq1 hqy)
    ⟨oth2 _ _ (Ne.symm (ne4 2 (by decide))) hTI, h1.at fun o e => oth2 _ o (Ne.symm (ne4 0 (by decide))) e, h2.at fun o e => oth2 _ o (Ne.symm (ne4 1 (by decide))) e, .inl ⟨oth2 _ _ (Ne.symm (ne4 4 (by decide))) hzz, _, _, oth2 _ _ (Ne.symm (ne4 3 (by decide))) hTO⟩, _, oth2 _ _ (Ne.symm (ne4 3 (by decide))) hTO⟩
    ⟨fun c o hcM e => by rw [upd_ne hcM]; exact e, [], upd_same, rfl, fun j t hj => by cases hj⟩ aM bM
  · obtain ⟨sm, ts, e1, e2, e3⟩ := out
    exact ⟨rfl, .ref M, H', J, rfl, q H' M ts (fun c o e => sm c o (ne_of_none e hH1) e) hH1 e1 e2 e3⟩
  · obtain ⟨f1, f2⟩ := hf c hcm
    refine ⟨?_, f2⟩
    have : c ≠ M := by
      intro z
      simp only [List.mem_cons, List.not_mem_nil, or_false] at hcm
      rcases hcm with h | h | h | h | h
      · exact ne4 4 (by decide) (z.symm.trans h)
      · exact ne4 2 (by decide) (z.symm.trans h)
      · exact ne4 3 (by decide) (z.symm.trans h)
      · exact ne4 0 (by decide) (z.symm.trans h)
      · exact ne4 1 (by decide) (z.symm.trans h)
    rw [upd_ne this]
    exact f1
end WB
namespace WB
open PySem PySem.Spec PyProof.Rows L2
/-! ### makers with n arguments by place, keywords ks, defaults of both kinds -/
def CalNP (P : Program) (w : World) (K : PySem.W.Frag) (mg : Str → Option Value) (base : Heap) (k : Nat) (nm : Str) (C : Addr) (ps : List Str) (n : Nat) (ks : List Str) (gV : List V → List V → List V) (sp : Sp) : Prop :=
  ∃ (f : Addr) (fd : FuncData) (g : List Value → List Value → List Value), Mk K C f ∧ FnOk P w K mg base (L2.CX P w) k f fd ps sp ∧ mg nm = some (.ref C) ∧ KBn K fd ps (n + 1) ks g gV
theorem CalNP.mono {P : Program} {w : World} {K : PySem.W.Frag} {mg : Str → Option Value} {base : Heap} {j k n : Nat} {nm : Str} {C : Addr} {ps ks : List Str} {gV : List V → List V → List V} {sp : Sp} (c : CalNP P w K mg base j nm C ps n ks gV sp) (h : j ≤ k) : CalNP P w K mg base k nm C ps n ks gV sp := by
  obtain ⟨f, fd, g, a, b, d, e⟩ := c
  exact ⟨f, fd, g, a, b.mono h, d, e⟩
section
variable {X : Cx} {k n : Nat} {C : Addr} {ps ks : List Str} {sp : Sp} {E : XK} {nm : Str} {p pos : Pos} {e : Expr} {es : List Expr} {kws : List Keyword} {t tk : TA} {gV : List V → List V → List V}
theorem pe_makeP (c : CalNP X.prog X.w X.K X.mg X.base k nm C ps n ks gV sp) (hr : Room (k + 1) X.A) (hx : Passes (L2.CX X.prog X.w) X E) (hg : Gl X nm) (ha : PA X (e :: es) t) (hkw : PK X kws tk)
    (hall : (backToKw pos (keywordEach kws X.env)).all (·.1.isSome) = true := by rfl) (hks : (backToKw pos (keywordEach kws X.env)).filterMap (·.1) = ks := by rfl) (hdb : (nm == ("__debug__" : Str)) = false := by decide)
    (he : starEach (e :: es) X.env = (false, eval e X.env) :: starEach es X.env := by rfl) (hpl : ((backTo pos (starEach (e :: es) X.env)).any (·.1) || (backToKw pos (keywordEach kws X.env)).any (·.1.isNone)) = false := by rfl) :
    PE X (.Call (.Name nm p) (e :: es) kws pos) (tMakeK C n ks.length sp gV E t tk) := by
  obtain ⟨f, fd, g, a, b, d, hb⟩ := c
  exact pe_makeK a b hr hg d hb hx ha hkw hall hks hdb he hpl
theorem pe_makePF (c : CalNP X.prog X.w X.K X.mg X.base k nm C ps n ks gV sp) (hr : Room (k + 1) X.A) (hg : Gl X nm) (ha : PA X (e :: es) t) (hkw : PK X kws tk)
    (hall : (backToKw pos (keywordEach kws X.env)).all (·.1.isSome) = true := by rfl) (hks : (backToKw pos (keywordEach kws X.env)).filterMap (·.1) = ks := by rfl) (hdb : (nm == ("__debug__" : Str)) = false := by decide)
    (he : starEach (e :: es) X.env = (false, eval e X.env) :: starEach es X.env := by rfl) (hpl : ((backTo pos (starEach (e :: es) X.env)).any (·.1) || (backToKw pos (keywordEach kws X.env)).any (·.1.isNone)) = false := by rfl) :
    PE X (.Call (.Name nm p) (e :: es) kws pos) (tMakeK C n ks.length sp gV E0 t tk) := pe_makeP c hr passL hg ha hkw hall hks hdb he hpl
end
section
variable {K : PySem.W.Frag} {x qual : Str} {params : Arguments} {body : List Stmt} {scope : Scope} {dvs : List V} {kws : List (Str × V)} {f : Addr} {fd : FuncData} {ps : List Str}
theorem kbn_pickD (F : FunD K x qual params body scope dvs kws f fd) (n j : Nat) (ks : List Str) (ms : List (Str × V)) (is : List Nat) (hd : dvs ≠ []) (hk : kws ≠ []) (hms : ∀ q ∈ ms, q ∈ kws)
    (h : ∀ (T D : Addr) (doc pm : Value) (an : Option Addr) (cdv ct : Value) (us its mv ws : List Value), us.length = n → its.length = dvs.length → mv.length = ms.length → ws.length = ks.length →
      ∃ k, bindArgs (PySem.W.fnOf x qual params body scope (.ref T) (.ref D) doc pm an cdv ct) ⟨us, ks.zip ws⟩ = seqItems? (.ref T) >>= k ∧ KwChain D ((ms.map (·.1)).zip mv) (k (some its.toArray)) (ps.zip (us ++ its.drop j ++ pickL (ws ++ mv) is))) :
    ∃ g, KBn K fd ps n ks g (fun vs zs => vs ++ dvs.drop j ++ pickL (zs ++ ms.map (·.2)) is) := by
  obtain ⟨its, mv, hb⟩ := F.kbinds (ps := ps) n ks ms (fun {α} us its mv ws => us ++ its.drop j ++ pickL (ws ++ mv) is) hd hk hms (fun r1 r2 r3 r4 => (r1.append (r2.drop j)).append (vals_pick (r4.append r3) is)) h
  exact ⟨_, hb⟩
end
end WB
namespace WB
open PySem PySem.Spec PyProof.Rows L2
/-! ### sorted of a list of numbers -/
def rSortL (K : PySem.W.Frag) : List V → Hp → VK → Prop := fun vs H Q => ∃ (a : Addr) (ns : List Int), vs = [.ref a] ∧ SqL K H a (ns.map V.int) ∧ ∀ (p : Addr) (ms : List Int), H p = none → ms.Perm ns → ms.Pairwise (· ≤ ·) → Q (.ref p) (upd H p (.lst (ms.map V.int)))
theorem cr_sortedL {X : Cx} : CallR X (.builtin "sorted") (rSortL X.K) := by
  intro pins s σ H vs us Q I r h
  obtain ⟨a, ns, rfl, hs, q⟩ := h
  obtain ⟨its, rv, hl, hz⟩ := I.list hs
  rw [Vals.ref1 r]
  have hI : IntsAre its ns := Vals.ints rv
  have hlen := IntsAre.length hI
  rw [List.length_map] at hz
  refine sorted_intsAny (vs := its) hl.isList hI (by omega) fun out ms hI' hp hw => ?_
  obtain ⟨e, he⟩ := sortedAll_at s.heap its out
  have hn : H (s.heap.objs.size + 1) = none := I.hok.fresh (Nat.le_succ _)
  have hml : ms.length = ns.length := hp.length_eq
  refine ⟨.ref (s.heap.objs.size + 1), _, I.laid (h' := sortedAll s.heap its out) (t' := s.toks) (o := .lst (ms.map V.int)) (fun b u hb => sortedAll_old hb) (Nat.le_succ _) ⟨by rw [List.length_map]; omega, out.toList, e, vals_ints hI', he⟩, rfl, q _ ms hn hp hw⟩
theorem cr_sortedLK {X : Cx} (K : PySem.W.Frag) (h : X.K = K) : CallR X (.builtin "sorted") (rSortL K) := by subst h; exact cr_sortedL
end WB
namespace WB
open PySem PySem.Spec PyProof.Rows L2
/-! ### groups put together; a test by its outcome -/
theorem Hw.gapp {α : Type} {K : PySem.W.Frag} {L : List (Addr × List L2.V)} {T0 : List (Addr × Str)} {Ts : List Th} {f : α → Th} {Y Z : List α} {H : Hp} (h : Hw K L T0 (Z.map f ++ (tG (Y.map f) :: Ts)) H) : Hw K L T0 (tG ((Y ++ Z).map f) :: Ts) H := by
  have h1 : Hw K L T0 (tG (Y.map f) :: (Z.map f ++ Ts)) H := ⟨h.hs.perm List.perm_middle, h.tf⟩
  have h2 := h1.ungrp
  rw [← List.append_assoc, ← List.map_append] at h2
  exact h2.grp
theorem Hw.gappI {α : Type} {K : PySem.W.Frag} {L : List (Addr × List L2.V)} {T0 : List (Addr × Str)} {Ts : List Th} {f : α → Th} {Y Z : List α} {H : Hp} (i : Nat) (h : Hw K L T0 (Z.map f ++ Ts) H) (hi : Ts[i]? = some (tG (Y.map f))) : Hw K L T0 (tG ((Y ++ Z).map f) :: Ts.eraseIdx i) H :=
  Hw.gapp ⟨h.hs.perm (List.Perm.append_left _ (perm_at hi).symm), h.tf⟩
theorem Hw.mid {K : PySem.W.Frag} {L : List (Addr × List L2.V)} {T0 : List (Addr × Str)} {As Bs : List Th} {T : Th} {H : Hp} (h : Hw K L T0 (T :: (As ++ Bs)) H) : Hw K L T0 (As ++ T :: Bs) H := ⟨h.hs.perm List.perm_middle.symm, h.tf⟩
theorem Hw.knows {K : PySem.W.Frag} {L L' : List (Addr × List L2.V)} {T0 : List (Addr × Str)} {Ts : List Th} {H : Hp} (h : Hw K L T0 Ts H) (t : TF K L' H) : Hw K (L' ++ L) T0 Ts H := ⟨h.hs, fun p hp => (List.mem_append.mp hp).elim (t p) (h.tf p)⟩
theorem ifP {c : TT} {t e : TS} {D : Ends} {σ : L2.St} {H : Hp} (b : Bool) (hc : ∀ Q : Bool → Hp → Prop, Q b H → c σ H Q) (ht : b = true → t D σ H) (he : b = false → e D σ H) : tIfS c t e D σ H := by
  refine hc _ ?_
  cases b with
  | true => exact ht rfl
  | false => exact he rfl
theorem dp_ii {K : PySem.W.Frag} {H : Hp} {z y : Int} (e : z = y) : Dp K H (.int z) (.int y) := by rw [e]; exact .int y
theorem dn_i (z : Int) (n : Nat) : Dn (n + 1) (.int z) := .inr (.inl ⟨z, rfl⟩)
theorem shaped_i (z : Int) : SeqAt.shaped (.int z) = true := rfl
end WB
namespace WB
open PySem PySem.Spec PyProof.Rows L2
/-! ### laws in which a second def makes lambdas too: the tables of both are empty at the start -/
/-- walk_ofOwn with the table of the def named m known beside the law's own -/
theorem walk_own2 {l : PySem.W.OpenLaw} {n k : Nat} {q : Program} {loose : List Str} {XP : (Str → Option Value) → Heap → Prop} {YP : World → Heap → Prop} {d : DefRec} {K : Params → PySem.W.Frag} {CX : World → CXT} {x : Str} (m : Str)
    (hn : l.most = some n) (hn2 : n ≤ sizeLine) (hdf : d.params.defaults = []) (hr : Room k callerA) (hm1 : ((recsOf q).any fun e => e.name == d.name) = true) (hm2 : ((recsOf q).any fun e => e.name == m) = true) (hY : ∀ (w : World) (h : Heap), YP w h → (K w.params).In h)
    (F : ∀ (w : World) (mg : Str → Option Value) (fa : Addr) (h : Heap), YP w h → (K w.params).In h → h.Ns mainGlobals mg → mg d.name = some (.ref fa) → LamX.OwnTab (K w.params) fa h → (∀ fb : Addr, mg m = some (.ref fb) → LamX.OwnTab (K w.params) fb h) → LamX.LawAtS l w (K w.params) (CX w) k n x mg fa h)
    (hCX : ∀ (w : World) (H : Hp) (s : Shared) (e : Value) (s' : Shared), CX w [] H s (fun _ _ _ => False) e s' → False) :
    PySem.W.WalkO q loose XP YP l.row.toRowW d [] (fun f vs => PySem.call f vs) := by
  refine Att.attach_callB hn hdf fun w s₀ s₁ mg mb fa o pm cd doc a vs ns G Y ho hd hcd hmg hobj hints hlen hbits hg => ?_
  have KX := hY w _ Y
  have tab : ∀ y : Str, ((recsOf q).any fun e => e.name == y) = true → ∀ fb : Addr, mg y = some (.ref fb) → LamX.OwnTab (K w.params) fb s₁.heap := by
    intro y hy fb hfb c P o1 fd1 e dd vs1 sl k1 k2 k3 k4 k5
    obtain ⟨r, hr1, hr2⟩ := List.any_eq_true.mp hy
    obtain ⟨a', o', fd', c', P', h1, h2, h3, h4, _, ⟨oc, vc, e1, _, e3, e4⟩, hP⟩ := G.T.tab r hr1
    obtain rfl : fb = a' := by
      have := (beq_iff_eq.mp hr2) ▸ h1
      exact Value.ref.inj (Option.some.inj (hfb.symm.trans this))
    obtain rfl : o1 = o' := Option.some.inj ((KX _ _ k1).symm.trans h2)
    obtain rfl : fd1 = fd' := by
      have := k2.symm.trans h3
      injection this
    obtain rfl : c = c' := Value.ref.inj (k3.symm.trans h4)
    obtain rfl := Option.some.inj ((KX _ _ k4).symm.trans e1)
    cases e3
    obtain rfl : P = P' := Value.ref.inj (Option.some.inj (k5.symm.trans e4))
    exact hP
  obtain ⟨fd, cs, sp, hT, nT, C, hb, hsp, hF⟩ := F w mg fa _ Y KX G.T.g hmg (tab _ hm1 _ hmg) (fun fb => tab _ hm2 fb)
  exact LamX.law_callTs KX G.T.g G.T.b G.T.builtins G.T.nolimit hg hT nT C G.T.bmain hobj hints (Nat.le_trans hlen hn2) hr hF hb (fun H hH hS => hsp H a ns hlen hbits hH hS) fun H e s' => hCX w H s₁ e s'

/-- the promise of a law with the tables of two defs -/
def spLaw2 (K : PySem.W.Frag) (tP tQ : Addr) : Sp := fun vs H Q _ => ∃ (a : Addr) (ns : List Int), vs = [.ref a] ∧ SqL K H a (ns.map V.int) ∧ H tP = some (.tbl #[]) ∧ H tQ = some (.tbl #[]) ∧ ∀ H', Q (.bl true) H'
end WB
namespace WB
open PySem PySem.Spec PyProof.Rows L2
/-! ### the names of a def at its start -/
theorem start1 (x : Str) (N : List Str) (v : L2.V) : L2.start (x :: N) [v] = some v :: N.map fun _ => none := by
  show some v :: List.replicate (N.length + 1 - 1) none = _
  rw [Nat.add_sub_cancel]
  congr 1
  induction N with
  | nil => rfl
  | cons y N ih => exact congrArg (none :: ·) ih
section
variable {K : PySem.W.Frag} {L : List (Addr × List L2.V)} {T0 : List (Addr × Str)} {Ts As : List Th} {T N : Th} {H H' : Hp}
/-- an object of several parts changed, something new told -/
theorem Hw.upG (h : Hw K L T0 Ts H) (i : Nat) (hi : Ts[i]? = some T) (u : Up T (N :: As) H H') : Hw K L T0 (tG As :: N :: Ts.eraseIdx i) H' := (Hw.mid (As := As) (Bs := Ts.eraseIdx i) (h.up i hi u)).grp
theorem Hw.upG0 (h : Hw K L T0 Ts H) (i : Nat) (hi : Ts[i]? = some T) (u : Up T As H H') : Hw K L T0 (tG As :: Ts.eraseIdx i) H' := (h.up i hi u).grp
theorem Hw.upNG (h : Hw K L T0 Ts H) (u : Up (tG []) As H H') : Hw K L T0 (tG As :: Ts) H' := (h.upN u).grp
end
/-! ### lambdas of one parameter with a default that is a whole number -/
abbrev dlamO (X : Cx) (params : Arguments) (body : Expr) (scope : Scope) (tA : Addr) (doc pm : Value) (c' : Addr) (ctv : Value) : Obj := PySem.W.kdv_obj "<lambda>" (X.env.qual ++ "<lambda>") params (.expr body) scope (cloFrom X.env.cells scope.names []) (.ref tA) doc pm c' ctv
/-- one parameter, not known outside; captured names and globals -/
structure LamD (N : List Str) (sc scope : Scope) : Prop where
  kind : scope.kind = .function
  co : scope.isCoroutine = false
  gen : scope.isGenerator = false
  own : ∀ y ∈ scope.names, y.2 ≠ .cell ∧ (y.2 = .local → y.1 ∉ N)
  free : ∀ y ∈ scope.names, y.2 = .free → sc.names.lookup y.1 = some .cell ∨ sc.names.lookup y.1 = some .free
def lamDB (N : List Str) (sc scope : Scope) : Bool :=
  decide (scope.kind = .function) && !scope.isCoroutine && !scope.isGenerator && scope.names.all fun y => !decide (y.2 = .cell) && (!decide (y.2 = .local) || !decide (y.1 ∈ N)) && (!decide (y.2 = .free) || decide (sc.names.lookup y.1 = some .cell) || decide (sc.names.lookup y.1 = some .free))
theorem lamD_by {N : List Str} {sc scope : Scope} (h : lamDB N sc scope = true) : LamD N sc scope := by
  unfold lamDB at h
  simp only [Bool.and_eq_true, Bool.or_eq_true, Bool.not_eq_true', decide_eq_true_eq, decide_eq_false_iff_not, List.all_eq_true] at h
  obtain ⟨⟨⟨h1, h2⟩, h3⟩, h4⟩ := h
  refine ⟨h1, h2, h3, fun y hy => ⟨(h4 y hy).1.1, fun e => ?_⟩, fun y hy e => ?_⟩
  · rcases (h4 y hy).1.2 with z | z
    · exact absurd e z
    · exact z
  · rcases (h4 y hy).2 with (z | z) | z
    · exact absurd e z
    · exact .inl z
    · exact .inr z
theorem LamD.has {X : Cx} {scope : Scope} (L : LamD X.N X.env.scope scope) (ok : X.Ok) : ∀ y ∈ scope.names, y.2 = .free → ∃ c, X.env.cells.lookup y.1 = some c := fun y hy e => by
  rcases L.free y hy e with k | k
  · exact ok.has _ (.inl k)
  · exact ok.has _ (.inr k)
section
variable {X : Cx} {pins : List (Addr × Obj)} {σ : L2.St} {H HZ : Hp} {s s1 : Shared}
theorem notFr (J : Inv X pins σ H s) {b : Addr} (hb : s.heap.objs.size ≤ b) : b ∉ frs X.stack := fun z => by
  rcases List.mem_cons.mp (J.stkSub _ z) with q | q
  · have hl := J.lt
    rw [← q] at hl
    exact Nat.lt_irrefl _ (Nat.lt_of_lt_of_le hl hb)
  · exact J.nofs hb q
/-- the tail of the making, the tuple of the defaults there -/
theorem lam_tail3 {T : List (Addr × Str)} {c P tA : Addr} {u : Value} {params : Arguments} {body : Expr} {scope : Scope} {pos : Pos} {E : Value → Shared → Prop} {Q : Value → Shared → Prop} (J : Inv X pins σ H s) (TB : LamX.TabB X.base X.mg c P) (ec : X.env.code = .ref c)
    (mm : (P, X.env.qual ++ "<lambda>") ∈ T) (mu : ∀ p ∈ T, p.1 = P → p.2 = X.env.qual ++ "<lambda>") (hT : LamX.Tabs T H) (hfree : ∀ y ∈ scope.names, y.2 = .free → ∃ c, X.env.cells.lookup y.1 = some c) (eA : s.heap.get? tA = some (PySem.W.kdv_tup [u])) (nA : H tA = none) (fA : tA ∉ frs X.stack)
    (h : ∀ (f c' : Addr) (doc pm ctv : Value) (H1 : Hp) (s' : Shared), Inv X pins σ H1 s' → LamX.ExtN H H1 → LamX.Tabs T H1 → s'.heap.get? tA = some (PySem.W.kdv_tup [u]) →
      s'.heap.get? f = some (dlamO X params body scope tA doc pm c' ctv) → H1 f = none → H1 tA = none → f ∉ frs X.stack → H1 c' = some (LamX.CodeO c' (X.env.qual ++ "<lambda>")) → Q (.ref f) s') :
    wpAny (model X.prog X.w) X.A (PySem.makeTail "<lambda>" (X.env.qual ++ "<lambda>") params (.expr body) scope X.env (.ref tA) .none none pos pos.line) Q E s := by
  obtain ⟨ts, tP, t3, tall⟩ := hT _ mm
  have gP : s.heap.get? P = some { cls := .none, data := .fields ts } := J.hok P _ tP
  have bP : s.heap.BuiltinsAt X.mg P := TB.bm.keeps J.bk
  have neA : tA ≠ P := fun z => by
    rw [z, tP] at nA
    cases nA
  cases am : codeAmong pos ts.toList with
  | some cv =>
    obtain ⟨c', ecv, hco⟩ := tall pos cv am
    subst ecv
    refine PySem.W.kdv_makeTailHit (mg := X.mg) (c := c) (P := P) (ps := ts) (closure_ok hfree) J.ok.glob (J.mod.glob.keeps J.bk) ec (TB.code.keeps J.bk) gP t3 am bP fun ctv doc h' tk kx sz => ?_
    have J1 : Inv X pins σ H { s with heap := h'.push (dlamO X params body scope tA doc ((X.mg "__name__").getD .none) c' ctv), toks := tk } := J.kept fun b o e => Heap.get?_push_of_some _ (kx b o e)
    exact h h'.objs.size c' doc _ ctv H _ J1 (LamX.ExtN.refl H) hT (Heap.get?_push_of_some _ (kx _ _ eA)) (Heap.get?_push_size _ rfl) (J.hok.fresh sz) nA (notFr J sz) hco
  | none =>
    refine PySem.W.kdv_makeTail (mg := X.mg) (c := c) (P := P) (ps := ts) (closure_ok hfree) J.ok.glob (J.mod.glob.keeps J.bk) ec (TB.code.keeps J.bk) gP t3 am TB.gP bP fun c' ctv doc h' tk hx ge lt rc gtb => ?_
    obtain ⟨c2, oc, vs, t, ec2, goc, hd, hv⟩ := rc
    cases ec2
    have sz : s.heap.objs.size ≤ h'.objs.size := Nat.le_trans ge (Nat.le_of_lt lt)
    have nC : H c' = none := J.hok.fresh ge
    have J1 := LamX.inv_table (t' := tk) (more := #[rawInt pos.line, rawInt pos.col, .ref c']) (h' := h'.push (dlamO X params body scope tA doc ((X.mg "__name__").getD .none) c' ctv)) J tP
      (fun b o hb e => Heap.get?_push_of_some _ (hx b o hb e)) (Heap.get?_push_of_some _ gtb) ge ⟨oc, vs, t, Heap.get?_push_of_some _ goc, hd, hv⟩
    have eN : LamX.ExtN H (upd (upd H P (.tbl (ts ++ #[rawInt pos.line, rawInt pos.col, .ref c']))) c' (LamX.CodeO c' (X.env.qual ++ "<lambda>"))) := fun b o e n => by
      rw [upd_ne (ne_of_none e nC), upd_ne (fun z => n ts (Option.some.inj (e.symm.trans (by rw [z]; exact tP))))]
      exact e
    have tl : (ts ++ #[rawInt pos.line, rawInt pos.col, .ref c']).toList = ts.toList ++ [rawInt pos.line, rawInt pos.col, .ref c'] := by simp
    have nf : ∀ b, H b = none → b ≠ c' → b ≠ P → upd (upd H P (.tbl (ts ++ #[rawInt pos.line, rawInt pos.col, .ref c']))) c' (LamX.CodeO c' (X.env.qual ++ "<lambda>")) b = none := fun b e n1 n2 => by
      rw [upd_ne n1, upd_ne n2]
      exact e
    refine h h'.objs.size c' doc _ ctv _ _ J1 eN (fun p hp => ?_) (Heap.get?_push_of_some _ (hx _ _ neA eA)) (Heap.get?_push_size _ rfl) (nf _ (J.hok.fresh sz) (Nat.ne_of_gt lt) (Nat.ne_of_gt (Nat.lt_of_lt_of_le (Heap.lt_size gP) sz))) (nf _ nA (fun z => ?_) neA) (notFr J sz) upd_same
    · by_cases y : p.1 = P
      · rw [mu p hp y, y]
        refine ⟨_, by rw [upd_ne (ne_of_none tP nC), upd_same], by rw [tl]; exact PySem.TriplesOk_snoc _ _ _ _ t3, fun p' cv hcv => ?_⟩
        rw [tl] at hcv
        rcases LamX.among_app _ t3 hcv with z | z
        · obtain ⟨c0, q1, q2⟩ := tall p' cv z
          exact ⟨c0, q1, eN _ _ q2 LamX.codeO_ne⟩
        · exact ⟨c', z, upd_same⟩
      · obtain ⟨ts', a1, a2, a3⟩ := hT p hp
        refine ⟨ts', by rw [upd_ne (ne_of_none a1 nC), upd_ne y]; exact a1, a2, fun p' cv hcv => ?_⟩
        obtain ⟨c0, q1, q2⟩ := a3 p' cv hcv
        exact ⟨c0, q1, eN _ _ q2 LamX.codeO_ne⟩
    · have hl := Heap.lt_size eA
      rw [z] at hl
      exact absurd ge (Nat.not_le.mpr hl)
theorem lam_make3 {T : List (Addr × Str)} {c P : Addr} {params : Arguments} {body de : Expr} {scope : Scope} {pos : Pos} {n : Int} {Q : Value → Shared → Prop} (I : Inv X pins σ H s) (TB : LamX.TabB X.base X.mg c P) (ec : X.env.code = .ref c)
    (mm : (P, X.env.qual ++ "<lambda>") ∈ T) (mu : ∀ p ∈ T, p.1 = P → p.2 = X.env.qual ++ "<lambda>") (hT : LamX.Tabs T H) (hdf : params.defaults = [de]) (hkd : params.kw_defaults = []) (hde : PE X de (fun _ H Q => Q (.int n) H)) (hfree : ∀ y ∈ scope.names, y.2 = .free → ∃ c, X.env.cells.lookup y.1 = some c)
    (h : ∀ (f c' tA : Addr) (u doc pm ctv : Value) (H1 : Hp) (s' : Shared), Inv X pins σ H1 s' → LamX.ExtN H H1 → LamX.Tabs T H1 → s'.heap.get? tA = some (PySem.W.kdv_tup [u]) →
      s'.heap.get? f = some (dlamO X params body scope tA doc pm c' ctv) → H1 f = none → H1 tA = none → f ∉ frs X.stack → tA ∉ frs X.stack → H1 c' = some (LamX.CodeO c' (X.env.qual ++ "<lambda>")) → Q (.ref f) s') :
    wpAny (model X.prog X.w) X.A (eval (.Lambda params body scope pos) X.env) Q X.xe s := by
  refine PySem.W.kdv_lam (by rw [hdf]; rfl) hkd ?_
  rw [hdf]
  refine PySem.W.kdv_all1 (thn (hde.run pins s σ H (fun v H' => v = .int n ∧ H' = H) I ⟨rfl, rfl⟩) fun u s1 x => ?_)
  obtain ⟨w, H0, I1, r1, e1, e2⟩ := x
  subst e2
  refine PySem.W.kdv_all0 ?_
  rw [PySem.makeFunction_eq]
  simp only [List.zip_nil_right, List.filterMap_nil, List.isEmpty_nil, if_true, pure_bind, List.isEmpty_cons, Bool.false_eq_true, if_false]
  refine wpAny_bind (wpAny_newTextTuple ?_)
  have J : Inv X pins σ H0 { s1 with heap := s1.heap.push (PySem.W.kdv_tup [u]) } := I1.kept (t' := s1.toks) fun b o e => Heap.get?_push_of_some _ e
  have nA : H0 s1.heap.objs.size = none := I1.hok.fresh (Nat.le_refl _)
  have fA := notFr I1 (Nat.le_refl _)
  exact lam_tail3 (tA := s1.heap.objs.size) J TB ec mm mu hT hfree (Heap.get?_push_size _ rfl) nA fA fun f c' doc pm ctv H1 s' J1 eN T1 gA gf n1 n2 n3 hc => h f c' _ u doc pm ctv H1 s' J1 eN T1 gA gf n1 n2 n3 fA hc
theorem lam_start3 {A : Around} {outer : List Env} {E : XK} {scope : Scope} {f c' : Addr} {h₁ : Heap} {tk : Nat} {m : Str → Option Value} (I : Inv X pins σ H s) (L : LamD X.N X.env.scope scope) (e0 : Env0 X.prog X.w X.K X.mg X.base A outer s1 HZ) (ha : A.handled = none)
    (un : Un (frs X.stack) [] H HZ s.heap s1.heap) (ns : h₁.Ns s1.heap.objs.size m) (kx : ∀ b o, s1.heap.get? b = some o → h₁.get? b = some o) :
    Inv (LamX.lamCx X A outer s1 HZ E scope f c') [] σ HZ { s1 with heap := h₁, toks := tk } := by
  have mem : ∀ {y c}, (cloFrom X.env.cells scope.names []).lookup y = some c → X.env.cells.lookup y = some c := fun {y c} e => by
    rcases cloFrom_mem (PySem.mem_of_lookup e) with z | ⟨q1, q2⟩
    · cases z
    · obtain ⟨d, hd⟩ := L.has I.ok _ q1 rfl
      have hd : X.env.cells.lookup y = some d := hd
      have ed : c = d := by
        rw [q2, hd] <;> rfl
      rw [ed]
      exact hd
  have fnd : ∀ {y}, scope.names.lookup y = some .free → ∃ c, (cloFrom X.env.cells scope.names []).lookup y = some c := fun {y} q => by
    have z : (y, NameKind.free) ∈ scope.names := PySem.mem_of_lookup q
    exact mem_lookup (cloFrom_has (cells := X.env.cells) (acc := []) z)
  have cK : ∀ {c : Addr} {v : Option Value}, H c = none → s.heap.IsCell c v → h₁.IsCell c v := fun {c v} n ⟨o, ho, hd⟩ => by
    obtain ⟨sl, q⟩ := un.any ho n (by simp)
    exact ⟨_, kx _ _ q, hd⟩
  have no0 : ∀ b : Addr, b ∉ (LamX.lamCx X A outer s1 HZ E scope f c').ex := fun b z => absurd (show b ∈ ([] : List Addr) from z) (by simp)
  refine ⟨⟨e0.mod, L.kind, rfl, rfl, Nat.le_refl _, fun y z c e1 e2 => I.ok.inj y z c (mem e1) (mem e2), fun y hy => ?_, fun y c z _ => ?_, fun _ => ha, Around.frames_deeper e0.frames, .inr ⟨rfl, rfl⟩, fun b z => absurd z (no0 b), e0.bs, e0.bsz, fun b _ _ => no0 b,
      fun b z => absurd z (no0 b), e0.funs, e0.frf⟩,
    rfl, e0.bare, Un.kept kx, ⟨_, ns, fun i y v e1 e2 e3 => ?_⟩, fun y c e => ?_, e0.hok.fresh (Nat.le_refl _), fun y c e => ?_, fun q hq => absurd (show q ∈ ([] : List (Addr × Obj)) ++ [] from hq) (by simp), e0.hok.kept kx, I.len⟩
  · have hy : scope.names.lookup y = some .cell ∨ scope.names.lookup y = some .free := hy
    rcases hy with hy | hy
    · exact absurd rfl (L.own _ (PySem.mem_of_lookup hy)).1
    · exact fnd hy
  · have z : false = true := z
    cases z
  · have e3 : Vis scope y := e3
    rcases e3 with k | k | k
    · exact absurd (List.mem_of_getElem? e1) ((L.own _ (PySem.mem_of_lookup k)).2 rfl)
    · exact absurd rfl (L.own _ (PySem.mem_of_lookup k)).1
    · obtain ⟨m, hn, hl⟩ := I.loc
      have vis : Vis X.env.scope y := (L.free _ (PySem.mem_of_lookup k) rfl).elim (fun k => .inr (.inl k)) (fun k => .inr (.inr k))
      obtain ⟨w', r, q⟩ := hl i y v e1 e2 vis
      obtain ⟨c2, z2⟩ := fnd k
      refine ⟨w', r, .inr ⟨.inr k, c2, z2, ?_⟩⟩
      have z1 := mem z2
      rcases q with ⟨k', _⟩ | ⟨_, c3, e', z⟩
      · have k' : X.env.scope.names.lookup y = some .local := k'
        rcases L.free _ (PySem.mem_of_lookup k) rfl with k2 | k2 <;> rw [show X.env.scope.names.lookup y = _ from k2] at k' <;> cases k'
      · rw [z1] at e'
        cases e'
        exact cK (I.freeC y _ z1) z
  · obtain ⟨w', z⟩ := I.cell y c (mem e)
    exact ⟨w', cK (I.freeC y c (mem e)) z⟩
  · obtain ⟨v, o, ho, hd⟩ := I.cell y c (mem e)
    exact un.free c o ho (I.freeC y c (mem e)) (by simp)
/-- x() in the def that got such a lambda -/
theorem pe_act3 {CXg : CXT} {Eg : XK} {Ng : List Str} {qg : Str} {sg : Scope} {g f c' tA : Addr} {cdg pm doc ctv u : Value} {params : Arguments} {body : Expr} {scope : Scope} {k i : Nat} {a b : Str} {pn : List (Addr × Obj)} {xe : Value → Shared → Prop} {W : WX} {E : XK} {tb : TE} {p1 p2 : Pos}
    (I : Inv X pins σ H s) (L : LamD X.N X.env.scope scope) (gf : s.heap.get? f = some (dlamO X params body scope tA doc pm c' ctv)) (nf : H f = none) (ff : f ∉ frs X.stack) (gA : s.heap.get? tA = some (PySem.W.kdv_tup [u])) (nA : H tA = none) (fA : tA ∉ frs X.stack)
    (hbind : ∀ (s : Shared) (q : Str) (cl : List (Str × Addr)) (tA : Addr) (doc pm cv ctv u : Value), s.heap.get? tA = some (PySem.W.kdv_tup [u]) → BindsTo s (PySem.W.kdv_fn "<lambda>" q params (.expr body) scope cl (.ref tA) doc pm cv ctv) ⟨[], []⟩ [(b, u)]) (hb : scope.names.lookup b = some .local)
    (tk : Takes ((cxOf CXg X.prog X.w X.K X.mg X.base Ng qg sg g cdg X.A X.stack s H Eg).tr pn xe) W) (hW : ∀ cls d σ' H', E cls d H' → W cls d σ' H') (hr : Room (k + 1) (X.A.deeper (envOfC qg sg s.heap.objs.size g cdg)))
    (hbody : ∀ (A : Around) (outer : List Env) (s : Shared) (H : Hp), Room k (A.deeper (LamX.lamEnv X scope s.heap.objs.size f c')) → PE (LamX.lamCx X A outer s H E scope f c') body tb)
    (hN : Ng[i]? = some a) (hv : Vis sg a) (hd : (a == ("__debug__" : Str)) = false := by decide) (hcd : (a == ("__classdict__" : Str)) = false := by decide) :
    PE ((cxOf CXg X.prog X.w X.K X.mg X.base Ng qg sg g cdg X.A X.stack s H Eg).tr pn xe) (.Call (.Name a p1) [] [] p2)
      (fun σZ HZ Q => σZ[i]? = some (some (.ref f)) ∧ HZ c' = some (LamX.CodeO c' (X.env.qual ++ "<lambda>")) ∧ tb σ HZ Q) := by
  refine ⟨fun pinsZ sZ σZ HZ Q IZ h => ?_⟩
  obtain ⟨e0, hco, ht⟩ := h
  refine wpAny_Call_Name_kw (thn ((pe_var (pos := p1) (i := i) hN hv hd hcd).run pinsZ sZ σZ HZ (fun v H1 => v = .ref f ∧ H1 = HZ) IZ ⟨.ref f, e0, rfl, rfl⟩) fun w s1 ⟨v, H1, I1, r1, q1⟩ => ?_)
  obtain ⟨ev, eH⟩ := q1
  subst ev
  rw [eH] at I1
  obtain rfl : w = Value.ref f := r1
  have none0 : ∀ b : Addr, b ∉ ([] : List Addr) := fun b z => nomatch z
  have of1 : s1.heap.get? f = some (dlamO X params body scope tA doc pm c' ctv) := I1.base.keep f _ gf nf ff (none0 f)
  have oA1 : s1.heap.get? tA = some (PySem.W.kdv_tup [u]) := I1.base.keep tA _ gA nA fA (none0 tA)
  refine PySem.W.callWith_F0 ⟨_, _, _, _, of1⟩ ?_
  have un : Un (frs X.stack) [] H HZ s.heap s1.heap := I1.base
  obtain ⟨⟨oc, vs, t, goc, hdc, hvc⟩, _, _⟩ := I1.hok c' _ hco
  have rc : codeAny (model X.prog X.w) (X.A.deeper (envOfC qg sg s.heap.objs.size g cdg)) (.call (.ref f) ⟨[], []⟩) (CR (L2.CX X.prog X.w) (envOfC qg sg s.heap.objs.size g cdg :: X.stack) X.prog X.w HZ s1 Q E) s1 := by
    refine PySem.W.kla_callFunE hr.depth of1 rfl L.co L.gen rfl ⟨c', oc, vs, t, rfl, goc, hdc, hvc⟩ (hbind s1 _ _ _ _ _ _ _ _ oA1 _ _ _ _ ?_)
    refine wpAny_newFunctionEnv (fun y hy => (L.own y hy).1) (fun y hy => by rw [List.mem_singleton.mp hy]; exact hb) (fun h₁ ns hsb => ⟨I1.nolimit.fresh _ hsb, ?_⟩) L.kind
    show codeAny _ _ (.expr body (LamX.lamEnv X scope s1.heap.objs.size f c')) _ _
    have kx : ∀ b o, s1.heap.get? b = some o → h₁.get? b = some o := fun b o e => hsb.extBut b o (Nat.ne_of_lt (Heap.lt_size e)) (Heap.get?_push_of_some _ e)
    have J : Inv (LamX.lamCx X (X.A.deeper (envOfC qg sg s.heap.objs.size g cdg)) (envOfC qg sg s.heap.objs.size g cdg :: X.stack) s1 HZ E scope f c') [] σ HZ { s1 with heap := h₁, toks := s1.toks + ([(b, u)] : List (Str × Value)).length } :=
      lam_start3 I L I1.env0 hr.hd un ns kx
    refine PySem.W.kla_codeExpr (wpAny_mono ((hbody _ _ s1 HZ (hr.deeper _)).run [] _ _ HZ Q J ht) (fun v s' hq => ?_) fun e s' hq => hq)
    obtain ⟨w', H', J', rv, q⟩ := hq
    exact ⟨w', H', J'.os, J'.bare, J'.base, J'.hok, rv, q⟩
  have hx : Passes (L2.CX X.prog X.w) ((cxOf CXg X.prog X.w X.K X.mg X.base Ng qg sg g cdg X.A X.stack s H Eg).tr pn xe) E := passes_call tk hW
  refine wpAny_call (codeAny_mono rc fun r s' hq => ?_)
  cases r with
  | error e => exact hx pinsZ σZ HZ s1 e s' I1 hq
  | ok fl =>
    cases fl with
    | ret u => exact I1.after hq
    | next => exact False.elim hq
    | brk => exact False.elim hq
    | cont => exact False.elim hq
end
section
variable {X : Cx} {TT : (XK → Hp → VK → Prop) → Hp → VK → Prop} {x a b : Str} {g f c' tA : Addr} {k : Nat} {pg : Arguments} {bg : List Stmt} {sg : Scope} {dV kV doc pm cdv ct oc : Value} {doc' pm' ctv u : Value} {an od : Option Addr} {osl : Array (Option Value)} {Ng : List Str}
  {params : Arguments} {body ea : Expr} {scope : Scope} {t : XK → TE} {p pos : Pos} {j : Nat}
/-- g(x), where x is a lambda with a default that was kept -/
theorem pe_actname3 {q : Str} (hq : X.env.qual ++ "<lambda>" = q) (hpin : (f, dlamO X params body scope tA doc' pm' c' ctv) ∈ X.pn) (hpA : (tA, PySem.W.kdv_tup [u]) ∈ X.pn) (hfr : f ∉ frs X.stack) (hfA : tA ∉ frs X.stack) (hg : Gl X x) (hm : X.mg x = some (.ref g)) (hk : PySem.W.keepIn X.K (.ref g) = true) (lk : X.K.lookup g = some ⟨oc, od, .func (PySem.W.fnOf x x pg bg sg dV kV doc pm an cdv ct), osl⟩)
    (hcg : PySem.W.codeIn X.K cdv x = true) (hb : L2.Binds X.K (PySem.W.fnOf x x pg bg sg dV kV doc pm an cdv ct) [a] []) (Sg : FnScope Ng [a] sg) (hNg : Ng[0]? = some a) (hva : Vis sg a) (hG : LamX.GivesTo X Ng x sg g cdv bg a (X.env.qual ++ "<lambda>") TT)
    (hr : Room (k + 2) X.A) (L : LamD X.N X.env.scope scope) (hbind : ∀ (s : Shared) (q : Str) (cl : List (Str × Addr)) (tA : Addr) (doc pm cv ctv u : Value), s.heap.get? tA = some (PySem.W.kdv_tup [u]) → BindsTo s (PySem.W.kdv_fn "<lambda>" q params (.expr body) scope cl (.ref tA) doc pm cv ctv) ⟨[], []⟩ [(b, u)]) (hbl : scope.names.lookup b = some .local)
    (hbody : ∀ (A : Around) (outer : List Env) (s : Shared) (H : Hp) (E : XK) (f c' : Addr), Room k (A.deeper (LamX.lamEnv X scope s.heap.objs.size f c')) → PE (LamX.lamCx X A outer s H E scope f c') body (t E)) (ha : PE X ea (tVar j))
    (hdb : (x == ("__debug__" : Str)) = false := by decide) (hd : (a == ("__debug__" : Str)) = false := by decide) (hcd : (a == ("__classdict__" : Str)) = false := by decide)
    (he : starEach [ea] X.env = (false, eval ea X.env) :: starEach [] X.env := by rfl) (hpl : (backTo pos (starEach [] X.env)).any (·.1) = false := by rfl) :
    PE X (.Call (.Name x p) [ea] [] pos) (fun σ H Q => σ[j]? = some (some (.ref f)) ∧ H c' = some (LamX.CodeO c' q) ∧ TT (fun E H' Q' => t E σ H' Q') H Q) := by
  refine ⟨fun pins s σ H Q I h => wpAny_Call_Name_kw (ld_glob I hg hm (PySem.W.callWith_K I.ok.mod.kin hk ?_ he hpl) hdb)⟩
  subst hq
  obtain ⟨hσ, hco, hT⟩ := h
  refine thn ((pa_cons ha pa_nil he).run pos pins s σ H (fun vs H1 => vs = [.ref f] ∧ H1 = H) I ⟨_, hσ, rfl, rfl⟩) fun us s1 y => ?_
  obtain ⟨vs, H1, I1, r1, rfl, rfl⟩ := y
  obtain ⟨w, rfl, rw_⟩ := r1.one
  have rw2 : w = Value.ref f := rw_
  subst rw2
  refine ⟨I1.kIn, ?_⟩
  obtain ⟨hf, hfn, _⟩ := I1.pin _ (List.mem_append_left _ hpin)
  obtain ⟨hA, hAn, _⟩ := I1.pin _ (List.mem_append_left _ hpA)
  have rc := LamX.run_ofS (CX := C8.CX0) (E := C8.E0) (Q := Q) lk hcg Sg hr I1.env0 (hb s1 [Value.ref f] I1.kIn rfl) (show Vals [V.ref f] [Value.ref f] from .cons rfl .nil) rfl (fun hr' => by
    obtain ⟨t', ht', hq'⟩ := hG f c' s1 H1 Q (fun E H' Q' => t E σ H' Q') (fun W pn xe E p1 p2 tk hW => pe_act3 I1 L hf hfn hfr hA hAn hfA hbind hbl tk hW hr' (fun A outer s H hr2 => hbody A outer s H E f c' hr2) hNg hva hd hcd) hco hT
    exact ⟨t', ht'.nox, hq'⟩)
  refine wpAny_call (codeAny_mono rc fun r s2 hq => ?_)
  cases r with
  | error e => exact (show False from hq).elim
  | ok fl =>
    cases fl with
    | next => exact (show False from hq).elim
    | brk => exact (show False from hq).elim
    | cont => exact (show False from hq).elim
    | ret u => exact I1.after hq
end
section
variable {X : Cx} {T : List (Addr × Str)} {c P : Addr} {params params2 : Arguments} {body body2 de : Expr} {scope scope2 : Scope} {lpos lpos2 lp py pos : Pos} {y : Str} {i : Nat} {n : Int} {rest : List Stmt} {u : Addr → Addr → Addr → Addr → TS}
/-- xs = [lambda: e, lambda a=n: e2] -/
theorem pss_lamset2 {q : Str} (hq : X.env.qual ++ "<lambda>" = q) (hst : X.stack = X.env :: X.outer) (hfm : X.env.frame = some X.env.locals) (hN : X.N.Nodup) (hi : X.N[i]? = some y) (hy : Loc X.env.scope y) (TB : LamX.TabB X.base X.mg c P) (hcode : X.env.code = .ref c) (hmT : (P, X.env.qual ++ "<lambda>") ∈ T)
    (hu : ∀ p ∈ T, p.1 = P → p.2 = X.env.qual ++ "<lambda>") (L : LamX.LamS X.env.scope scope) (hdef : defaultsOf params X.env = ([], [])) (M2 : LamD X.N X.env.scope scope2) (hdf : params2.defaults = [de]) (hkd : params2.kw_defaults = [])
    (hde : ∀ pn xe, PE (X.tr pn xe) de (fun _ H Q => Q (.int n) H))
    (hrest : ∀ (f c' f2 c2 tA : Addr) (pm ctv u2 doc2 pm2 ctv2 : Value) (pn' : List (Addr × Obj)), f ∉ frs X.stack → (f, lamO X params body scope pm c' ctv) ∈ pn' → f2 ∉ frs X.stack → tA ∉ frs X.stack → (f2, dlamO X params2 body2 scope2 tA doc2 pm2 c2 ctv2) ∈ pn' → (tA, PySem.W.kdv_tup [u2]) ∈ pn' → (∀ p ∈ X.pn, p ∈ pn') → PSs (X.tr pn' X.xe) rest (u f c' f2 c2))
    (hs : swapsWith (.List [.Lambda params body scope lpos, .Lambda params2 body2 scope2 lpos2] lp) (some (.Name y py)) pos.line X.env = pure false := by rfl) (hl : X.fn y = true ∨ X.env.scope.names.lookup y = some .local := by first | exact .inr rfl | exact .inl rfl) :
    PSs X (.Assign [.Name y py] (.List [.Lambda params body scope lpos, .Lambda params2 body2 scope2 lpos2] lp) pos :: rest)
      (fun D σ H => LamX.Tabs T H ∧ ∀ (f c' f2 c2 : Addr) (H1 H2 : Hp), LamX.ExtN H H1 → LamX.Tabs T H1 → H1 f = none → H1 c' = some (LamX.CodeO c' q) → LamX.ExtN H1 H2 → LamX.Tabs T H2 → H2 f = none → H2 f2 = none → H2 c' = some (LamX.CodeO c' q) → H2 c2 = some (LamX.CodeO c2 q) → ∀ p, H2 p = none → u f c' f2 c2 D (σ.set i (some (.ref p))) (upd H2 p (.lst [.ref f, .ref f2]))) := by
  refine ⟨fun pins s σ H D I h => ?_⟩
  subst hq
  obtain ⟨hT, h⟩ := h
  have kk := I.ok
  refine wpAny_execs_cons (wpAny_Assign_Name (wpAny_List_spliced ?_) hs)
  show wpAny _ _ (spliced [(false, _), (false, _)]) _ _ _
  refine Calls.spliced_cons (LamX.lam_make2 I TB hcode hmT hu hT hdef (L.has I.ok) fun f c' pm ctv H1 s' I1 eN T1 hf hfn hfr hco => ?_)
  have I2 := inv_pin I1 hst hfm hf hfn hfr (fun v z => by cases z)
  have hX : X.tr X.pn X.xe = X := rfl
  refine Calls.spliced_cons (lam_make3 I2 TB hcode hmT hu T1 hdf hkd (hX ▸ hde X.pn X.xe) (M2.has I.ok) fun f2 c2 tA u2 doc2 pm2 ctv2 H2 s2 J1 eN2 T2 gA gf2 nf2 nA ff2 fA hco2 => Calls.spliced_nil ⟨(by show 2 ≤ sizeLine; decide), ?_⟩)
  have J2 := inv_pin J1 hst hfm gA nA fA (fun v z => by cases z)
  have J3 := inv_pin J2 hst hfm gf2 nf2 ff2 (fun v z => by cases z)
  have hfresh := J3.hok.fresh (Nat.le_refl s2.heap.objs.size)
  have nf : H2 f = none := (J3.pin (f, lamO X params body scope pm c' ctv) (by simp)).2.1
  have J4 : Inv X (pins ++ [(f, lamO X params body scope pm c' ctv)] ++ [(tA, PySem.W.kdv_tup [u2])] ++ [(f2, dlamO X params2 body2 scope2 tA doc2 pm2 c2 ctv2)]) σ (upd H2 s2.heap.objs.size (.lst [.ref f, .ref f2])) { s2 with heap := s2.heap.push { cls := .type "list", data := .seq (List.toArray [Value.ref f, Value.ref f2]) } } :=
    J3.laid (t' := s2.toks) (fun b w e => Heap.get?_push_of_some _ e) (Nat.le_refl _) ⟨(by show 2 ≤ sizeLine; decide), [Value.ref f, Value.ref f2], 0, .cons rfl (.cons rfl .nil), Heap.get?_push_size s2.heap rfl⟩
  refine store_ok (v := .ref s2.heap.objs.size) J4 hN hi hy rfl (fun s3 I4 => ?_) hl
  have I5 : Inv X (pins ++ ([(f, lamO X params body scope pm c' ctv)] ++ [(tA, PySem.W.kdv_tup [u2])] ++ [(f2, dlamO X params2 body2 scope2 tA doc2 pm2 c2 ctv2)])) (σ.set i (some (.ref s2.heap.objs.size))) (upd H2 s2.heap.objs.size (.lst [.ref f, .ref f2])) s3 := by rw [← List.append_assoc, ← List.append_assoc]; exact I4
  have kr := (hrest f c' f2 c2 tA pm ctv u2 doc2 pm2 ctv2 (X.pn ++ (pins ++ ([(f, lamO X params body scope pm c' ctv)] ++ [(tA, PySem.W.kdv_tup [u2])] ++ [(f2, dlamO X params2 body2 scope2 tA doc2 pm2 c2 ctv2)]))) hfr (by simp) ff2 fA (by simp) (by simp) (fun p hp => List.mem_append_left _ hp)).run [] s3 _ _ D (I5.toTry X.xe) (h f c' f2 c2 H1 H2 eN T1 hfn hco eN2 T2 nf nf2 (eN2 _ _ hco (fun ps => LamX.codeO_ne ps)) hco2 _ hfresh)
  exact wpAny_mono kr (fun fl z hsp => sp_back kk hsp) (fun _ _ y => y)
end
end WB
namespace WB
open PySem PySem.Spec PyProof.Rows L2
def topS (i : Nat) : Stmt := PySem.Challenge.pw_warbleline_k24_hearing_refused.main.body.getD i (.Pass ⟨0, 0, 0, 0⟩)
abbrev s_LineError : Stmt := topS 1
abbrev s_BadBit : Stmt := topS 2
abbrev s_BadCount : Stmt := topS 3
abbrev s_BadRate : Stmt := topS 4
abbrev s_Missing : Stmt := topS 5
abbrev s_check_bits : Stmt := topS 8
abbrev s_number_bits : Stmt := topS 9
abbrev s_bits_number : Stmt := topS 10
abbrev s_check_rate : Stmt := topS 15
abbrev s_folded : Stmt := topS 16
abbrev s_apart : Stmt := topS 17
abbrev s_points_at : Stmt := topS 18
abbrev s_step : Stmt := topS 19
abbrev s_point : Stmt := topS 20
abbrev s_moved : Stmt := topS 24
abbrev s_class_of : Stmt := topS 25
abbrev s_coded : Stmt := topS 26
abbrev s_nearest_of_class : Stmt := topS 27
abbrev s_onward : Stmt := topS 28
abbrev s_best_of_beat : Stmt := topS 29
abbrev s_tail_costs : Stmt := topS 30
abbrev s_bits_along : Stmt := topS 31
abbrev s_heard_path : Stmt := topS 32
abbrev s_nearest : Stmt := topS 33
abbrev s_least_distance : Stmt := topS 34
abbrev s__law_bag : Stmt := topS 36
abbrev s__law_pick : Stmt := topS 37
abbrev s__law_of : Stmt := topS 38
abbrev s__law_same : Stmt := topS 39
abbrev s__law_tried : Stmt := topS 40
abbrev s__law_worth : Stmt := topS 41
abbrev s__law_apart : Stmt := topS 42
abbrev s__law_step : Stmt := topS 43
abbrev s__law_point : Stmt := topS 44
abbrev s__law_coded : Stmt := topS 45
abbrev s__law_tones : Stmt := topS 46
abbrev s__law_cost : Stmt := topS 47
abbrev s__law_far : Stmt := topS 48
abbrev s__law_no_pace : Stmt := topS 49
abbrev s_law : Stmt := topS 50
section
variable {P : Program} {w : World} {K : PySem.W.Frag} {mg : Str → Option Value} {base : Heap}
abbrev i_LineError : Stmt := inClass s_LineError 0
theorem sc_i_LineError : FnScope ["self", "word", "text"] ["self", "word", "text"] (defScope i_LineError) := ⟨rfl, rfl, rfl, by decide +kernel, rfl, by decide +kernel, by decide +kernel⟩
theorem ok_i_LineError {f : Addr} {fd : FuncData} {k : Nat} {dvs : List V} (F : FunD K "__init__" "LineError.__init__" (defArgs i_LineError) (defBody i_LineError) (defScope i_LineError) dvs [] f fd) (n_ValueError : mg "ValueError" = none) (vV : PySem.W.findCls K (.type "ValueError") (.type "type") "__init__" = some (.val (.builtin "ValueError.__init__"))) :
    FnOk P w K mg base CX0 (k + 1) f fd ["self", "word", "text"] (spLE K) := by
  have sc := sc_i_LineError
  refine F.ok sc (fun vs H Q E h => ?_) (fun cdv A outer s H vs Q E hr h => ?_)
  · obtain ⟨a, C, w, t, rfl, _⟩ := h
    rfl
  · obtain ⟨a, C, w, t, rfl, hC, hw, ha, q⟩ := h
    refine ⟨_, PSs.nox (pss_cons (ps_expr (pe_veinit (by rfl) n_ValueError vV (pa_cons (pv 0) (pa_cons (pv 2) pa_nil)))) (pss_one (ps_ost (pv 0) (pv 1)))), ?_⟩
    refine ⟨_, rfl, _, rfl, a, C, [t], rfl, by show 1 ≤ 1000; decide, hC, ha, ?_⟩
    exact ⟨_, rfl, _, rfl, a, C, rfl, hC, hw, .inl ⟨ha, fun d nd da => q d nd da⟩⟩
abbrev i_BadBit : Stmt := inClass s_BadBit 0
theorem sc_i_BadBit : FnScope ["self", "at"] ["self", "at"] (defScope i_BadBit) := ⟨rfl, rfl, rfl, by decide +kernel, rfl, by decide +kernel, by decide +kernel⟩
theorem ok_i_BadBit {f fL C CL : Addr} {fd fdL : FuncData} {k : Nat} (F : Fun K "__init__" "BadBit.__init__" i_BadBit f fd) (TL : ClsFn K mg "LineError" "__init__" CL fL) (FL : FnOk P w K mg base CX0 k fL fdL ["self", "word", "text"] (spLE K)) (bL : Binds K fdL ["self", "word", "text"] [])
    (hC : OexC K C) (hw : PySem.W.findIn K (.ref C) "word" = some none) (hf : PySem.W.findIn K (.ref C) "at" = some none) : FnOk P w K mg base CX0 (k + 1) f fd ["self", "at"] (spIni K C "BadBit" "at") := by
  have sc := sc_i_BadBit
  refine F.ok sc (fun vs H Q E h => ?_) (fun cdv A outer s H vs Q E hr h => ?_)
  · obtain ⟨a, i, rfl, _⟩ := h
    rfl
  · obtain ⟨a, i, rfl, hi, ha, q⟩ := h
    refine ⟨_, (pss_cons (ps_expr (pe_clsfn TL FL hr bL pass0 (by rfl) (pa_cons (pv 0) (pa_cons pe_str (pa_cons (pe_joined (.cons pe_str (.cons (pe_fmt (pv 1)) .nil))) pa_nil))))) (pss_one (ps_ost (pv 0) (pv 1)))), ?_⟩
    refine ⟨_, rfl, _, rfl, (by decide +kernel), _, rfl, .inr ⟨i, rfl, by omega, _, rfl, txt_fits (by decide +kernel) hi, ?_⟩⟩
    refine ⟨a, C, _, _, rfl, hC, hw, ha, fun d nd da => ?_⟩
    refine ⟨_, rfl, _, rfl, a, C, rfl, hC, hf, .inr ⟨d, _, upd_same, ?_, by show 1 ≤ 900; decide, q d nd da⟩⟩
    rw [upd_ne da, upd_same]
abbrev i_BadCount : Stmt := inClass s_BadCount 0
theorem sc_i_BadCount : FnScope ["self"] ["self"] (defScope i_BadCount) := ⟨rfl, rfl, rfl, by decide +kernel, rfl, by decide +kernel, by decide +kernel⟩
theorem ok_i_BadCount {f fL C CL : Addr} {fd fdL : FuncData} {k : Nat} (F : Fun K "__init__" "BadCount.__init__" i_BadCount f fd) (TL : ClsFn K mg "LineError" "__init__" CL fL) (FL : FnOk P w K mg base CX0 k fL fdL ["self", "word", "text"] (spLE K)) (bL : Binds K fdL ["self", "word", "text"] [])
    (hC : OexC K C) (hw : PySem.W.findIn K (.ref C) "word" = some none) : FnOk P w K mg base CX0 (k + 1) f fd ["self"] (spIni0 K C "BadCount") := by
  have sc := sc_i_BadCount
  refine F.ok sc (fun vs H Q E h => ?_) (fun cdv A outer s H vs Q E hr h => ?_)
  · obtain ⟨a, rfl, _⟩ := h
    rfl
  · obtain ⟨a, rfl, ha, q⟩ := h
    refine ⟨_, (pss_one (ps_expr (pe_clsfn TL FL hr bL pass0 (by rfl) (pa_cons (pv 0) (pa_cons pe_str (pa_cons pe_str pa_nil)))))), ?_⟩
    exact ⟨_, rfl, a, C, _, _, rfl, hC, hw, ha, fun d nd da => q d nd da⟩
abbrev i_BadRate : Stmt := inClass s_BadRate 0
theorem sc_i_BadRate : FnScope ["self"] ["self"] (defScope i_BadRate) := ⟨rfl, rfl, rfl, by decide +kernel, rfl, by decide +kernel, by decide +kernel⟩
theorem ok_i_BadRate {f fL C CL : Addr} {fd fdL : FuncData} {k : Nat} (F : Fun K "__init__" "BadRate.__init__" i_BadRate f fd) (TL : ClsFn K mg "LineError" "__init__" CL fL) (FL : FnOk P w K mg base CX0 k fL fdL ["self", "word", "text"] (spLE K)) (bL : Binds K fdL ["self", "word", "text"] [])
    (hC : OexC K C) (hw : PySem.W.findIn K (.ref C) "word" = some none) : FnOk P w K mg base CX0 (k + 1) f fd ["self"] (spIni0 K C "BadRate") := by
  have sc := sc_i_BadRate
  refine F.ok sc (fun vs H Q E h => ?_) (fun cdv A outer s H vs Q E hr h => ?_)
  · obtain ⟨a, rfl, _⟩ := h
    rfl
  · obtain ⟨a, rfl, ha, q⟩ := h
    refine ⟨_, (pss_one (ps_expr (pe_clsfn TL FL hr bL pass0 (by rfl) (pa_cons (pv 0) (pa_cons pe_str (pa_cons pe_str pa_nil)))))), ?_⟩
    exact ⟨_, rfl, a, C, _, _, rfl, hC, hw, ha, fun d nd da => q d nd da⟩
theorem sc__law_tried : FnScope ["_law_act", "e"] ["_law_act"] (defScope s__law_tried) := ⟨rfl, rfl, rfl, by decide +kernel, rfl, by decide +kernel, by decide +kernel⟩
/-- what the law's tried makes of a lambda: told, or refused by one of two classes, whose word it tells -/
def TTried2 (C1 : Addr) (nm1 : Str) (C2 : Addr) (nm2 : Str) : (XK → Hp → VK → Prop) → Hp → VK → Prop := fun tl H Q =>
  tl (fun cls d H' => ∃ (dd : Addr) (fs : List (Str × V)), d = some dd ∧ H' dd = some (.xd fs) ∧ ((cls = .ref C1 ∧ fs.lookup ("word" : Str) = some (.str nm1) ∧ ∀ p, H' p = none → Q (.ref p) (upd H' p (.tup [.str "refused", .str nm1]))) ∨ (cls = .ref C2 ∧ fs.lookup ("word" : Str) = some (.str nm2) ∧ ∀ p, H' p = none → Q (.ref p) (upd H' p (.tup [.str "refused", .str nm2]))))) H
    (fun v H1 => ([V.str "told", v] : List V).length ≤ sizeLine ∧ ∀ p, H1 p = none → Q (.ref p) (upd H1 p (.tup [.str "told", v])))
theorem tried2_gives {X : Cx} {g c1 c2 cL cM : Addr} {cdg : Value} {q nm1 nm2 : Str} (x1 : XfC X.K c1) (no1 : PySem.W.findIn X.K (.ref c1) "word" = some none) (x2 : XfC X.K c2) (no2 : PySem.W.findIn X.K (.ref c2) "word" = some none) (gL : X.mg "LineError" = some (.ref cL)) (gM : X.mg "Missing" = some (.ref cM))
    (nl1 : PySem.W.exmOne X.K (.ref c1) (.ref cL) = some true) (nl2 : PySem.W.exmOne X.K (.ref c2) (.ref cL) = some true) :
    LamX.GivesTo X ["_law_act", "e"] "_law_tried" (defScope s__law_tried) g cdg (defBody s__law_tried) "_law_act" q (TTried2 c1 nm1 c2 nm2) := by
  intro f c' s H Q tl act hc h
  have sc := sc__law_tried
  refine ⟨_, pss_one (ps_try_manyA (X := (cxOf C8.CX0 X.prog X.w X.K X.mg X.base ["_law_act", "e"] "_law_tried" (defScope s__law_tried) g cdg X.A X.stack s H C8.E0).nox) (n := "e") (i := 1)
      (tb := fun W D σ H => ∃ Ech : XK, (∀ cls d σ' H', Ech cls d H' → σ'.length = 2 → W cls d σ' H') ∧ σ[0]? = some (some (.ref f)) ∧ H c' = some (LamX.CodeO c' q) ∧ tl Ech H (fun v H1 => ([V.str "told", v] : List V).length ≤ sizeLine ∧ ∀ p, H1 p = none → D.rt (.ref p) (upd H1 p (.tup [.str "told", v]))))
      rfl rfl sc.nd rfl rfl LamX.takes0 (fun W pn xe tk _ => ?_)
      (.cons (c := .ref cL) ⟨by rfl, by decide, .inl gL⟩ (fun a oe cls d pn hz hf => pss_one (ps_ret (pe_tup (pa_cons pe_str (pa_cons (pe_or2 (pe_xf x1 no1 hz hf (pv 1)) (pe_xf x2 no2 hz hf (pv 1))) pa_nil)))))
      (.cons (c := .ref cM) ⟨by rfl, by decide, .inl gM⟩ (fun a oe cls d pn hz hf => pss_one ps_never) .nil))), ?_⟩
  · refine ⟨fun pins s' σ H' D I h' => ?_⟩
    obtain ⟨Ech, hW, h1, h2, h3⟩ := h'
    exact PSs.run (pss_one (ps_ret (pe_tup (pa_cons pe_str (pa_cons (act _ pn xe Ech _ _ (takes_len tk) (fun cls d σ' H' e hl => hW cls d σ' H' e hl)) pa_nil))))) pins s' σ H' D I ⟨h1, h2, h3⟩
  · refine ⟨_, fun cls d σ' H' e hl => ?_, rfl, hc, h⟩
    have g1 : ∀ a : Addr, (σ'.set 1 (some (V.ref a)))[1]? = some (some (V.ref a)) := fun a => set_get (by omega)
    obtain ⟨dd, fs, rfl, hd, ⟨rfl, hw, q'⟩ | ⟨rfl, hw, q'⟩⟩ := e
    · exact ⟨true, nl1, fun _ a _ => .inl ⟨_, g1 a, rfl, rfl, dd, _, _, rfl, hd, hw, (by show 2 ≤ sizeLine; decide), q'⟩, fun z => by cases z⟩
    · exact ⟨true, nl2, fun _ a _ => .inr ⟨_, g1 a, rfl, rfl, dd, _, _, rfl, hd, hw, (by show 2 ≤ sizeLine; decide), q'⟩, fun z => by cases z⟩
/-! ### numbers in bits -/
def bn (bs : List Int) : Int := bs.foldl (fun n b => 2 * n + b) 0
theorem bn_more {bs : List Int} {i : Nat} {b : Int} (h : bs[i]? = some b) : bn (bs.take (i + 1)) = 2 * bn (bs.take i) + b := by
  unfold bn
  rw [take_more h, List.foldl_append]
  rfl
theorem bn_acc (n : Nat) : ∀ (i : Nat) (c : Int), (wr i (n : Int)).foldl (fun n b => 2 * n + b) c = c * 2 ^ i + ((n % 2 ^ i : Nat) : Int)
  | 0, c => by
    show c = c * 1 + ((n % 1 : Nat) : Int)
    rw [Nat.mod_one]
    omega
  | i + 1, c => by
    show (wr i (n : Int)).foldl _ (2 * c + ((n : Int) / 2 ^ i) % 2) = _
    rw [bn_acc n i]
    have e : ((n : Int) / 2 ^ i) % 2 = ((n / 2 ^ i % 2 : Nat) : Int) := by
      rw [Int.natCast_emod, Int.natCast_ediv, Int.natCast_pow]
      rfl
    rw [e, Nat.mod_pow_succ, Int.natCast_add, Int.natCast_mul, Int.natCast_pow, Int.pow_succ, Int.add_mul]
    have e2 : (2 * c) * 2 ^ i = c * (2 ^ i * 2) := by
      rw [Int.mul_comm 2 c, Int.mul_assoc, Int.mul_comm 2 (2 ^ i)]
    rw [e2]
    have e3 : ((n / 2 ^ i % 2 : Nat) : Int) * 2 ^ i = (2 : Int) ^ i * ((n / 2 ^ i % 2 : Nat) : Int) := Int.mul_comm _ _
    show _ + ((n / 2 ^ i % 2 : Nat) : Int) * 2 ^ i + ((n % 2 ^ i : Nat) : Int) = _ + (((n % 2 ^ i : Nat) : Int) + (2 : Int) ^ i * ((n / 2 ^ i % 2 : Nat) : Int))
    rw [e3]
    omega
theorem bn_wr {n : Int} {i : Nat} (h0 : 0 ≤ n) (h1 : n < 2 ^ i) : bn (wr i n) = n := by
  obtain ⟨m, rfl⟩ : ∃ m : Nat, n = (m : Int) := ⟨n.toNat, by omega⟩
  unfold bn
  rw [bn_acc, Nat.mod_eq_of_lt (by exact_mod_cast h1)]
  omega
theorem pow64 {k : Nat} (h : k ≤ 64) : (1 : Int) ≤ 2 ^ k ∧ (2 : Int) ^ k ≤ 18446744073709551616 := by
  have h1 : (2 : Nat) ^ k ≤ 18446744073709551616 := Nat.le_trans (Nat.pow_le_pow_right (by decide) h) (by decide)
  have h2 : 1 ≤ (2 : Nat) ^ k := Nat.one_le_two_pow
  have e : ((2 ^ k : Nat) : Int) = (2 : Int) ^ k := Int.natCast_pow 2 k
  rw [← e]
  generalize 2 ^ k = x at h1 h2 ⊢
  omega
theorem lt_of_div {n : Int} {k : Nat} (h : n / 2 ^ k = 0) : n < 2 ^ k := by
  have h1 := Int.mul_ediv_add_emod n (2 ^ k)
  rw [h, Int.mul_zero, Int.zero_add] at h1
  have := Int.emod_lt_of_pos n (b := 2 ^ k) (Int.pow_pos (by decide))
  omega
/-! ### the ring -/
def fold (n : Int) : Int := (n + 128) % 256 - 128
def apartI (a b : Int) : Int := if fold (a - b) < 0 then - fold (a - b) else fold (a - b)
def spFolded : Sp := fun vs H Q _ => ∃ (n : Int), vs = [.int n] ∧ Q (.int (fold n)) H
def spApart : Sp := fun vs H Q _ => ∃ (a b : Int), vs = [.int a, .int b] ∧ Q (.int (apartI a b)) H
theorem fold_shift (n k : Int) : fold (n + 256 * k) = fold n := by unfold fold; omega
theorem fold_fold (n : Int) : fold (fold n) = fold n := by unfold fold; omega
theorem apart_comm (a b : Int) : apartI a b = apartI b a := by
  unfold apartI fold
  split <;> split <;> omega
theorem apart_fold (a b : Int) : apartI (fold a) b = apartI a b := by
  have : fold (fold a - b) = fold (a - b) := by unfold fold; omega
  unfold apartI
  rw [this]
theorem apart_law (a b : Int) : (if 256 - (if a - b < 0 then -(a - b) else a - b) % 256 < (if a - b < 0 then -(a - b) else a - b) % 256 then 256 - (if a - b < 0 then -(a - b) else a - b) % 256 else (if a - b < 0 then -(a - b) else a - b) % 256) = apartI a b := by
  unfold apartI fold
  generalize a - b = d
  split <;> split <;> split <;> omega
theorem apart_le (a b : Int) : 0 ≤ apartI a b ∧ apartI a b ≤ 128 := by
  unfold apartI fold
  split <;> omega
/-! ### points -/
def okR (r : Int) : Prop := 1 ≤ r ∧ r ≤ 4
instance decOkR (r : Int) : Decidable (okR r) := inferInstanceAs (Decidable (1 ≤ r ∧ r ≤ 4))
def ptsI (r : Int) : Int := 4 * 2 ^ (r - 1).toNat
def stepI (r : Int) : Int := 256 / ptsI r
def pointI (n r : Int) : Int := stepI r / 2 - 256 / 2 + n * stepI r
theorem okR_cases {r : Int} (h : okR r) : r = 1 ∨ r = 2 ∨ r = 3 ∨ r = 4 := by
  obtain ⟨h1, h2⟩ := h
  omega
theorem pts_step {r : Int} (h : okR r) : (r = 1 ∧ ptsI r = 4 ∧ stepI r = 64) ∨ (r = 2 ∧ ptsI r = 8 ∧ stepI r = 32) ∨ (r = 3 ∧ ptsI r = 16 ∧ stepI r = 16) ∨ (r = 4 ∧ ptsI r = 32 ∧ stepI r = 8) := by
  rcases okR_cases h with rfl | rfl | rfl | rfl
  · exact .inl ⟨rfl, by decide, by decide⟩
  · exact .inr (.inl ⟨rfl, by decide, by decide⟩)
  · exact .inr (.inr (.inl ⟨rfl, by decide, by decide⟩))
  · exact .inr (.inr (.inr ⟨rfl, by decide, by decide⟩))
theorem rate_in (r : Int) : inV (.int r) [.int 1, .int 2, .int 3, .int 4] = decide (okR r) := by
  have h := inV_ints r [1, 2, 3, 4]
  have e : ([1, 2, 3, 4] : List Int).map V.int = [.int 1, .int 2, .int 3, .int 4] := rfl
  rw [e] at h
  rw [h]
  refine decide_eq_decide.mpr ⟨fun hm => ?_, fun hm => ?_⟩
  · simp only [List.mem_cons, List.not_mem_nil, or_false] at hm
    unfold okR
    omega
  · rcases okR_cases hm with rfl | rfl | rfl | rfl <;> simp
/-- a refusal without a value -/
def Ref0 (C : Addr) (nm : Str) (H : Hp) (E : XK) : Prop := ∀ (H' : Hp) (d : Addr), Same H H' → H d = none → H' d = some (.xd [(("word" : Str), .str nm)]) → E (.ref C) (some d) H'
theorem Ref0.same {C : Addr} {nm : Str} {H H1 : Hp} {E : XK} (h : Ref0 C nm H E) (s : Same H H1) : Ref0 C nm H1 E := fun H' d s' n e => h H' d (s.trans s') (s.free n) e
def spCR (cR : Addr) : Sp := fun vs H Q E => ∃ (r : Int), vs = [.int r] ∧ (okR r → Q .non H) ∧ (¬ okR r → Ref0 cR "BadRate" H E)
def spPA (cR : Addr) : Sp := fun vs H Q E => ∃ (r : Int), vs = [.int r] ∧ (okR r → Q (.int (ptsI r)) H) ∧ (¬ okR r → Ref0 cR "BadRate" H E)
def spStep (cR : Addr) : Sp := fun vs H Q E => ∃ (r : Int), vs = [.int r] ∧ (okR r → Q (.int (stepI r)) H) ∧ (¬ okR r → Ref0 cR "BadRate" H E)
def spPoint (cN cR : Addr) : Sp := fun vs H Q E => ∃ (n r : Int), vs = [.int n, .int r] ∧ (okR r → 0 ≤ n → n < ptsI r → Q (.int (pointI n r)) H) ∧ (okR r → (n < 0 ∨ ptsI r ≤ n) → Ref0 cN "BadCount" H E) ∧ (¬ okR r → Ref0 cR "BadRate" H E)
/-! ### the coder: the mathematics -/
def mvS (s f : Int) : Int := 2 * (s % 2) + f
def clS (s f : Int) : Int := 2 * ((s / 2 + f) % 2) + s % 2
def St4 (s : Int) : Prop := 0 ≤ s ∧ s < 4
theorem st4_cases {s : Int} (h : St4 s) : s = 0 ∨ s = 1 ∨ s = 2 ∨ s = 3 := by
  obtain ⟨h1, h2⟩ := h
  omega
theorem cl_xor {s f : Int} (hs : St4 s) (hf : isB f) : Builtin.bitXor s (2 * f) = clS s f := by
  rcases st4_cases hs with rfl | rfl | rfl | rfl <;> rcases hf with rfl | rfl <;> decide
theorem mv_st {s f : Int} (hf : isB f) : St4 (mvS s f) := by
  unfold St4 mvS
  rcases hf with rfl | rfl <;> omega
theorem cl_st (s f : Int) : St4 (clS s f) := by
  unfold St4 clS
  omega
abbrev Bt := Int × Int
def stB (s : Int) (bs : List Bt) : Int := bs.foldl (fun s b => mvS s b.1) s
def codeB : Int → List Bt → List Int
  | _, [] => []
  | s, b :: r => (4 * b.2 + clS s b.1) :: codeB (mvS s b.1) r
theorem codeB_app : ∀ (s : Int) (as bs : List Bt), codeB s (as ++ bs) = codeB s as ++ codeB (stB s as) bs
  | _, [], _ => rfl
  | s, a :: as, bs => congrArg _ (codeB_app (mvS s a.1) as bs)
theorem stB_app (s : Int) (as bs : List Bt) : stB s (as ++ bs) = stB (stB s as) bs := by
  unfold stB
  rw [List.foldl_append]
theorem codeB_len : ∀ (s : Int) (bs : List Bt), (codeB s bs).length = bs.length
  | _, [] => rfl
  | s, b :: r => congrArg (· + 1) (codeB_len (mvS s b.1) r)
theorem codeB_more {s : Int} {bs : List Bt} {i : Nat} {b : Bt} (h : bs[i]? = some b) : codeB s (bs.take (i + 1)) = codeB s (bs.take i) ++ [4 * b.2 + clS (stB s (bs.take i)) b.1] := by
  rw [take_more h, codeB_app]
  rfl
theorem stB_more {s : Int} {bs : List Bt} {i : Nat} {b : Bt} (h : bs[i]? = some b) : stB s (bs.take (i + 1)) = mvS (stB s (bs.take i)) b.1 := by
  rw [take_more h, stB_app]
  rfl
/-- the i-th beat of a row at rate r -/
def bt (r : Nat) (row : List Int) (i : Nat) : Bt := (row.getD (i * r) 0, bn ((row.drop (i * r + 1)).take (r - 1)))
def bts (r N : Nat) (row : List Int) : List Bt := (List.range N).map (bt r row)
def tl2 : List Bt := [(0, 0), (0, 0)]
def rowB (r : Nat) (bs : List Int) : List Bt := bts r (bs.length / r) bs ++ tl2
def codeL (r : Nat) (bs : List Int) : List Int := codeB 0 (rowB r bs)
theorem st_tl2 (s : Int) : stB s tl2 = 0 := by
  show mvS (mvS s 0) 0 = 0
  unfold mvS
  omega
theorem bts_len (r N : Nat) (row : List Int) : (bts r N row).length = N := by
  unfold bts
  rw [List.length_map, List.length_range]
theorem bts_at {r N : Nat} {row : List Int} {i : Nat} (h : i < N) : (bts r N row)[i]? = some (bt r row i) := by
  unfold bts
  rw [List.getElem?_map, List.getElem?_range h]
  rfl
theorem bn_rep0 : ∀ n : Nat, bn (List.replicate n 0) = 0
  | 0 => rfl
  | n + 1 => by
    show (List.replicate n 0).foldl _ (2 * 0 + 0) = 0
    exact bn_rep0 n
theorem idx_le {i r n L : Nat} (h : i < n) (hL : L = r * n) : i * r + r ≤ L := by
  have : (i + 1) * r ≤ n * r := Nat.mul_le_mul_right r h
  rw [Nat.add_mul, Nat.one_mul] at this
  rw [hL, Nat.mul_comm r n]
  exact this
theorem bt_left {r n i : Nat} {bs zs : List Int} (hr : 0 < r) (hl : bs.length = r * n) (hi : i < n) : bt r (bs ++ zs) i = bt r bs i := by
  have h1 := idx_le hi hl
  unfold bt
  rw [List.getD_eq_getElem?_getD, List.getElem?_append_left (by omega), List.getD_eq_getElem?_getD, List.drop_append_of_le_length (by omega), List.take_append_of_le_length (by rw [List.length_drop]; omega)]
theorem bt_zero {r n j : Nat} {bs : List Int} (hl : bs.length = r * n) (m : Nat) : bt r (bs ++ List.replicate m 0) (n + j) = (0, 0) := by
  have e : (n + j) * r = bs.length + j * r := by rw [hl, Nat.add_mul, Nat.mul_comm n r]
  unfold bt
  rw [e, List.getD_eq_getElem?_getD, List.getElem?_append_right (by omega), List.drop_append, List.drop_of_length_le (by omega), List.nil_append, List.drop_replicate, List.take_replicate, bn_rep0]
  congr 1
  rw [Nat.add_sub_cancel_left]
  cases e2 : (List.replicate m (0 : Int))[j * r]? with
  | none => rfl
  | some z => exact List.eq_of_mem_replicate (List.mem_of_getElem? e2)
theorem bts_tail {r n : Nat} {bs : List Int} (hr : 0 < r) (hl : bs.length = r * n) (m : Nat) : bts r (n + 2) (bs ++ List.replicate m 0) = bts r n bs ++ tl2 := by
  unfold bts
  rw [List.range_succ, List.range_succ, List.map_append, List.map_append, List.append_assoc]
  congr 1
  · refine List.map_congr_left fun i hi => ?_
    exact bt_left hr hl (List.mem_range.mp hi)
  · show [bt r _ n] ++ [bt r _ (n + 1)] = tl2
    have h0 := bt_zero (j := 0) hl m
    have h1 := bt_zero (j := 1) hl m
    rw [Nat.add_zero] at h0
    rw [h0, h1]
    rfl
theorem rowB_of {r n : Nat} {bs : List Int} (hr : 0 < r) (hl : bs.length = r * n) : rowB r bs = bts r n bs ++ tl2 := by
  unfold rowB
  rw [hl, Nat.mul_div_cancel_left _ hr]
theorem bt_bit {r : Nat} {bs : List Int} (h : Bits bs) (i : Nat) : isB (bt r bs i).1 := by
  show isB (bs.getD (i * r) 0)
  rw [List.getD_eq_getElem?_getD]
  cases e : bs[i * r]? with
  | none => exact .inl rfl
  | some z => exact h z (List.mem_of_getElem? e)
def BitsB (bs : List Bt) : Prop := ∀ b ∈ bs, isB b.1
theorem bts_bits {r N : Nat} {bs : List Int} (h : Bits bs) : BitsB (bts r N bs) := fun b hb => by
  obtain ⟨i, _, rfl⟩ := List.mem_map.mp hb
  exact bt_bit h i
theorem rowB_bits {r : Nat} {bs : List Int} (h : Bits bs) : BitsB (rowB r bs) := fun b hb => by
  rcases List.mem_append.mp hb with hb | hb
  · exact bts_bits h b hb
  · rcases List.mem_cons.mp hb with rfl | hb
    · exact .inl rfl
    · rw [List.mem_singleton.mp hb]
      exact .inl rfl
theorem stB_st {s : Int} : ∀ {bs : List Bt}, St4 s → BitsB bs → St4 (stB s bs)
  | [], h, _ => h
  | b :: r, h, hb => stB_st (bs := r) (mv_st (hb b (.head _))) (fun x hx => hb x (.tail _ hx))
theorem st4_0 : St4 0 := ⟨by decide, by decide⟩
theorem cut_mid (xs : List V) (i j : Nat) (h : i ≤ j) : cutV xs (some (i : Int)) (some (j : Int)) = (xs.drop i).take (j - i) := by
  unfold cutV
  rw [HT.sIx_nat, HT.sIx_nat]
  by_cases h1 : i ≤ xs.length
  · rw [Nat.min_eq_left h1]
    by_cases h2 : j ≤ xs.length
    · rw [Nat.min_eq_left h2]
    · rw [Nat.min_eq_right (by omega), List.take_of_length_le (by rw [List.length_drop]; exact Nat.le_refl _), List.take_of_length_le (by rw [List.length_drop]; omega)]
  · rw [Nat.min_eq_right (show xs.length ≤ i by omega), Nat.min_eq_right (show xs.length ≤ j by omega), List.drop_of_length_le (Nat.le_refl _), List.drop_of_length_le (show xs.length ≤ i by omega), List.take_nil, List.take_nil]
theorem fits {i : Int} (h0 : 0 ≤ i) (h1 : i ≤ 20000) : Builtin.Range.rangeFitsLong i = true := by
  unfold Builtin.Range.rangeFitsLong
  rw [Bool.and_eq_true]
  exact ⟨decide_eq_true (by omega), decide_eq_true (by omega)⟩
theorem small_c {l c : Int} (hs : Builtin.Range.rangeSize 0 l c = (if 0 < l then (l - 0 - 1) / c + 1 else 0)) (h0 : 0 ≤ l) (h1 : l ≤ 10000) (c0 : 0 < c) (c1 : c ≤ 100) : Builtin.Range.small 0 l c = true := by
  have b0 : 0 ≤ Builtin.Range.rangeSize 0 l c ∧ Builtin.Range.rangeSize 0 l c ≤ 10001 := by
    rw [hs]
    split
    · have h2 : 0 ≤ (l - 0 - 1) / c := Int.ediv_nonneg (by omega) (by omega)
      have h3 : (l - 0 - 1) / c ≤ l - 0 - 1 := Int.ediv_le_self _ (by omega)
      omega
    · omega
  unfold Builtin.Range.small
  rw [fits (i := 0) (by decide) (by decide), fits h0 (by omega), fits (i := c) (by omega) (by omega), fits b0.1 (by omega), if_pos c0, fits (i := l + (c - 1)) (by omega) (by omega), Bool.or_true]
  rfl
theorem rgc_pos {r : Int} {n : Nat} (ok : okR r) (hn : (n : Int) * r ≤ 10000) : RgC 0 ((n : Int) * r) r n := by
  obtain ⟨r1, r4⟩ := id ok
  have hs : Builtin.Range.rangeSize 0 ((n : Int) * r) r = (if 0 < (n : Int) * r then ((n : Int) * r - 0 - 1) / r + 1 else 0) := by
    rcases okR_cases ok with rfl | rfl | rfl | rfl <;> rfl
  refine ⟨by omega, by omega, small_c hs (Int.mul_nonneg (by omega) (by omega)) hn (by omega) (by omega), ?_⟩
  rw [hs]
  rcases okR_cases ok with rfl | rfl | rfl | rfl <;> split <;> omega
/-! ### tuples and beats in the heap -/
def TupsAt (H : Hp) : List Addr → List (List Int) → Prop
  | [], [] => True
  | p :: ps, t :: ts => H p = some (.tup (t.map V.int)) ∧ TupsAt H ps ts
  | _, _ => False
theorem TupsAt.loc {H H' : Hp} (k : ∀ a xs, H a = some (.tup xs) → H' a = some (.tup xs)) : ∀ {ps : List Addr} {ts : List (List Int)}, TupsAt H ps ts → TupsAt H' ps ts
  | [], [], _ => trivial
  | p :: ps, t :: ts, h => ⟨k p _ h.1, TupsAt.loc k h.2⟩
theorem TupsAt.dp {H : Hp} : ∀ {ps : List Addr} {ts : List (List Int)}, TupsAt H ps ts → DpAll K H (ps.map V.ref) (ts.map tupD)
  | [], [], _ => .nil
  | p :: ps, t :: ts, h => .cons (dp_tup (SqT.of h.1)) (TupsAt.dp h.2)
theorem TupsAt.len {H : Hp} : ∀ {ps : List Addr} {ts : List (List Int)}, TupsAt H ps ts → ps.length = ts.length
  | [], [], _ => rfl
  | p :: ps, t :: ts, h => congrArg (· + 1) (TupsAt.len h.2)
theorem TupsAt.snoc {H : Hp} {p : Addr} {t : List Int} (e : H p = some (.tup (t.map V.int))) : ∀ {ps : List Addr} {ts : List (List Int)}, TupsAt H ps ts → TupsAt H (ps ++ [p]) (ts ++ [t])
  | [], [], _ => ⟨e, trivial⟩
  | q :: ps, s :: ts, h => ⟨h.1, TupsAt.snoc e h.2⟩
theorem TupsAt.at {H : Hp} : ∀ {ps : List Addr} {ts : List (List Int)} {i : Nat} {t : List Int}, TupsAt H ps ts → ts[i]? = some t → ∃ p, ps[i]? = some p ∧ H p = some (.tup (t.map V.int))
  | [], [], _, _, _, e => by simp at e
  | q :: ps, s :: ts, 0, t, h, e => by cases e; exact ⟨q, rfl, h.1⟩
  | q :: ps, s :: ts, i + 1, t, h, e => TupsAt.at (i := i) h.2 e
def BeatAt (H : Hp) (q : Addr) (ts : List (List Int)) : Prop := ∃ ps : List Addr, H q = some (.lst (ps.map V.ref)) ∧ TupsAt H ps ts
theorem BeatAt.same {H H' : Hp} {q : Addr} {ts : List (List Int)} (s : Same H H') (h : BeatAt H q ts) : BeatAt H' q ts := by
  obtain ⟨ps, h1, h2⟩ := h
  exact ⟨ps, s _ _ h1, TupsAt.loc (fun a xs e => s a _ e) h2⟩
/-- another list is written -/
theorem BeatAt.mut {H : Hp} {q D : Addr} {ts : List (List Int)} {xs ys : List V} (hD : H D = some (.lst xs)) (n : q ≠ D) (h : BeatAt H q ts) : BeatAt (upd H D (.lst ys)) q ts := by
  obtain ⟨ps, h1, h2⟩ := h
  refine ⟨ps, by rw [upd_ne n]; exact h1, TupsAt.loc (fun a zs e => ?_) h2⟩
  rw [upd_ne (fun z => by rw [z, hD] at e; cases e)]
  exact e
theorem tups_mut {H : Hp} {D : Addr} {ps : List Addr} {ts : List (List Int)} {xs ys : List V} (hD : H D = some (.lst xs)) (h : TupsAt H ps ts) : TupsAt (upd H D (.lst ys)) ps ts := TupsAt.loc (fun a zs e => by
  rw [upd_ne (fun z => by rw [z, hD] at e; cases e)]
  exact e) h
def BeatsAt (H : Hp) : List Addr → List (List (List Int)) → Prop
  | [], [] => True
  | q :: qs, b :: bs => BeatAt H q b ∧ BeatsAt H qs bs
  | _, _ => False
theorem BeatsAt.same {H H' : Hp} (s : Same H H') : ∀ {qs : List Addr} {bs : List (List (List Int))}, BeatsAt H qs bs → BeatsAt H' qs bs
  | [], [], _ => trivial
  | q :: qs, b :: bs, h => ⟨h.1.same s, BeatsAt.same s h.2⟩
theorem BeatsAt.mut {H : Hp} {D : Addr} {xs ys : List V} (hD : H D = some (.lst xs)) : ∀ {qs : List Addr} {bs : List (List (List Int))}, D ∉ qs → BeatsAt H qs bs → BeatsAt (upd H D (.lst ys)) qs bs
  | [], [], _, _ => trivial
  | q :: qs, b :: bs, n, h => ⟨h.1.mut hD (fun z => n (z ▸ .head _)), BeatsAt.mut hD (fun z => n (.tail _ z)) h.2⟩
theorem BeatsAt.snoc {H : Hp} {q : Addr} {b : List (List Int)} (e : BeatAt H q b) : ∀ {qs : List Addr} {bs : List (List (List Int))}, BeatsAt H qs bs → BeatsAt H (qs ++ [q]) (bs ++ [b])
  | [], [], _ => ⟨e, trivial⟩
  | _ :: qs, _ :: bs, h => ⟨h.1, BeatsAt.snoc e h.2⟩
theorem BeatsAt.len {H : Hp} : ∀ {qs : List Addr} {bs : List (List (List Int))}, BeatsAt H qs bs → qs.length = bs.length
  | [], [], _ => rfl
  | _ :: qs, _ :: bs, h => congrArg (· + 1) (BeatsAt.len h.2)
theorem BeatsAt.rev {H : Hp} : ∀ {qs : List Addr} {bs : List (List (List Int))}, BeatsAt H qs bs → BeatsAt H qs.reverse bs.reverse
  | [], [], _ => trivial
  | q :: qs, b :: bs, h => by
    rw [List.reverse_cons, List.reverse_cons]
    exact BeatsAt.snoc h.1 (BeatsAt.rev h.2)
theorem BeatsAt.at {H : Hp} : ∀ {qs : List Addr} {bs : List (List (List Int))} {i : Nat} {q : Addr}, BeatsAt H qs bs → qs[i]? = some q → ∃ b, bs[i]? = some b ∧ BeatAt H q b
  | [], [], _, _, _, e => by simp at e
  | _ :: qs, b :: bs, 0, q, h, e => by cases e; exact ⟨b, rfl, h.1⟩
  | _ :: qs, b :: bs, i + 1, q, h, e => BeatsAt.at (i := i) h.2 e
/-! ### the nearest point of a class -/
def ncl (x low r : Int) : List Int :=
  minT [((x - pointI low r) % 256 % (4 * stepI r)) ^ 2, (x - pointI low r) % 256 / (4 * stepI r)] [[(4 * stepI r - (x - pointI low r) % 256 % (4 * stepI r)) ^ 2, ((x - pointI low r) % 256 / (4 * stepI r) + 1) % (256 / (4 * stepI r))]]
def way (x : Int) (cs : List Int) (r s f : Int) : List Int := [(ncl x (clS s f) r).getD 0 0 + cs.getD (mvS s f).toNat 0, f, (ncl x (clS s f) r).getD 1 0]
def bestT (x : Int) (cs : List Int) (r s : Int) : List Int := minT (way x cs r s 0) [way x cs r s 1]
def bestR (x : Int) (cs : List Int) (r : Int) : List (List Int) := (List.range 4).map fun s => bestT x cs r (s : Nat)
def sqA (h n r : Int) : Int := apartI h (pointI n r) ^ 2
def tailC (r : Int) : List Int → List Int
  | [] => [0, 0, 0, 0]
  | h :: hs => (List.range 4).map fun s => sqA h (clS (s : Nat) 0) r + (tailC r hs).getD (mvS (s : Nat) 0).toNat 0
def costsOf (b : List (List Int)) : List Int := b.map fun t => t.getD 0 0
def dpC (r : Int) (tc : List Int) : List Int → List Int
  | [] => tc
  | h :: hs => costsOf (bestR h (dpC r tc hs) r)
def dpB (r : Int) (tc : List Int) : List Int → List (List (List Int))
  | [] => []
  | h :: hs => bestR h (dpC r tc hs) r :: dpB r tc hs
def along (r : Nat) : Int → List (List (List Int)) → List Int
  | _, [] => []
  | s, b :: bs => (b.getD s.toNat []).getD 1 0 :: (wr (r - 1) ((b.getD s.toNat []).getD 2 0) ++ along r (mvS s ((b.getD s.toNat []).getD 1 0)) bs)
def hpRow (r : Nat) (hs : List Int) : List Int := along r 0 (dpB (r : Int) (tailC (r : Int) (hs.drop (hs.length - 2))) (hs.take (hs.length - 2)))
def hpCost (r : Nat) (hs : List Int) : Int := (dpC (r : Int) (tailC (r : Int) (hs.drop (hs.length - 2))) (hs.take (hs.length - 2))).getD 0 0
theorem min2 (x y : List Int) : minT x [y] = x ∨ minT x [y] = y := by
  show (if lexB y x = true then y else x) = x ∨ (if lexB y x = true then y else x) = y
  split
  · exact .inr rfl
  · exact .inl rfl
theorem ncl_two (x low r : Int) : ∃ c m, ncl x low r = [c, m] := by
  unfold ncl
  rcases min2 [((x - pointI low r) % 256 % (4 * stepI r)) ^ 2, (x - pointI low r) % 256 / (4 * stepI r)] [(4 * stepI r - (x - pointI low r) % 256 % (4 * stepI r)) ^ 2, ((x - pointI low r) % 256 / (4 * stepI r) + 1) % (256 / (4 * stepI r))] with h | h
  · exact ⟨_, _, h⟩
  · exact ⟨_, _, h⟩
theorem ncl_m {x low r : Int} (ok : okR r) : 0 ≤ (ncl x low r).getD 1 0 ∧ (ncl x low r).getD 1 0 < 2 ^ (r - 1).toNat := by
  unfold ncl
  rcases min2 [((x - pointI low r) % 256 % (4 * stepI r)) ^ 2, (x - pointI low r) % 256 / (4 * stepI r)] [(4 * stepI r - (x - pointI low r) % 256 % (4 * stepI r)) ^ 2, ((x - pointI low r) % 256 / (4 * stepI r) + 1) % (256 / (4 * stepI r))] with h | h
  · rw [h]
    show 0 ≤ (x - pointI low r) % 256 / (4 * stepI r) ∧ (x - pointI low r) % 256 / (4 * stepI r) < _
    generalize x - pointI low r = y
    rcases pts_step ok with ⟨rfl, _, e⟩ | ⟨rfl, _, e⟩ | ⟨rfl, _, e⟩ | ⟨rfl, _, e⟩ <;> rw [e] <;> simp <;> omega
  · rw [h]
    show 0 ≤ ((x - pointI low r) % 256 / (4 * stepI r) + 1) % (256 / (4 * stepI r)) ∧ ((x - pointI low r) % 256 / (4 * stepI r) + 1) % (256 / (4 * stepI r)) < _
    generalize x - pointI low r = y
    rcases pts_step ok with ⟨rfl, _, e⟩ | ⟨rfl, _, e⟩ | ⟨rfl, _, e⟩ | ⟨rfl, _, e⟩ <;> rw [e] <;> simp <;> omega
theorem best_three (x : Int) (cs : List Int) (r s : Int) : bestT x cs r s = way x cs r s 0 ∨ bestT x cs r s = way x cs r s 1 := min2 _ _
theorem bestR_at {x : Int} {cs : List Int} {r : Int} {s : Nat} (h : s < 4) : (bestR x cs r)[s]? = some (bestT x cs r (s : Nat)) := by
  unfold bestR
  rw [List.getElem?_map, List.getElem?_range h]
  rfl
theorem bestR_len (x : Int) (cs : List Int) (r : Int) : (bestR x cs r).length = 4 := by
  unfold bestR
  rw [List.length_map, List.length_range]
theorem dpC_len (r : Int) (tc : List Int) (h : tc.length = 4) : ∀ hs, (dpC r tc hs).length = 4
  | [] => h
  | x :: hs => by
    show (costsOf _).length = 4
    unfold costsOf
    rw [List.length_map, bestR_len]
theorem tailC_len (r : Int) : ∀ hs, (tailC r hs).length = 4
  | [] => rfl
  | x :: hs => by
    show ((List.range 4).map _).length = 4
    rw [List.length_map, List.length_range]
theorem st4_nat {s : Int} (h : St4 s) : ∃ n : Nat, s = (n : Int) ∧ n < 4 := ⟨s.toNat, by have := h.1; omega, by have := h.2; have := h.1; omega⟩
theorem dpB_len (r : Int) (tc : List Int) : ∀ hs, (dpB r tc hs).length = hs.length
  | [] => rfl
  | h :: hs => congrArg (· + 1) (dpB_len r tc hs)
theorem sc_folded : FnScope ["number", "half"] ["number"] (defScope s_folded) := ⟨rfl, rfl, rfl, by decide +kernel, rfl, by decide +kernel, by decide +kernel⟩
theorem ok_folded {f : Addr} {fd : FuncData} {k : Nat} {tR : Tok} (F : Fun K "folded" "folded" s_folded f fd) (g_RING : mg "RING" = some (.int 256 tR)) : FnOk P w K mg base CX0 (k + 1) f fd ["number"] spFolded := by
  have sc := sc_folded
  refine F.ok sc (fun vs H Q E h => ?_) (fun cdv A outer s H vs Q E hr h => ?_)
  · obtain ⟨n, rfl, _⟩ := h
    rfl
  · obtain ⟨n, rfl, q⟩ := h
    refine ⟨_, (pss_cons (ps_set (i := 1) sc.nd rfl (.inl rfl) (pe_op op_fdiv (pe_glob (v := .int 256) (by rfl) g_RING ⟨_, rfl⟩) pe_int))
 (pss_one (ps_ret (pe_op op_sub (pe_op op_mod (pe_op op_add (pv 0) (pv 1)) (pe_glob (v := .int 256) (by rfl) g_RING ⟨_, rfl⟩)) (pv 1))))), ?_⟩
    refine ⟨_, _, rfl, rfl, ⟨by decide, by decide⟩, ?_⟩
    exact ⟨_, rfl, _, rfl, _, _, rfl, rfl, _, _, rfl, rfl, (by show (0 : Int) < 256; decide), _, rfl, _, _, rfl, rfl, q⟩
theorem sc_apart : FnScope ["one", "other"] ["one", "other"] (defScope s_apart) := ⟨rfl, rfl, rfl, by decide +kernel, rfl, by decide +kernel, by decide +kernel⟩
theorem ok_apart {f : Addr} {fd : FuncData} {k : Nat} (F : Fun K "apart" "apart" s_apart f fd) (n_abs : mg "abs" = none) (c_folded : Cal P w K mg base k "folded" ["number"] spFolded) : FnOk P w K mg base CX0 (k + 1) f fd ["one", "other"] spApart := by
  have sc := sc_apart
  refine F.ok sc (fun vs H Q E h => ?_) (fun cdv A outer s H vs Q E hr h => ?_)
  · obtain ⟨a, b, rfl, _⟩ := h
    rfl
  · obtain ⟨a, b, rfl, q⟩ := h
    refine ⟨_, (pss_one (ps_ret (pe_callB call_abs (by rfl) n_abs (by decide +kernel) (pa_cons (pe_callC c_folded hr (by rfl) (pa_cons (pe_op op_sub (pv 0) (pv 1)) pa_nil)) pa_nil)))), ?_⟩
    exact ⟨_, rfl, _, rfl, _, _, rfl, rfl, _, rfl, _, rfl, q⟩
theorem sc_check_rate : FnScope ["rate"] ["rate"] (defScope s_check_rate) := ⟨rfl, rfl, rfl, by decide +kernel, rfl, by decide +kernel, by decide +kernel⟩
theorem ok_check_rate {f cR a_RATES : Addr} {fd : FuncData} {k : Nat} (F : Fun K "check_rate" "check_rate" s_check_rate f fd) (g_RATES : mg "RATES" = some (.ref a_RATES)) (h_RATES : ∀ H, SqT K H a_RATES [.int 1, .int 2, .int 3, .int 4]) (x_BadRate : XcOk P w K mg base k "BadRate" cR (spIni0 K cR "BadRate")) : FnOk P w K mg base (L2.CX P w) (k + 2) f fd ["rate"] (spCR cR) := by
  have sc := sc_check_rate
  refine F.okX sc (fun vs H Q E h => ?_) (fun cdv A outer s H vs Q E hr h => ?_)
  · obtain ⟨r, rfl, _⟩ := h
    rfl
  · obtain ⟨r, rfl, q, qe⟩ := h
    refine ⟨_, (pss_one (ps_if (pt_cmpR (op_notInK K rfl) (pv 0) (pe_glob (v := .ref a_RATES) (by rfl) g_RATES rfl) (by rfl))
  (pss_one (ps_raise rfl (takes_of rfl rfl rfl rfl) (pmk_c0 x_BadRate hr (by rfl))))
  pss_nil)), ?_⟩
    refine ⟨_, rfl, a_RATES, _, rfl, .inr (h_RATES H), rfl, rfl, _, rfl, ite2 (fun e => ?_) (fun e => ?_)⟩
    · have e : (!inV (.int r) [.int 1, .int 2, .int 3, .int 4]) = true := e
      rw [rate_in] at e
      have nr : ¬ okR r := fun z => by rw [decide_eq_true z] at e; cases e
      exact mk_inner0 (fun H3 d s3 nd ed => qe nr H3 d s3 nd ed)
    · have e : ¬ (!inV (.int r) [.int 1, .int 2, .int 3, .int 4]) = true := e
      rw [rate_in] at e
      exact q (by
        by_cases z : okR r
        · exact z
        · rw [decide_eq_false z] at e
          exact absurd rfl e)
theorem sc_points_at : FnScope ["rate"] ["rate"] (defScope s_points_at) := ⟨rfl, rfl, rfl, by decide +kernel, rfl, by decide +kernel, by decide +kernel⟩
theorem ok_points_at {f cR : Addr} {fd : FuncData} {k : Nat} {tF : Tok} (F : Fun K "points_at" "points_at" s_points_at f fd) (g_FEWEST_POINTS : mg "FEWEST_POINTS" = some (.int 4 tF)) (c_check_rate : CalX P w K mg base k "check_rate" ["rate"] (spCR cR)) : FnOk P w K mg base (L2.CX P w) (k + 1) f fd ["rate"] (spPA cR) := by
  have sc := sc_points_at
  refine F.okX sc (fun vs H Q E h => ?_) (fun cdv A outer s H vs Q E hr h => ?_)
  · obtain ⟨r, rfl, _⟩ := h
    rfl
  · obtain ⟨r, rfl, q, qe⟩ := h
    refine ⟨_, (pss_cons (ps_expr (pe_callP c_check_rate hr (passes_call (takes_of rfl rfl rfl rfl) (fun _ _ _ _ h => h)) (by rfl) (pa_cons (pv 0) pa_nil)))
 (pss_one (ps_ret (pe_op op_shl (pe_glob (v := .int 4) (by rfl) g_FEWEST_POINTS ⟨_, rfl⟩) (pe_op op_sub (pv 0) pe_int))))), ?_⟩
    refine ⟨_, rfl, r, rfl, (fun ok => ?_), qe⟩
    exact ⟨_, rfl, _, _, rfl, rfl, _, _, rfl, rfl, ⟨by have := ok.1; omega, by have := ok.2; omega, by decide⟩, q ok⟩
theorem sc_step : FnScope ["rate"] ["rate"] (defScope s_step) := ⟨rfl, rfl, rfl, by decide +kernel, rfl, by decide +kernel, by decide +kernel⟩
theorem ok_step {f cR : Addr} {fd : FuncData} {k : Nat} {tR : Tok} (F : Fun K "step" "step" s_step f fd) (g_RING : mg "RING" = some (.int 256 tR)) (c_points_at : CalX P w K mg base k "points_at" ["rate"] (spPA cR)) : FnOk P w K mg base (L2.CX P w) (k + 1) f fd ["rate"] (spStep cR) := by
  have sc := sc_step
  refine F.okX sc (fun vs H Q E h => ?_) (fun cdv A outer s H vs Q E hr h => ?_)
  · obtain ⟨r, rfl, _⟩ := h
    rfl
  · obtain ⟨r, rfl, q, qe⟩ := h
    refine ⟨_, (pss_one (ps_ret (pe_op op_fdiv (pe_glob (v := .int 256) (by rfl) g_RING ⟨_, rfl⟩) (pe_callP c_points_at hr (passes_call (takes_of rfl rfl rfl rfl) (fun _ _ _ _ h => h)) (by rfl) (pa_cons (pv 0) pa_nil))))), ?_⟩
    refine ⟨_, rfl, r, rfl, (fun ok => ?_), qe⟩
    refine ⟨_, _, rfl, rfl, ?_, q ok⟩
    rcases pts_step ok with ⟨_, e, _⟩ | ⟨_, e, _⟩ | ⟨_, e, _⟩ | ⟨_, e, _⟩ <;> rw [e] <;> exact ⟨by decide, by decide⟩
theorem sc_point : FnScope ["number", "rate", "many", "wide"] ["number", "rate"] (defScope s_point) := ⟨rfl, rfl, rfl, by decide +kernel, rfl, by decide +kernel, by decide +kernel⟩
theorem ok_point {f cN cR : Addr} {fd : FuncData} {k : Nat} {kws : List (Str × V)} {tR : Tok} (F : FunD K "point" "point" (defArgs s_point) (defBody s_point) (defScope s_point) [] kws f fd) (g_RING : mg "RING" = some (.int 256 tR)) (x_BadCount : XcOk P w K mg base k "BadCount" cN (spIni0 K cN "BadCount")) (c_points_at : CalX P w K mg base (k + 1) "points_at" ["rate"] (spPA cR)) (c_step : CalX P w K mg base (k + 1) "step" ["rate"] (spStep cR)) :
    FnOk P w K mg base (L2.CX P w) (k + 2) f fd ["number", "rate"] (spPoint cN cR) := by
  have sc := sc_point
  refine F.ok sc (fun vs H Q E h => ?_) (fun cdv A outer s H vs Q E hr h => ?_)
  · obtain ⟨n, r, rfl, _⟩ := h
    rfl
  · obtain ⟨n, r, rfl, q, qn, qe⟩ := h
    refine ⟨_, (pss_cons (ps_set (i := 2) sc.nd rfl (.inl rfl) (pe_callP c_points_at hr (passes_call (takes_of rfl rfl rfl rfl) (fun _ _ _ _ h => h)) (by rfl) (pa_cons (pv 1) pa_nil)))
 (pss_cons (ps_if (PW.pt (pw_or (pt_cmpR op_lt (pv 0) pe_int (nomark _)) (pw_or1 (pt_cmpR op_ge (pv 0) (pv 2) (nomark _)))))
  (pss_one (ps_raise rfl (takes_of rfl rfl rfl rfl) (pmk_c0 x_BadCount hr (by rfl))))
  pss_nil)
 (pss_cons (ps_set (i := 3) sc.nd rfl (.inl rfl) (pe_callP c_step hr (passes_call (takes_of rfl rfl rfl rfl) (fun _ _ _ _ h => h)) (by rfl) (pa_cons (pv 1) pa_nil)))
 (pss_one (ps_ret (pe_op op_add (pe_op op_sub (pe_op op_fdiv (pv 3) pe_int) (pe_op op_fdiv (pe_glob (v := .int 256) (by rfl) g_RING ⟨_, rfl⟩) pe_int)) (pe_op op_mul (pv 0) (pv 3)))))))), ?_⟩
    refine ⟨_, rfl, r, rfl, (fun ok => ?_), qe⟩
    refine ⟨_, rfl, _, _, rfl, rfl, _, rfl, ite2 (fun e => ?_) (fun e1 => ?_)⟩
    · have e : n < 0 := of_decide_eq_true e
      exact mk_inner0 (fun H3 d s3 nd ed => qn ok (.inl e) H3 d s3 nd ed)
    have e1 : ¬ n < 0 := fun h => e1 (decide_eq_true h)
    refine ⟨_, rfl, _, rfl, _, _, rfl, rfl, _, rfl, ite2 (fun e => ?_) (fun e2 => ?_)⟩
    · have e : ptsI r ≤ n := of_decide_eq_true e
      exact mk_inner0 (fun H3 d s3 nd ed => qn ok (.inr e) H3 d s3 nd ed)
    have e2 : ¬ ptsI r ≤ n := fun h => e2 (decide_eq_true h)
    refine ⟨_, rfl, r, rfl, (fun _ => ?_), (fun no => absurd ok no)⟩
    have hs : 0 ≤ stepI r ∧ stepI r < 100 := by rcases pts_step ok with ⟨_, _, e⟩ | ⟨_, _, e⟩ | ⟨_, _, e⟩ | ⟨_, _, e⟩ <;> rw [e] <;> decide
    exact ⟨_, rfl, _, _, rfl, rfl, ⟨by decide, by decide⟩, _, _, rfl, rfl, ⟨by decide, by decide⟩, _, _, rfl, rfl, _, rfl, _, rfl, _, _, rfl, rfl, .inr ⟨by omega, by omega⟩, _, _, rfl, rfl, q ok (by omega) (by omega)⟩
theorem sc_check_bits : FnScope ["bits", "at", "bit"] ["bits"] (defScope s_check_bits) := ⟨rfl, rfl, rfl, by decide +kernel, rfl, by decide +kernel, by decide +kernel⟩
/-- all of them are bits, or the first that is none -/
def spCheckX (K : PySem.W.Frag) (C : Addr) : Sp := fun vs H Q E => ∃ (a : Addr) (ns : List Int), vs = [.ref a] ∧ SqL K H a (ns.map V.int) ∧ ns.length ≤ 100000 ∧ (Bits ns → ∀ H', Same H H' → Q .non H') ∧
  (∀ (i : Nat) (z : Int), ns[i]? = some z → ¬ isB z → Bits (ns.take i) → ∀ H' d, Same H H' → H d = none → H' d = some (.xd [(("at" : Str), .int (i : Int)), (("word" : Str), .str "BadBit")]) → E (.ref C) (some d) H')
theorem log_le {n : Nat} (h : n ≤ 100000) : ((n : Int)).natAbs.log2 < 1000 := by
  rw [Int.natAbs_natCast]
  by_cases z : n = 0
  · subst z
    decide
  · exact (Nat.log2_lt z).mpr (Nat.lt_of_le_of_lt h (by decide))
theorem ok_check_bits {f C : Addr} {fd : FuncData} {k : Nat} (F : Fun K "check_bits" "check_bits" s_check_bits f fd) (n_enumerate : mg "enumerate" = none) (x_BadBit : XcOk P w K mg base k "BadBit" C (spIni K C "BadBit" "at")) : FnOk P w K mg base (L2.CX P w) (k + 2) f fd ["bits"] (spCheckX K C) := by
  have sc := sc_check_bits
  refine F.okX sc (fun vs H Q E h => ?_) (fun cdv A outer s H vs Q E hr h => ?_)
  · obtain ⟨a, ns, rfl, _⟩ := h
    rfl
  · obtain ⟨a, ns, rfl, hS, hl, q, qe⟩ := h
    refine ⟨_, (pss_one (ps_for (passes_of rfl) rfl (pi_enum (by rfl) n_enumerate (pa_cons (pv 0) pa_nil)) (pg_tup rfl (pgs_cons (pg_name (i := 1) sc.nd rfl (.inl rfl)) (pgs_cons (pg_name (i := 2) sc.nd rfl (.inl rfl)) pgs_nil)))
  (pss_one (ps_if (pt_cmpR (op_notInK K rfl) (pv 2) (pe_tup (pa_cons pe_int (pa_cons pe_int pa_nil))) (by rfl))
  (pss_one (ps_raise rfl (takes_of rfl rfl rfl rfl) (pmk_c x_BadBit hr (by rfl) (pa_cons (pv 1) pa_nil))))
  pss_nil)))), ?_⟩
    refine ⟨_, rfl, a, _, rfl, hS, for_enumK (xs := ns.map V.int) (fun i σ H' => ∃ y1 y2, σ = [some (.ref a), y1, y2] ∧ Same H H' ∧ Bits (ns.take i)) ⟨none, none, rfl, Same.refl H, bits_nil⟩ (fun i σ H' _ h => ?_) ?_ ?_⟩
    · obtain ⟨y1, y2, _, sm, _⟩ := h
      exact sm.seq hS
    · rintro i x T σ H' hx ⟨y1, y2, rfl, sm, hbi⟩ nT
      obtain ⟨z, hz, rfl⟩ := getI hx
      have s1 := sm.trans (same_upd (o := .tup [.int (i : Nat), .int z]) nT)
      refine ⟨T, _, rfl, SqT.of upd_same, rfl, _, _, rfl, _, _, rfl, rfl, ?_⟩
      refine ⟨_, rfl, (by show 2 ≤ sizeLine; decide), fun p np => ?_⟩
      have s2 := s1.trans (same_upd (o := .tup [.int 0, .int 1]) np)
      refine ⟨p, _, rfl, .inr (SqT.of upd_same), rfl, rfl, _, rfl, ite2 (fun e => ?_) (fun e => ?_)⟩
      · have e : (!inV (.int z) [.int 0, .int 1]) = true := e
        have nb : ¬ isB z := by
          rintro (rfl | rfl)
          · exact absurd e (by decide)
          · exact absurd e (by decide)
        have hil : i < ns.length := (List.getElem?_eq_some_iff.mp hz).1
        refine ⟨_, rfl, mk_inner (log_le (by omega)) (fun H3 d s3 nd ed => qe i z hz nb hbi H3 d (s2.trans s3) (s2.free nd) ed)⟩
      · have e : ¬ (!inV (.int z) [.int 0, .int 1]) = true := e
        have yb : isB z := by
          have hh : inV (.int z) (([0, 1] : List Int).map V.int) = true := by
            cases q : inV (.int z) [.int 0, .int 1] with
            | true => exact q
            | false => rw [q] at e; exact absurd rfl e
          rw [inV_ints] at hh
          have := of_decide_eq_true hh
          simpa [isB] using this
        refine ⟨_, _, rfl, s2, ?_⟩
        rw [take_more hz]
        exact bits_app hbi (bits_one yb)
    · rintro σ H' ⟨y1, y2, rfl, sm, hbi⟩
      rw [List.length_map, List.take_length] at hbi
      exact q hbi H' sm
theorem sc_bits_number : FnScope ["bits", "number", "bit"] ["bits"] (defScope s_bits_number) := ⟨rfl, rfl, rfl, by decide +kernel, rfl, by decide +kernel, by decide +kernel⟩
def spBnX (K : PySem.W.Frag) (cB cN : Addr) : Sp := fun vs H Q E => ∃ (a : Addr) (ns : List Int), vs = [.ref a] ∧ SqL K H a (ns.map V.int) ∧ ns.length ≤ 10000 ∧
  (Bits ns → ns.length ≤ 64 → ∀ H', Same H H' → Q (.int (bn ns)) H') ∧
  (Bits ns → 64 < ns.length → ∀ H' d, Same H H' → H d = none → H' d = some (.xd [(("word" : Str), .str "BadCount")]) → E (.ref cN) (some d) H') ∧
  (∀ (i : Nat) (z : Int), ns[i]? = some z → ¬ isB z → Bits (ns.take i) → ∀ H' d, Same H H' → H d = none → H' d = some (.xd [(("at" : Str), .int (i : Int)), (("word" : Str), .str "BadBit")]) → E (.ref cB) (some d) H')
theorem ok_bits_number {f cB cN : Addr} {fd : FuncData} {k : Nat} {tM : Tok} (F : Fun K "bits_number" "bits_number" s_bits_number f fd) (n_len : mg "len" = none) (g_MOST_BITS : mg "MOST_BITS" = some (.int 64 tM)) (x_BadCount : XcOk P w K mg base k "BadCount" cN (spIni0 K cN "BadCount")) (c_check_bits : CalX P w K mg base (k + 1) "check_bits" ["bits"] (spCheckX K cB)) : FnOk P w K mg base (L2.CX P w) (k + 2) f fd ["bits"] (spBnX K cB cN) := by
  have sc := sc_bits_number
  refine F.okX sc (fun vs H Q E h => ?_) (fun cdv A outer s H vs Q E hr h => ?_)
  · obtain ⟨a, ns, rfl, _⟩ := h
    rfl
  · obtain ⟨a, ns, rfl, hS, hl, q, qn, qb⟩ := h
    refine ⟨_, (pss_cons (ps_expr (pe_callP c_check_bits hr (passes_call (takes_of rfl rfl rfl rfl) (fun _ _ _ _ h => h)) (by rfl) (pa_cons (pv 0) pa_nil)))
 (pss_cons (ps_if (pt_cmpR op_gt (pe_callB (call_lenK K rfl) (by rfl) n_len PySem.boot_len (pa_cons (pv 0) pa_nil)) (pe_glob (v := .int 64) (by rfl) g_MOST_BITS ⟨_, rfl⟩) (nomark _))
  (pss_one (ps_raise rfl (takes_of rfl rfl rfl rfl) (pmk_c0 x_BadCount hr (by rfl))))
  pss_nil)
 (pss_cons (ps_set (i := 1) sc.nd rfl (.inl rfl) pe_int)
 (pss_cons (ps_for (passes_of rfl) rfl (pi_listK K rfl (pv 0)) (pg_name (i := 2) sc.nd rfl (.inl rfl))
  (pss_one (ps_set (i := 1) sc.nd rfl (.inl rfl) (pe_op op_add (pe_op op_mul pe_int (pv 1)) (pv 2)))))
 (pss_one (ps_ret (pv 1))))))), ?_⟩
    refine ⟨_, rfl, a, ns, rfl, hS, by omega, fun hB H1 s1 => ?_, qb⟩
    refine ⟨_, rfl, a, _, rfl, .inl (s1.seq hS), _, _, rfl, rfl, _, rfl, ite2 (fun e => ?_) (fun e => ?_)⟩
    · have e : (64 : Int) < ((ns.map V.int).length : Int) := of_decide_eq_true e
      rw [List.length_map] at e
      exact mk_inner0 (fun H3 d s3 nd ed => qn hB (by omega) H3 d (s1.trans s3) (s1.free nd) ed)
    have e : ¬ (64 : Int) < ((ns.map V.int).length : Int) := fun h => e (decide_eq_true h)
    rw [List.length_map] at e
    refine ⟨_, rfl, a, rfl, ⟨_, s1.seq hS⟩, for_list (K := K) (a := a) (xs := ns.map V.int) (fun i σ H' => ∃ y, σ = [some (.ref a), some (.int (bn (ns.take i))), y] ∧ H' = H1) ⟨none, rfl, rfl⟩ (fun i σ H' _ h => ?_) ?_ ?_⟩
    · obtain ⟨_, _, rfl⟩ := h
      exact s1.seq hS
    · rintro i x σ H' hx ⟨y, rfl, rfl⟩
      obtain ⟨z, hz, rfl⟩ := getI hx
      refine ⟨_, rfl, _, _, rfl, rfl, .inl ⟨by decide, by decide⟩, _, rfl, _, _, rfl, rfl, some (.int z), ?_, rfl⟩
      rw [bn_more hz]
      rfl
    · rintro σ H' ⟨y, rfl, rfl⟩
      rw [List.length_map, List.take_length]
      exact ⟨_, rfl, q hB (by omega) _ s1⟩
theorem rep1 (d : Int) : ∀ m : Nat, (List.replicate m [V.int d]).flatten = (List.replicate m d).map V.int
  | 0 => rfl
  | m + 1 => by
    rw [List.replicate_succ, List.flatten_cons, rep1 d m, List.replicate_succ]
    rfl
theorem sc_moved : FnScope ["state", "first"] ["state", "first"] (defScope s_moved) := ⟨rfl, rfl, rfl, by decide +kernel, rfl, by decide +kernel, by decide +kernel⟩
def spMovedS : Sp := fun vs H Q _ => ∃ (s f : Int), vs = [.int s, .int f] ∧ Q (.int (mvS s f)) H
theorem ok_moved {f : Addr} {fd : FuncData} {k : Nat} (F : Fun K "moved" "moved" s_moved f fd) : FnOk P w K mg base CX0 (k + 1) f fd ["state", "first"] spMovedS := by
  have sc := sc_moved
  refine F.ok sc (fun vs H Q E h => ?_) (fun cdv A outer s H vs Q E hr h => ?_)
  · obtain ⟨s, b, rfl, _⟩ := h
    rfl
  · obtain ⟨s, b, rfl, q⟩ := h
    refine ⟨_, (pss_one (ps_ret (pe_op op_add (pe_op op_mul pe_int (pe_op op_mod (pv 0) pe_int)) (pv 1)))), ?_⟩
    exact ⟨_, rfl, _, _, rfl, rfl, (by show (0 : Int) < 2; decide), _, _, rfl, rfl, .inl ⟨by decide, by decide⟩, _, rfl, _, _, rfl, rfl, q⟩
theorem sc_class_of : FnScope ["state", "first"] ["state", "first"] (defScope s_class_of) := ⟨rfl, rfl, rfl, by decide +kernel, rfl, by decide +kernel, by decide +kernel⟩
def spClass : Sp := fun vs H Q _ => ∃ (s f : Int), vs = [.int s, .int f] ∧ St4 s ∧ isB f ∧ Q (.int (clS s f)) H
theorem ok_class_of {f : Addr} {fd : FuncData} {k : Nat} (F : Fun K "class_of" "class_of" s_class_of f fd) : FnOk P w K mg base CX0 (k + 1) f fd ["state", "first"] spClass := by
  have sc := sc_class_of
  refine F.ok sc (fun vs H Q E h => ?_) (fun cdv A outer s H vs Q E hr h => ?_)
  · obtain ⟨s, b, rfl, _⟩ := h
    rfl
  · obtain ⟨s, b, rfl, hs, hb, q⟩ := h
    refine ⟨_, (pss_one (ps_ret (pe_op op_xor (pv 0) (pe_op op_mul pe_int (pv 1))))), ?_⟩
    refine ⟨_, rfl, _, rfl, _, _, rfl, rfl, .inl ⟨by decide, by decide⟩, _, _, rfl, rfl, ?_⟩
    show Q (.int (Builtin.bitXor s (2 * b))) H
    rw [cl_xor hs hb]
    exact q
theorem sc_coded : FnScope ["bits", "rate", "row", "numbers", "state", "at", "first"] ["bits", "rate"] (defScope s_coded) := ⟨rfl, rfl, rfl, by decide +kernel, rfl, by decide +kernel, by decide +kernel⟩
def RefAt (C : Addr) (nm : Str) (i : Nat) (H : Hp) (E : XK) : Prop := ∀ (H' : Hp) (d : Addr), Same H H' → H d = none → H' d = some (.xd [(("at" : Str), .int (i : Int)), (("word" : Str), .str nm)]) → E (.ref C) (some d) H'
def spCoded (K : PySem.W.Frag) (cB cN cR : Addr) : Sp := fun vs H Q E => ∃ (a : Addr) (ns : List Int) (r : Int), vs = [.ref a, .int r] ∧ SqL K H a (ns.map V.int) ∧ ns.length ≤ 2000 ∧
  (okR r → Bits ns → ns.length % r.toNat = 0 → ∀ (H' : Hp) (p : Addr), Same H H' → H p = none → H' p = some (.lst ((codeL r.toNat ns).map V.int)) → Q (.ref p) H') ∧
  (okR r → Bits ns → ns.length % r.toNat ≠ 0 → Ref0 cN "BadCount" H E) ∧
  (okR r → ∀ (i : Nat) (z : Int), ns[i]? = some z → ¬ isB z → Bits (ns.take i) → RefAt cB "BadBit" i H E) ∧ (¬ okR r → Ref0 cR "BadRate" H E)
theorem ok_coded {f cB cN cR : Addr} {fd : FuncData} {k : Nat} {kws : List (Str × V)} {tT : Tok} (F : FunD K "coded" "coded" (defArgs s_coded) (defBody s_coded) (defScope s_coded) [] kws f fd) (n_len : mg "len" = none) (n_list : mg "list" = none) (n_range : mg "range" = none) (g_TAIL : mg "TAIL" = some (.int 2 tT))
    (x_BadCount : XcOk P w K mg base k "BadCount" cN (spIni0 K cN "BadCount")) (c_check_rate : CalX P w K mg base (k + 1) "check_rate" ["rate"] (spCR cR)) (c_check_bits : CalX P w K mg base (k + 1) "check_bits" ["bits"] (spCheckX K cB)) (c_bits_number : CalX P w K mg base (k + 1) "bits_number" ["bits"] (spBnX K cB cN))
    (c_class_of : Cal P w K mg base (k + 1) "class_of" ["state", "first"] spClass) (c_moved : Cal P w K mg base (k + 1) "moved" ["state", "first"] spMovedS) : FnOk P w K mg base (L2.CX P w) (k + 2) f fd ["bits", "rate"] (spCoded K cB cN cR) := by
  have sc := sc_coded
  refine F.ok sc (fun vs H Q E h => ?_) (fun cdv A outer s H vs Q E hr h => ?_)
  · obtain ⟨a, ns, r, rfl, _⟩ := h
    rfl
  · obtain ⟨a, ns, r, rfl, hS, hl, q, qn, qb, qr⟩ := h
    refine ⟨_, (pss_cons (ps_expr (pe_callP c_check_rate hr (passes_call (takes_of rfl rfl rfl rfl) (fun _ _ _ _ h => h)) (by rfl) (pa_cons (pv 1) pa_nil)))
 (pss_cons (ps_expr (pe_callP c_check_bits hr (passes_call (takes_of rfl rfl rfl rfl) (fun _ _ _ _ h => h)) (by rfl) (pa_cons (pv 0) pa_nil)))
 (pss_cons (ps_if (pt_cmpR op_ne (pe_op op_mod (pe_callB (call_lenK K rfl) (by rfl) n_len PySem.boot_len (pa_cons (pv 0) pa_nil)) (pv 1)) pe_int (nomark _))
  (pss_one (ps_raise rfl (takes_of rfl rfl rfl rfl) (pmk_c0 x_BadCount hr (by rfl))))
  pss_nil)
 (pss_cons (ps_set (i := 2) sc.nd rfl (.inl rfl) (pe_op op_cat (pe_callTy (call_listK K rfl) (by rfl) n_list (by decide +kernel) (pa_cons (pv 0) pa_nil)) (pe_op op_rep (pe_lst (pa_cons pe_int pa_nil)) (pe_op op_mul (pe_glob (v := .int 2) (by rfl) g_TAIL ⟨_, rfl⟩) (pv 1)))))
 (pss_cons (ps_set (i := 3) sc.nd rfl (.inl rfl) (pe_lst pa_nil))
 (pss_cons (ps_set (i := 4) sc.nd rfl (.inl rfl) pe_int)
 (pss_cons (ps_for (passes_of rfl) rfl (pi_range3 (by rfl) n_range (pa_cons pe_int (pa_cons (pe_callB (call_lenK K rfl) (by rfl) n_len PySem.boot_len (pa_cons (pv 2) pa_nil)) (pa_cons (pv 1) pa_nil)))) (pg_name (i := 5) sc.nd rfl (.inl rfl))
  (pss_cons (ps_set (i := 6) sc.nd rfl (.inl rfl) (pe_ix (ix_listK K rfl) (pv 2) (pv 5) (fun _ _ => rfl)))
 (pss_cons (ps_expr (pe_bmK K rfl PySem.F.plainAttrs_list PySem.F.slot_list_append PySem.F.type_list_append mt_append (pv 3) (pa_cons (pe_op op_add (pe_op op_mul pe_int (pe_callP c_bits_number hr (passes_call (takes_of rfl rfl rfl rfl) (fun _ _ _ _ h => h)) (by rfl) (pa_cons (pe_slice (sl_listK K rfl) (pv 2) (po_some (pe_op op_add (pv 5) pe_int)) (po_some (pe_op op_add (pv 5) (pv 1)))) pa_nil))) (pe_callC c_class_of hr (by rfl) (pa_cons (pv 4) (pa_cons (pv 6) pa_nil)))) pa_nil)))
 (pss_one (ps_set (i := 4) sc.nd rfl (.inl rfl) (pe_callC c_moved hr (by rfl) (pa_cons (pv 4) (pa_cons (pv 6) pa_nil))))))))
 (pss_one (ps_ret (pv 3)))))))))), ?_⟩
    refine ⟨_, rfl, r, rfl, (fun ok => ?_), qr⟩
    obtain ⟨r1, r4⟩ := id ok
    obtain ⟨rn, rfl⟩ : ∃ rn : Nat, r = (rn : Int) := ⟨r.toNat, by omega⟩
    rw [Int.toNat_natCast] at q qn
    refine ⟨_, rfl, a, ns, rfl, hS, by omega, fun hB H1 s1 => ?_, fun i z hz nb hbi => qb ok i z hz nb hbi⟩
    have em : ((ns.map V.int).length : Int) % (rn : Int) = ((ns.length % rn : Nat) : Int) := by rw [List.length_map, Int.natCast_emod]
    refine ⟨_, rfl, a, _, rfl, .inl (s1.seq hS), _, rfl, _, _, rfl, rfl, (by show (0 : Int) < (rn : Int); omega), rfl, _, rfl, ite2 (fun e => ?_) (fun e => ?_)⟩
    · have ne : ns.length % rn ≠ 0 := fun z => by
        have e : (!decide (V.int (((ns.map V.int).length : Int) % (rn : Int)) = V.int 0)) = true := e
        rw [em, z] at e
        exact absurd e (by decide)
      exact mk_inner0 (fun H3 d s3 nd ed => qn ok hB ne H3 d (s1.trans s3) (s1.free nd) ed)
    have z0 : ns.length % rn = 0 := by
      have e : ¬ (!decide (V.int (((ns.map V.int).length : Int) % (rn : Int)) = V.int 0)) = true := e
      rw [em] at e
      by_cases z : ns.length % rn = 0
      · exact z
      · exfalso
        refine e ?_
        rw [decide_eq_false (fun y => z (by have := V.int.inj y; omega))]
        rfl
    have hlen : ns.length = rn * (ns.length / rn) := by
      have := Nat.div_add_mod ns.length rn
      omega
    generalize hN : ns.length / rn = N at hlen
    -- row
    refine ⟨_, rfl, a, _, rfl, .inl (s1.seq hS), fun p2 n2 => ?_⟩
    have s2 := s1.trans (same_upd (o := .lst (ns.map V.int)) n2)
    refine ⟨(by show 1 ≤ sizeLine; decide), fun p3 n3 => ?_⟩
    have s3 := s2.trans (same_upd (o := .lst [.int 0]) n3)
    refine ⟨_, rfl, _, _, rfl, rfl, .inl ⟨by decide, by decide⟩, ?_⟩
    refine ⟨p3, _, _, rfl, rfl, upd_same, by omega, by omega, (sz4 (by show 1 * (2 * (rn : Int)).toNat ≤ 100000; omega)), fun p4 n4 => ?_⟩
    have er : (2 * (rn : Int)).toNat = 2 * rn := by omega
    rw [er, show (List.replicate (2 * rn) [V.int 0]).flatten = (List.replicate (2 * rn) (0 : Int)).map V.int from rep1 0 _]
    have s4 := s3.trans (same_upd (o := .lst ((List.replicate (2 * rn) (0 : Int)).map V.int)) n4)
    have e2 : upd (upd (upd H1 p2 (.lst (ns.map V.int))) p3 (.lst [.int 0])) p4 (.lst ((List.replicate (2 * rn) (0 : Int)).map V.int)) p2 = some (.lst (ns.map V.int)) := same_upd n4 _ _ (same_upd n3 _ _ upd_same)
    have e4 : upd (upd (upd H1 p2 (.lst (ns.map V.int))) p3 (.lst [.int 0])) p4 (.lst ((List.replicate (2 * rn) (0 : Int)).map V.int)) p4 = some (.lst ((List.replicate (2 * rn) (0 : Int)).map V.int)) := upd_same
    generalize upd (upd (upd H1 p2 (.lst (ns.map V.int))) p3 (.lst [.int 0])) p4 (.lst ((List.replicate (2 * rn) (0 : Int)).map V.int)) = H4 at s4 e2 e4 ⊢
    refine ⟨p2, p4, _, _, rfl, rfl, e2, e4, (by rw [List.length_map, List.length_map, List.length_replicate]; exact sz4 (by omega)), fun pr n5 => ?_⟩
    rw [← List.map_append]
    have s5 := s4.trans (same_upd (o := .lst ((ns ++ List.replicate (2 * rn) 0).map V.int)) n5)
    have npr : H pr = none := s4.free n5
    have hrb : Bits (ns ++ List.replicate (2 * rn) 0) := bits_app hB (fun z hz => .inl (List.eq_of_mem_replicate hz))
    have hrl : (ns ++ List.replicate (2 * rn) 0).length = rn * (N + 2) := by rw [List.length_append, List.length_replicate, hlen, Nat.mul_add]; omega
    have hbt := bts_tail (r := rn) (by omega) hlen (2 * rn)
    generalize ns ++ List.replicate (2 * rn) 0 = row at *
    have er5 : upd H4 pr (.lst (row.map V.int)) pr = some (.lst (row.map V.int)) := upd_same
    generalize upd H4 pr (.lst (row.map V.int)) = H5 at s5 er5 ⊢
    refine name_by ?_
    dsimp only
    refine ⟨Nat.zero_le _, fun po no => ?_⟩
    have no0 : H po = none := s5.free no
    have s6 := s5.trans (same_upd (o := .lst []) no)
    have nrl : rn * (N + 2) ≤ 2100 := by rw [Nat.mul_add, ← hlen]; omega
    refine ⟨_, rfl, pr, _, rfl, .inl (SqL.of (same_upd no _ _ er5)), _, rfl, 0, _, (rn : Int), N + 2, rfl, ?_, ?_⟩
    · have hm : ((row.map V.int).length : Int) = ((N + 2 : Nat) : Int) * (rn : Int) := by rw [List.length_map, hrl, Int.natCast_mul, Int.mul_comm]
      rw [hm]
      exact rgc_pos ok (by rw [← Int.natCast_mul, Nat.mul_comm]; omega)
    refine for_rangeC (lo := 0) (c := (rn : Int)) (n := N + 2) (fun i σ H' => ∃ (y5 y6 : Option V), σ = [some (.ref a), some (.int (rn : Int)), some (.ref pr), some (.ref po), some (.int (stB 0 ((bts rn (N + 2) row).take i))), y5, y6] ∧ Same H H' ∧ H' pr = some (.lst (row.map V.int)) ∧ H' po = some (.lst ((codeB 0 ((bts rn (N + 2) row).take i)).map V.int)))
      ⟨none, none, rfl, s6, same_upd no _ _ er5, upd_same⟩ ?_ ?_
    · rintro i σ H7 hi ⟨y5, y6, rfl, s7, er7, eo7⟩
      have hbi := bts_at (r := rn) (row := row) hi
      have hst : St4 (stB 0 ((bts rn (N + 2) row).take i)) := stB_st st4_0 (fun b hb => bts_bits hrb b (List.mem_of_mem_take hb))
      have hix := idx_le hi hrl
      have hfb := bt_bit (r := rn) hrb i
      have hcl : (codeB 0 ((bts rn (N + 2) row).take i)).length ≤ 3000 := by
        rw [codeB_len, List.length_take, bts_len]
        have : N + 2 ≤ rn * (N + 2) := Nat.le_mul_of_pos_left _ (by omega)
        omega
      rw [stB_more hbi, codeB_more hbi]
      generalize stB 0 ((bts rn (N + 2) row).take i) = st at hst ⊢
      generalize codeB 0 ((bts rn (N + 2) row).take i) = co at eo7 hcl ⊢
      have ei : (0 : Int) + (i : Int) * (rn : Int) = ((i * rn : Nat) : Int) := by rw [Int.zero_add, Int.natCast_mul]
      rw [ei]
      have g0 : (row.map V.int)[i * rn]? = some (.int (bt rn row i).1) := by
        show _ = some (V.int (row.getD (i * rn) 0))
        rw [List.getElem?_map, List.getD_eq_getElem?_getD, List.getElem?_eq_getElem (by omega)]
        rfl
      refine ⟨_, rfl, _, rfl, pr, _, _, _, rfl, rfl, SqL.of er7, atI_nat g0, ?_⟩
      refine ⟨_, rfl, .inl ⟨rfl, _, SqL.of eo7⟩, _, rfl, _, rfl, _, _, rfl, rfl, _, rfl, _, rfl, _, rfl, _, _, rfl, rfl, _, rfl, pr, _, rfl, SqL.of er7, fun p8 n8 => ?_⟩
      have ec : cutV (row.map V.int) (some (((i * rn : Nat) : Int) + 1)) (some (((i * rn : Nat) : Int) + (rn : Int))) = ((row.drop (i * rn + 1)).take (rn - 1)).map V.int := by
        have h1 : ((i * rn : Nat) : Int) + 1 = ((i * rn + 1 : Nat) : Int) := rfl
        have h2 : ((i * rn : Nat) : Int) + (rn : Int) = ((i * rn + rn : Nat) : Int) := rfl
        rw [h1, h2, cut_mid _ _ _ (by omega), show i * rn + rn - (i * rn + 1) = rn - 1 by omega, List.map_take, List.map_drop]
      rw [ec]
      have s8 := same_upd (o := .lst (((row.drop (i * rn + 1)).take (rn - 1)).map V.int)) n8
      have hcb : Bits ((row.drop (i * rn + 1)).take (rn - 1)) := bits_take (bits_drop hrb _) _
      refine ⟨p8, _, rfl, SqL.of upd_same, (by rw [List.length_take]; omega), (fun _ _ H9 s9 => ?_), (fun _ z => absurd z (by rw [List.length_take]; omega)), (fun i' z hz nb => (nb (hcb z (List.mem_of_getElem? hz))).elim)⟩
      have s89 := s8.trans s9
      refine ⟨_, _, rfl, rfl, .inl ⟨by decide, by decide⟩, _, rfl, _, rfl, _, _, rfl, hst, hfb, _, _, rfl, rfl, po, _, _, rfl, rfl, s89 _ _ eo7, ?_, ?_⟩
      · rw [List.length_map]
        exact sz4l (by omega)
      refine ⟨_, rfl, _, rfl, _, _, rfl, ?_⟩
      refine ⟨_, _, rfl, same_mut (s7.trans s89) no0, ?_, ?_⟩
      · rw [upd_ne (fun z => by rw [z, eo7] at er7; exact absurd no0 (by intro _; exact ne_of_none er5 no z))]
        exact s89 _ _ er7
      · rw [upd_same, List.map_append]
        rfl
    · rintro σ H7 ⟨y5, y6, rfl, s7, er7, eo7⟩
      rw [List.take_of_length_le (by rw [bts_len]; exact Nat.le_refl _), hbt, ← rowB_of (by omega) hlen] at eo7
      exact ⟨_, rfl, q ok hB z0 H7 po s7 no0 eo7⟩
theorem sc_nearest_of_class : FnScope ["number", "low", "rate", "between", "beyond", "last", "past", "following"] ["number", "low", "rate"] (defScope s_nearest_of_class) := ⟨rfl, rfl, rfl, by decide +kernel, rfl, by decide +kernel, by decide +kernel⟩
def spNC : Sp := fun vs H Q _ => ∃ (x low r : Int), vs = [.int x, .int low, .int r] ∧ okR r ∧ St4 low ∧ ∀ (H' : Hp) (p : Addr), Same H H' → H p = none → H' p = some (.tup ((ncl x low r).map V.int)) → Q (.ref p) H'
theorem ok_nearest_of_class {f cN cR : Addr} {fd : FuncData} {k : Nat} {tR : Tok} (F : Fun K "nearest_of_class" "nearest_of_class" s_nearest_of_class f fd) (n_min : mg "min" = none) (g_RING : mg "RING" = some (.int 256 tR)) (c_step : CalX P w K mg base k "step" ["rate"] (spStep cR))
    (cw_point_1_rate : CalW P w K mg base k "point" ["number", "rate"] 1 ["rate"] (fun vs zs => vs ++ zs) (spPoint cN cR)) : FnOk P w K mg base CX0 (k + 1) f fd ["number", "low", "rate"] spNC := by
  have sc := sc_nearest_of_class
  refine F.ok sc (fun vs H Q E h => ?_) (fun cdv A outer s H vs Q E hr h => ?_)
  · obtain ⟨x, low, r, rfl, _⟩ := h
    rfl
  · obtain ⟨x, low, r, rfl, ok, hlow, q⟩ := h
    refine ⟨_, (pss_cons (ps_set (i := 3) sc.nd rfl (.inl rfl) (pe_op op_mul pe_int (pe_callF c_step hr (by rfl) (pa_cons (pv 2) pa_nil))))
 (pss_cons (ps_set (i := 4) sc.nd rfl (.inl rfl) (pe_op op_mod (pe_op op_sub (pv 0) (pe_callWF cw_point_1_rate hr (by rfl) (pa_cons (pv 1) pa_nil) (pk_cons (pv 2) pk_nil))) (pe_glob (v := .int 256) (by rfl) g_RING ⟨_, rfl⟩)))
 (pss_cons (ps_set (i := 5) sc.nd rfl (.inl rfl) (pe_op op_fdiv (pv 4) (pv 3)))
 (pss_cons (ps_set (i := 6) sc.nd rfl (.inl rfl) (pe_op op_mod (pv 4) (pv 3)))
 (pss_cons (ps_set (i := 7) sc.nd rfl (.inl rfl) (pe_op op_mod (pe_op op_add (pv 5) pe_int) (pe_op op_fdiv (pe_glob (v := .int 256) (by rfl) g_RING ⟨_, rfl⟩) (pv 3))))
 (pss_one (ps_ret (pe_callB (cr_minTK K rfl hr.units rfl) (by rfl) n_min (by decide +kernel) (pa_cons (pe_lst (pa_cons (pe_tup (pa_cons (pe_op op_pow (pv 6) pe_int) (pa_cons (pv 5) pa_nil))) (pa_cons (pe_tup (pa_cons (pe_op op_pow (pe_op op_sub (pv 3) (pv 6)) pe_int) (pa_cons (pv 7) pa_nil))) pa_nil))) pa_nil))))))))), ?_⟩
    have hst : stepI r = 64 ∨ stepI r = 32 ∨ stepI r = 16 ∨ stepI r = 8 := by
      rcases pts_step ok with ⟨_, _, e⟩ | ⟨_, _, e⟩ | ⟨_, _, e⟩ | ⟨_, _, e⟩ <;> rw [e] <;> decide
    have hpt : 4 ≤ ptsI r := by rcases pts_step ok with ⟨_, e, _⟩ | ⟨_, e, _⟩ | ⟨_, e, _⟩ | ⟨_, e, _⟩ <;> rw [e] <;> decide
    refine ⟨_, rfl, r, rfl, (fun _ => ?_), (fun no => absurd ok no)⟩
    refine ⟨_, _, rfl, rfl, .inl ⟨by decide, by decide⟩, ?_⟩
    refine ⟨_, rfl, _, rfl, _, rfl, rfl, rfl, low, r, rfl, (fun _ _ _ => ?_), (fun _ bad => by obtain ⟨h1, h2⟩ := hlow; rcases bad with z | z <;> omega), (fun no => absurd ok no)⟩
    refine ⟨_, _, rfl, rfl, _, _, rfl, rfl, (by show (0 : Int) < 256; decide), ?_⟩
    refine ⟨_, rfl, _, rfl, _, _, rfl, rfl, ⟨by show (0 : Int) < 4 * stepI r; rcases hst with e | e | e | e <;> rw [e] <;> decide, by show 4 * stepI r < 1073741824; rcases hst with e | e | e | e <;> rw [e] <;> decide⟩, ?_⟩
    refine ⟨_, rfl, _, rfl, _, _, rfl, rfl, (by show (0 : Int) < 4 * stepI r; rcases hst with e | e | e | e <;> rw [e] <;> decide), ?_⟩
    refine ⟨_, rfl, _, _, rfl, rfl, _, rfl, _, _, rfl, rfl, ⟨by show (0 : Int) < 4 * stepI r; rcases hst with e | e | e | e <;> rw [e] <;> decide, by show 4 * stepI r < 1073741824; rcases hst with e | e | e | e <;> rw [e] <;> decide⟩, _, _, rfl, rfl, (by show (0 : Int) < 256 / (4 * stepI r); rcases hst with e | e | e | e <;> rw [e] <;> decide), ?_⟩
    have hb : ∀ y : Int, (y % 256 % (4 * stepI r)).natAbs < 2 ^ 64 ∧ (4 * stepI r - y % 256 % (4 * stepI r)).natAbs < 2 ^ 64 := fun y => by
      rcases hst with e | e | e | e <;> rw [e] <;> omega
    refine ⟨_, rfl, _, _, rfl, rfl, ⟨by decide, by decide, (hb (x - pointI low r)).1⟩, _, rfl, (by show 2 ≤ sizeLine; decide), fun p1 n1 => ?_⟩
    refine ⟨_, rfl, _, rfl, _, _, rfl, rfl, _, _, rfl, rfl, ⟨by decide, by decide, (hb (x - pointI low r)).2⟩, _, rfl, (by show 2 ≤ sizeLine; decide), fun p2 n2 => ?_⟩
    refine ⟨(by show 2 ≤ sizeLine; decide), fun p3 n3 => ?_⟩
    have t1 := [((x - pointI low r) % 256 % (4 * stepI r)) ^ 2, (x - pointI low r) % 256 / (4 * stepI r)]
    have s1 : Same H (upd H p1 (.tup (([((x - pointI low r) % 256 % (4 * stepI r)) ^ 2, (x - pointI low r) % 256 / (4 * stepI r)] : List Int).map V.int))) := same_upd n1
    have s2 := s1.trans (same_upd (o := .tup (([(4 * stepI r - (x - pointI low r) % 256 % (4 * stepI r)) ^ 2, ((x - pointI low r) % 256 / (4 * stepI r) + 1) % (256 / (4 * stepI r))] : List Int).map V.int)) n2)
    have s3 := s2.trans (same_upd (o := .lst [.ref p1, .ref p2]) n3)
    have e1 := same_upd (o := .lst [.ref p1, .ref p2]) n3 _ _ (same_upd (o := .tup (([(4 * stepI r - (x - pointI low r) % 256 % (4 * stepI r)) ^ 2, ((x - pointI low r) % 256 / (4 * stepI r) + 1) % (256 / (4 * stepI r))] : List Int).map V.int)) n2 _ _ (upd_same (H := H) (a := p1) (o := .tup (([((x - pointI low r) % 256 % (4 * stepI r)) ^ 2, (x - pointI low r) % 256 / (4 * stepI r)] : List Int).map V.int))))
    have e2 := same_upd (o := .lst [.ref p1, .ref p2]) n3 _ _ (upd_same (H := upd H p1 (.tup (([((x - pointI low r) % 256 % (4 * stepI r)) ^ 2, (x - pointI low r) % 256 / (4 * stepI r)] : List Int).map V.int))) (a := p2) (o := .tup (([(4 * stepI r - (x - pointI low r) % 256 % (4 * stepI r)) ^ 2, ((x - pointI low r) % 256 / (4 * stepI r) + 1) % (256 / (4 * stepI r))] : List Int).map V.int)))
    refine ⟨p3, [.ref p1, .ref p2], [((x - pointI low r) % 256 % (4 * stepI r)) ^ 2, (x - pointI low r) % 256 / (4 * stepI r)], [[(4 * stepI r - (x - pointI low r) % 256 % (4 * stepI r)) ^ 2, ((x - pointI low r) % 256 / (4 * stepI r) + 1) % (256 / (4 * stepI r))]], rfl, SqL.of upd_same, .cons (dp_tup (SqT.of e1)) (.cons (dp_tup (SqT.of e2)) .nil), fun i p hi hm hsq => ?_⟩
    match i, hi, hm with
    | 0, hi, hm =>
      cases hi
      refine q _ p1 s3 n1 ?_
      have hm : _ = ncl x low r := Option.some.inj hm
      rw [← hm]
      exact e1
    | 1, hi, hm =>
      cases hi
      refine q _ p2 s3 (s1.free n2) ?_
      have hm : _ = ncl x low r := Option.some.inj hm
      rw [← hm]
      exact e2
theorem sc_onward : FnScope ["state", "first", "classes", "costs", "square", "rest"] ["state", "first", "classes", "costs"] (defScope s_onward) := ⟨rfl, rfl, rfl, by decide +kernel, rfl, by decide +kernel, by decide +kernel⟩
def spOn (K : PySem.W.Frag) : Sp := fun vs H Q _ => ∃ (s f : Int) (pc pk : Addr) (ts : List (List Int)) (cs : List Int) (sq m : Int), vs = [.int s, .int f, .ref pc, .ref pk] ∧ St4 s ∧ isB f ∧ BeatAt H pc ts ∧ SqL K H pk (cs.map V.int) ∧ cs.length = 4 ∧ ts[(clS s f).toNat]? = some [sq, m] ∧
  ∀ (H' : Hp) (p : Addr), Same H H' → H p = none → H' p = some (.tup (([sq + cs.getD (mvS s f).toNat 0, f, m] : List Int).map V.int)) → Q (.ref p) H'
theorem at_st {cs : List Int} {s : Int} (hl : cs.length = 4) (h : St4 s) : atI (cs.map V.int) s = some (.int (cs.getD s.toNat 0)) := by
  obtain ⟨n, rfl, hn⟩ := st4_nat h
  refine atI_nat ?_
  rw [List.getElem?_map, Int.toNat_natCast, List.getD_eq_getElem?_getD, List.getElem?_eq_getElem (by omega)]
  rfl
theorem ok_onward {f : Addr} {fd : FuncData} {k : Nat} (F : Fun K "onward" "onward" s_onward f fd) (c_class_of : Cal P w K mg base k "class_of" ["state", "first"] spClass) (c_moved : Cal P w K mg base k "moved" ["state", "first"] spMovedS) : FnOk P w K mg base CX0 (k + 1) f fd ["state", "first", "classes", "costs"] (spOn K) := by
  have sc := sc_onward
  refine F.ok sc (fun vs H Q E h => ?_) (fun cdv A outer s H vs Q E hr h => ?_)
  · obtain ⟨s, b, pc, pk, ts, cs, sq, m, rfl, _⟩ := h
    rfl
  · obtain ⟨s, b, pc, pk, ts, cs, sq, m, rfl, hs, hb, ⟨ps, epc, htup⟩, hk, hl, ht, q⟩ := h
    refine ⟨_, (pss_cons (ps_asg (pe_ix (ix_listK K rfl) (pv 2) (pe_callC c_class_of hr (by rfl) (pa_cons (pv 0) (pa_cons (pv 1) pa_nil))) (fun _ _ => rfl)) (pg_tup rfl (pgs_cons (pg_name (i := 4) sc.nd rfl (.inl rfl)) (pgs_cons (pg_name (i := 5) sc.nd rfl (.inl rfl)) pgs_nil))))
 (pss_one (ps_ret (pe_tup (pa_cons (pe_op op_add (pv 4) (pe_ix (ix_listK K rfl) (pv 3) (pe_callC c_moved hr (by rfl) (pa_cons (pv 0) (pa_cons (pv 1) pa_nil))) (fun _ _ => rfl))) (pa_cons (pv 1) (pa_cons (pv 5) pa_nil))))))), ?_⟩
    obtain ⟨p, hp, ep⟩ := TupsAt.at htup ht
    have hc4 := cl_st s b
    have hat : atI (ps.map V.ref) (clS s b) = some (.ref p) := by
      have h1 : (ps.map V.ref)[(clS s b).toNat]? = some (.ref p) := by rw [List.getElem?_map, hp]; rfl
      have := atI_nat h1
      rwa [Int.toNat_of_nonneg hc4.1] at this
    refine ⟨_, rfl, _, rfl, _, rfl, s, b, rfl, hs, hb, pc, _, _, _, rfl, rfl, SqL.of epc, hat, ?_⟩
    refine ⟨p, _, rfl, SqT.of ep, rfl, _, _, rfl, _, _, rfl, rfl, ?_⟩
    refine ⟨_, rfl, _, rfl, _, rfl, _, rfl, _, _, rfl, pk, _, _, _, rfl, rfl, hk, at_st hl (mv_st hb), _, _, rfl, rfl, _, rfl, _, rfl, (by show 3 ≤ sizeLine; decide), fun p2 n2 => ?_⟩
    exact q _ p2 (same_upd n2) n2 upd_same
theorem sc_best_of_beat : FnScope ["number", "costs", "rate", "classes", "low", "state", "first"] ["number", "costs", "rate"] (defScope s_best_of_beat) := ⟨rfl, rfl, rfl, by decide +kernel, rfl, by decide +kernel, by decide +kernel⟩
abbrev nscope_best_of_beat : Scope := { kind := .function, names := [(".0", .local), ("state", .cell), ("min", .globalImplicit), ("classes", .cell), ("costs", .cell)], isGenerator := false, isCoroutine := false }
def spBB (K : PySem.W.Frag) : Sp := fun vs H Q _ => ∃ (x r : Int) (pk : Addr) (cs : List Int), vs = [.int x, .ref pk, .int r] ∧ okR r ∧ SqL K H pk (cs.map V.int) ∧ cs.length = 4 ∧ ∀ (H' : Hp) (q : Addr), Same H H' → H q = none → BeatAt H' q (bestR x cs r) → Q (.ref q) H'
theorem ok_best_of_beat {f : Addr} {fd : FuncData} {k : Nat} {tS : Tok} (F : Fun K "best_of_beat" "best_of_beat" s_best_of_beat f fd) (n_min : mg "min" = none) (n_range : mg "range" = none) (g_STATES : mg "STATES" = some (.int 4 tS)) (c_nearest_of_class : Cal P w K mg base k "nearest_of_class" ["number", "low", "rate"] spNC) (c_onward : Cal P w K mg base k "onward" ["state", "first", "classes", "costs"] (spOn K)) : FnOk P w K mg base CX0 (k + 1) f fd ["number", "costs", "rate"] (spBB K) := by
  have sc := sc_best_of_beat
  refine F.ok sc (fun vs H Q E h => ?_) (fun cdv A outer s H vs Q E hr h => ?_)
  · obtain ⟨x, r, pk, cs, rfl, _⟩ := h
    rfl
  · obtain ⟨x, r, pk, cs, rfl, ok, hk, hl, q⟩ := h
    refine ⟨_, (pss_cons (ps_set (i := 3) sc.nd rfl (.inr rfl) (pe_lc (own := [("low", 4)]) (g := gName 4) (by rfl) sc.nd (pi_range1 (by rfl) n_range (pa_cons (pe_glob (v := .int 4) (by rfl) g_STATES ⟨_, rfl⟩) pa_nil)) (blkOk_by (own := [("low", 4)]) (N := ["number", "costs", "rate", "classes", "low", "state", "first"]) (sc := defScope s_best_of_beat) (by decide +kernel)) (fun _ _ _ _ _ => (pg_name (i := 4) sc.nd rfl (Or.inl rfl))) (fun _ _ _ _ _ => pts_nil) (fun _ _ _ _ _ => (pe_callC c_nearest_of_class hr (by rfl) (pa_cons (pv 0) (pa_cons (pv 4) (pa_cons (pv 2) pa_nil)))))))
 (pss_one (ps_ret (pe_lc (own := [("state", 5)]) (g := gName 5) (by rfl) sc.nd (pi_range1 (by rfl) n_range (pa_cons (pe_glob (v := .int 4) (by rfl) g_STATES ⟨_, rfl⟩) pa_nil)) (blkOk_by (own := [("state", 5)]) (N := ["number", "costs", "rate", "classes", "low", "state", "first"]) (sc := defScope s_best_of_beat) (by decide +kernel)) (fun _ _ _ _ _ => (pg_name (i := 5) sc.nd rfl (Or.inr rfl))) (fun _ _ _ _ _ => pts_nil) (fun _ _ _ _ _ => (pe_callB (cr_minTK K rfl hr.units rfl) (by rfl) n_min (by decide +kernel) (pa_cons (pe_lc (own := [("first", 6)]) (g := gName 6) (by rfl) sc.nd (pi_tupK K rfl (pe_tup (pa_cons pe_int (pa_cons pe_int pa_nil)))) (blkOk_by (own := [("first", 6)]) (N := ["number", "costs", "rate", "classes", "low", "state", "first"]) (sc := nscope_best_of_beat) (by decide +kernel)) (fun _ _ _ _ _ => (pg_name (i := 6) sc.nd rfl (Or.inl rfl))) (fun _ _ _ _ _ => pts_nil) (fun _ _ _ _ _ => (pe_callC c_onward hr (by rfl) (pa_cons (pv 5) (pa_cons (pv 6) (pa_cons (pv 3) (pa_cons (pv 1) pa_nil))))))) pa_nil))))))), ?_⟩
    -- classes
    refine ⟨4, rfl, by decide, by decide, fun D nD => lc_range (lo := 0) (n := 4) (fun i H' => Same H H' ∧ BeatAt H' D ((List.range i).map fun l => ncl x (l : Nat) r)) ⟨same_upd nD, ⟨[], upd_same, trivial⟩⟩ ?_ ?_⟩
    · rintro i H1 hi ⟨s1, ps, eD, htup⟩
      refine ⟨rfl, tYes_by (iteT ?_)⟩
      have hi : i < 4 := hi
      refine ⟨_, rfl, _, rfl, _, rfl, x, _, r, rfl, ok, ⟨by omega, by omega⟩, fun H2 p s2 np ep => ?_⟩
      rw [Int.zero_add] at ep
      refine ⟨_, s2 _ _ eD, ?_, same_mut (s1.trans s2) nD, ps ++ [p], ?_, ?_⟩
      · rw [List.length_map, TupsAt.len htup, List.length_map, List.length_range]
        exact sz4l (by omega)
      · rw [upd_same, List.map_append]
        rfl
      · rw [List.range_succ, List.map_append]
        exact tups_mut (s2 _ _ eD) (TupsAt.snoc ep (TupsAt.loc (fun a zs e => s2 a _ e) htup))
    · rintro H1 ⟨s1, hcl⟩
      refine name_by ?_
      dsimp only
      -- states
      refine ⟨4, rfl, by decide, by decide, fun E2 nE => lc_range (lo := 0) (n := 4) (fun i H' => Same H H' ∧ BeatAt H' D ((List.range 4).map fun l => ncl x (l : Nat) r) ∧ E2 ≠ D ∧ BeatAt H' E2 ((List.range i).map fun s => bestT x cs r (s : Nat)))
        ⟨s1.trans (same_upd nE), hcl.same (same_upd nE), (fun z => by obtain ⟨ps, e, _⟩ := hcl; rw [← z, nE] at e; cases e), [], upd_same, trivial⟩ ?_ ?_⟩
      · rintro i H2 hi ⟨s2, hcl2, hne, ps, eE, htup⟩
        have hi : i < 4 := hi
        refine ⟨rfl, tYes_by (iteT ?_)⟩
        refine ⟨(by show 2 ≤ sizeLine; decide), fun p3 n3 => ?_⟩
        have s3 := same_upd (o := .tup [.int 0, .int 1]) n3
        refine ⟨p3, rfl, ⟨_, SqT.of upd_same⟩, fun G nG => ?_⟩
        have st : St4 ((i : Nat) : Int) := ⟨by omega, by omega⟩
        have hway : ∀ fb : Int, isB fb → ((List.range 4).map fun l => ncl x (l : Nat) r)[(clS ((i : Nat) : Int) fb).toNat]? = some [(ncl x (clS ((i : Nat) : Int) fb) r).getD 0 0, (ncl x (clS ((i : Nat) : Int) fb) r).getD 1 0] := fun fb hb => by
          obtain ⟨c4, ec, hc4⟩ := st4_nat (cl_st ((i : Nat) : Int) fb)
          rw [ec, Int.toNat_natCast, List.getElem?_map, List.getElem?_range hc4]
          obtain ⟨c, m, e⟩ := ncl_two x (c4 : Int) r
          show some (ncl x (c4 : Int) r) = _
          rw [e]
          rfl
        refine lc_tup (K := K) (a := p3) (xs := [.int 0, .int 1]) (fun j H' => Same (upd H2 p3 (.tup [.int 0, .int 1])) H' ∧ BeatAt H' G (([way x cs r (i : Nat) 0, way x cs r (i : Nat) 1] : List (List Int)).take j)) ⟨same_upd nG, [], upd_same, trivial⟩ (fun j H' _ h => SqT.of (h.1 _ _ upd_same)) ?_ ?_
        · rintro j y H4 hy ⟨s4, qs, eG, ht4⟩
          have hj : j < 2 := by have := (List.getElem?_eq_some_iff.mp hy).1; exact this
          obtain ⟨fb, rfl, hfb, hw⟩ : ∃ fb : Int, y = .int fb ∧ isB fb ∧ ([way x cs r (i : Nat) 0, way x cs r (i : Nat) 1] : List (List Int))[j]? = some (way x cs r (i : Nat) fb) := by
            match j, hj, hy with
            | 0, _, hy => cases hy; exact ⟨0, rfl, .inl rfl, rfl⟩
            | 1, _, hy => cases hy; exact ⟨1, rfl, .inr rfl, rfl⟩
          refine ⟨rfl, tYes_by (iteT ?_)⟩
          have s24 := s3.trans s4
          refine ⟨_, rfl, _, rfl, _, rfl, _, rfl, _, fb, D, pk, _, cs, _, _, rfl, (by rw [Int.zero_add]; exact st), hfb, hcl2.same s24, (s2.trans s24).seq hk, hl, (by rw [Int.zero_add]; exact hway fb hfb), fun H5 p5 s5 n5 e5 => ?_⟩
          rw [Int.zero_add] at e5
          refine ⟨_, s5 _ _ eG, ?_, ?_, qs ++ [p5], ?_, ?_⟩
          · rw [List.length_map, TupsAt.len ht4, List.length_take]
            exact sz4l (by show min j 2 < 100000; omega)
          · exact same_mut (s4.trans s5) nG
          · rw [upd_same, List.map_append]
            rfl
          · rw [take_more hw]
            exact tups_mut (s5 _ _ eG) (TupsAt.snoc e5 (TupsAt.loc (fun a zs e => s5 a _ e) ht4))
        · rintro H4 ⟨s4, qs, eG, ht4⟩
          have s24 := s3.trans s4
          have hq2 : ∃ q0 q1, qs = [q0, q1] := by
            have := TupsAt.len ht4
            match qs, this with
            | [q0, q1], _ => exact ⟨q0, q1, rfl⟩
          obtain ⟨q0, q1, rfl⟩ := hq2
          obtain ⟨eq0, eq1, _⟩ := ht4
          refine ⟨G, [.ref q0, .ref q1], way x cs r (i : Nat) 0, [way x cs r (i : Nat) 1], rfl, SqL.of eG, .cons (dp_tup (SqT.of eq0)) (.cons (dp_tup (SqT.of eq1)) .nil), fun j p hj hm hsq => ?_⟩
          have fin : ∀ p, H4 p = some (.tup ((bestT x cs r (i : Nat)).map V.int)) → ∃ acc, H4 E2 = some (.lst acc) ∧ acc.length < sizeLine ∧ Same H (upd H4 E2 (.lst (acc ++ [.ref p]))) ∧ BeatAt (upd H4 E2 (.lst (acc ++ [.ref p]))) D ((List.range 4).map fun l => ncl x (l : Nat) r) ∧ E2 ≠ D ∧ BeatAt (upd H4 E2 (.lst (acc ++ [.ref p]))) E2 ((List.range (i + 1)).map fun s => bestT x cs r (s : Nat)) := by
            intro p ep
            refine ⟨_, s24 _ _ eE, ?_, ?_, (hcl2.same s24).mut (s24 _ _ eE) hne.symm, hne, ps ++ [p], ?_, ?_⟩
            · rw [List.length_map, TupsAt.len htup, List.length_map, List.length_range]
              exact sz4l (by omega)
            · exact same_mut (s2.trans s24) (s1.free nE)
            · rw [upd_same, List.map_append]
              rfl
            · rw [List.range_succ, List.map_append]
              exact tups_mut (s24 _ _ eE) (TupsAt.snoc ep (TupsAt.loc (fun a zs e => s24 a _ e) htup))
          match j, hj, hm with
          | 0, hj, hm =>
            cases hj
            have hm : _ = bestT x cs r (i : Nat) := Option.some.inj hm
            exact fin q0 (by rw [← hm]; exact eq0)
          | 1, hj, hm =>
            cases hj
            have hm : _ = bestT x cs r (i : Nat) := Option.some.inj hm
            exact fin q1 (by rw [← hm]; exact eq1)
      · rintro H2 ⟨s2, _, _, hE⟩
        exact q H2 E2 s2 (s1.free nE) hE
theorem sc_tail_costs : FnScope ["heard", "rate", "costs", "number", "squares", "state"] ["heard", "rate"] (defScope s_tail_costs) := ⟨rfl, rfl, rfl, by decide +kernel, rfl, by decide +kernel, by decide +kernel⟩
def spTC (K : PySem.W.Frag) : Sp := fun vs H Q _ => ∃ (a : Addr) (hs : List Int) (r : Int), vs = [.ref a, .int r] ∧ okR r ∧ SqL K H a (hs.map V.int) ∧ ∀ (H' : Hp) (p : Addr), Same H H' → H p = none → H' p = some (.lst ((tailC r hs).map V.int)) → Q (.ref p) H'
theorem drop_back {hs : List Int} {i : Nat} {x : Int} (hi : i < hs.length) (hx : hs[hs.length - 1 - i]? = some x) : hs.drop (hs.length - (i + 1)) = x :: hs.drop (hs.length - i) := by
  have e : hs.length - (i + 1) = hs.length - 1 - i := by omega
  rw [e, List.drop_eq_getElem_cons (by omega)]
  congr 1
  · rw [List.getElem?_eq_getElem (by omega)] at hx
    exact Option.some.inj hx
  · congr 1
    omega
theorem ok_tail_costs {f cN cR : Addr} {fd : FuncData} {k : Nat} {tS : Tok} (F : Fun K "tail_costs" "tail_costs" s_tail_costs f fd) (n_range : mg "range" = none) (n_reversed : mg "reversed" = none) (g_STATES : mg "STATES" = some (.int 4 tS)) (c_apart : Cal P w K mg base k "apart" ["one", "other"] spApart)
    (cw_point_1_rate : CalW P w K mg base k "point" ["number", "rate"] 1 ["rate"] (fun vs zs => vs ++ zs) (spPoint cN cR)) (c_class_of : Cal P w K mg base k "class_of" ["state", "first"] spClass) (c_moved : Cal P w K mg base k "moved" ["state", "first"] spMovedS) : FnOk P w K mg base CX0 (k + 1) f fd ["heard", "rate"] (spTC K) := by
  have sc := sc_tail_costs
  refine F.ok sc (fun vs H Q E h => ?_) (fun cdv A outer s H vs Q E hr h => ?_)
  · obtain ⟨a, hs, r, rfl, _⟩ := h
    rfl
  · obtain ⟨a, hs, r, rfl, ok, hS, q⟩ := h
    refine ⟨_, (pss_cons (ps_set (i := 2) sc.nd rfl (.inr rfl) (pe_op op_rep (pe_lst (pa_cons pe_int pa_nil)) (pe_glob (v := .int 4) (by rfl) g_STATES ⟨_, rfl⟩)))
 (pss_cons (ps_for PassesOwn.never rfl (pi_reversed (by rfl) n_reversed (pa_cons (pv 0) pa_nil)) (pg_name (i := 3) sc.nd rfl (.inr rfl))
  (pss_cons (ps_set (i := 4) sc.nd rfl (.inr rfl) (pe_lc (own := [("state", 5)]) (g := gName 5) (by rfl) sc.nd (pi_range1 (by rfl) n_range (pa_cons (pe_glob (v := .int 4) (by rfl) g_STATES ⟨_, rfl⟩) pa_nil)) (blkOk_by (own := [("state", 5)]) (N := ["heard", "rate", "costs", "number", "squares", "state"]) (sc := defScope s_tail_costs) (by decide +kernel)) (fun _ _ _ _ _ => (pg_name (i := 5) sc.nd rfl (Or.inl rfl))) (fun _ _ _ _ _ => pts_nil) (fun _ _ _ _ _ => (pe_op op_pow (pe_callC c_apart hr (by rfl) (pa_cons (pv 3) (pa_cons (pe_callWF cw_point_1_rate hr (by rfl) (pa_cons (pe_callC c_class_of hr (by rfl) (pa_cons (pv 5) (pa_cons pe_int pa_nil))) pa_nil) (pk_cons (pv 1) pk_nil)) pa_nil))) pe_int))))
 (pss_one (ps_set (i := 2) sc.nd rfl (.inr rfl) (pe_lc (own := [("state", 5)]) (g := gName 5) (by rfl) sc.nd (pi_range1 (by rfl) n_range (pa_cons (pe_glob (v := .int 4) (by rfl) g_STATES ⟨_, rfl⟩) pa_nil)) (blkOk_by (own := [("state", 5)]) (N := ["heard", "rate", "costs", "number", "squares", "state"]) (sc := defScope s_tail_costs) (by decide +kernel)) (fun _ _ _ _ _ => (pg_name (i := 5) sc.nd rfl (Or.inl rfl))) (fun _ _ _ _ _ => pts_nil) (fun _ _ _ _ _ => (pe_op op_add (pe_ix (ix_listK K rfl) (pv 4) (pv 5) (fun _ _ => rfl)) (pe_ix (ix_listK K rfl) (pv 2) (pe_callC c_moved hr (by rfl) (pa_cons (pv 5) (pa_cons pe_int pa_nil))) (fun _ _ => rfl)))))))))
 (pss_one (ps_ret (pv 2))))), ?_⟩
    have hpt : 4 ≤ ptsI r := by rcases pts_step ok with ⟨_, e, _⟩ | ⟨_, e, _⟩ | ⟨_, e, _⟩ | ⟨_, e, _⟩ <;> rw [e] <;> decide
    refine ⟨(by show 1 ≤ sizeLine; decide), fun p1 n1 => ?_⟩
    have s1 := same_upd (o := .lst [.int 0]) n1
    refine ⟨p1, 4, _, rfl, rfl, upd_same, by decide, by decide, (by show 1 * 4 ≤ sizeLine; decide), fun p2 n2 => ?_⟩
    have s2 := s1.trans (same_upd (o := .lst (([0, 0, 0, 0] : List Int).map V.int)) n2)
    refine ⟨_, rfl, a, _, rfl, s2.seq hS, ?_⟩
    refine RT.for_Itv (K := K) (a := a) (xs := hs.map V.int) (fun i σ H' => ∃ (pk : Addr) (y3 y4 y5 : Option V), σ = [some (.ref a), some (.int r), some (.ref pk), y3, y4, y5] ∧ Same H H' ∧ H pk = none ∧ H' pk = some (.lst ((tailC r (hs.drop (hs.length - i))).map V.int))) ⟨p2, none, none, none, rfl, s2, s1.free n2, ?_⟩ (fun i σ H' h => ?_) ?_ ?_
    · rw [Nat.sub_zero, List.drop_length]
      exact upd_same
    · obtain ⟨_, _, _, _, _, sm, _⟩ := h
      exact sm.seq hS
    · rintro i x σ H3 hi hx ⟨pk, y3, y4, y5, rfl, s3, npk, epk⟩
      rw [List.length_map] at hi hx
      obtain ⟨z, hz, rfl⟩ := getI hx
      rw [drop_back hi hz]
      have hcl := tailC_len r (hs.drop (hs.length - i))
      generalize hcs : tailC r (hs.drop (hs.length - i)) = cs at epk hcl
      have e0 : tailC r (z :: hs.drop (hs.length - i)) = (List.range 4).map fun s => sqA z (clS (s : Nat) 0) r + cs.getD (mvS (s : Nat) 0).toNat 0 := by
        rw [← hcs]
        rfl
      rw [e0]
      refine name_by ?_
      dsimp only
      -- squares
      refine ⟨4, rfl, by decide, by decide, fun D nD => lc_range (lo := 0) (n := 4) (fun j H' => Same H3 H' ∧ H' D = some (.lst (((List.range j).map fun s => sqA z (clS ((s : Nat) : Int) 0) r).map V.int))) ⟨same_upd nD, upd_same⟩ ?_ ?_⟩
      · rintro j H4 hj ⟨s4, eD⟩
        have hj : j < 4 := hj
        refine ⟨rfl, tYes_by (iteT ?_)⟩
        have st : St4 ((j : Nat) : Int) := ⟨by omega, by omega⟩
        have hc4 := cl_st ((j : Nat) : Int) 0
        obtain ⟨c1, c2⟩ := id hc4
        refine ⟨_, rfl, _, rfl, _, 0, rfl, (by rw [Int.zero_add]; exact st), .inl rfl, _, rfl, rfl, rfl, _, r, rfl, (fun _ _ _ => ?_), (fun _ bad => by rw [Int.zero_add] at bad; rcases bad with y | y <;> omega), (fun no => absurd ok no)⟩
        refine ⟨_, _, rfl, _, _, rfl, rfl, ⟨by decide, by decide, ?_⟩, _, eD, ?_, same_mut s4 nD, ?_⟩
        · have h1 := apart_le z (pointI (clS (0 + ((j : Nat) : Int)) 0) r)
          omega
        · rw [List.length_map, List.length_map, List.length_range]
          exact sz4l (by omega)
        · rw [upd_same, List.range_succ, List.map_append, List.map_append, Int.zero_add]
          rfl
      · rintro H4 ⟨s4, eD⟩
        refine name_by ?_
        dsimp only
        -- costs
        refine ⟨4, rfl, by decide, by decide, fun E2 nE => lc_range (lo := 0) (n := 4) (fun j H' => Same H4 H' ∧ H' E2 = some (.lst (((List.range j).map fun s => sqA z (clS ((s : Nat) : Int) 0) r + cs.getD (mvS ((s : Nat) : Int) 0).toNat 0).map V.int))) ⟨same_upd nE, upd_same⟩ ?_ ?_⟩
        · rintro j H5 hj ⟨s5, eE⟩
          have hj : j < 4 := hj
          refine ⟨rfl, tYes_by (iteT ?_)⟩
          have g : atI (((List.range 4).map fun s => sqA z (clS ((s : Nat) : Int) 0) r).map V.int) (0 + ((j : Nat) : Int)) = some (.int (sqA z (clS ((j : Nat) : Int) 0) r)) := by
            rw [Int.zero_add]
            refine atI_nat ?_
            rw [List.getElem?_map, List.getElem?_map, List.getElem?_range hj]
            rfl
          refine ⟨_, rfl, _, rfl, D, _, _, _, rfl, rfl, SqL.of (s5 _ _ eD), g, _, rfl, _, rfl, _, 0, rfl, pk, _, _, _, rfl, rfl, SqL.of (s5 _ _ (s4 _ _ epk)), (by rw [Int.zero_add]; exact at_st hcl (mv_st (.inl rfl))), _, _, rfl, rfl, _, eE, ?_, same_mut s5 nE, ?_⟩
          · rw [List.length_map, List.length_map, List.length_range]
            exact sz4l (by omega)
          · rw [upd_same, List.range_succ, List.map_append, List.map_append]
            rfl
        · rintro H5 ⟨s5, eE⟩
          exact ⟨E2, _, _, _, rfl, (s3.trans s4).trans s5, (s3.trans s4).free nE, eE⟩
    · rintro σ H3 ⟨pk, y3, y4, y5, rfl, s3, npk, epk⟩
      rw [List.length_map, Nat.sub_self, List.drop_zero] at epk
      exact ⟨_, rfl, q H3 pk s3 npk epk⟩
theorem sc_number_bits : FnScope ["number", "many", "place"] ["number", "many"] (defScope s_number_bits) := ⟨rfl, rfl, rfl, by decide +kernel, rfl, by decide +kernel, by decide +kernel⟩
def spNbX (cN : Addr) : Sp := fun vs H Q E => ∃ (n mm : Int), vs = [.int n, .int mm] ∧
  (∀ m : Nat, mm = (m : Int) → m ≤ 64 → 0 ≤ n → n < 2 ^ m → ∀ (H' : Hp) (p : Addr), Same H H' → H p = none → H' p = some (.lst ((wr m n).map V.int)) → Q (.ref p) H') ∧
  (mm < 0 ∨ 64 < mm ∨ n < 0 ∨ 2 ^ mm.toNat ≤ n → ∀ H' d, Same H H' → H d = none → H' d = some (.xd [(("word" : Str), .str "BadCount")]) → E (.ref cN) (some d) H')
theorem wr_get : ∀ (m : Nat) (n : Int) (i : Nat), i < m → (wr m n)[i]? = some (n / 2 ^ (m - 1 - i) % 2)
  | m + 1, n, 0, _ => by
    show some (n / 2 ^ m % 2) = _
    rfl
  | m + 1, n, i + 1, h => by
    show (wr m n)[i]? = _
    rw [wr_get m n i (by omega), show m + 1 - 1 - (i + 1) = m - 1 - i by omega]
theorem lc_rngC {lo c : Int} {n : Nat} {g : TG} {tt : TT} {te : TE} {vs : List Nat} {σ : L2.St} {H1 : Hp} {D : Addr} {Qd : Hp → Prop} (Pv : Nat → Hp → Prop) (p0 : Pv 0 (upd H1 D (.lst [])))
    (ps : ∀ i H, i < n → Pv i H → g (.int (lo + (i : Nat) * c)) (wipe σ vs) H fun σ2 H2 => wipe σ2 vs = wipe σ vs ∧ tt σ2 H2 fun b H3 =>
      if b = true then te σ2 H3 fun y H4 => ∃ acc, H4 D = some (.lst acc) ∧ acc.length < sizeLine ∧ Pv (i + 1) (upd H4 D (.lst (acc ++ [y]))) else Pv (i + 1) H3) (pd : ∀ H, Pv n H → Qd H) :
    ∃ W : Nat → Nat → Hp → Prop, (∃ m, W 0 m (upd H1 D (.lst []))) ∧ ∀ i m H, W i m H →
      ((Itc lo c n).stop i H ∧ Qd H) ∨ ((Itc lo c n).go i H ∧ ∃ Nx : Hp → Prop, (∀ H', Nx H' → ∃ m', m' < m ∧ W (i + 1) m' H') ∧ ∀ y H', (Itc lo c n).yld i H y H' → g y (wipe σ vs) H' fun σ2 H2 => wipe σ2 vs = wipe σ vs ∧ tt σ2 H2 fun b H3 =>
        if b = true then te σ2 H3 fun y H4 => ∃ acc, H4 D = some (.lst acc) ∧ acc.length < sizeLine ∧ Nx (upd H4 D (.lst (acc ++ [y]))) else Nx H3) := by
  refine ⟨fun i m H => m = n - i ∧ i ≤ n ∧ Pv i H, ⟨_, rfl, Nat.zero_le _, p0⟩, fun i m H hw => ?_⟩
  obtain ⟨rfl, hi, p⟩ := hw
  by_cases hlt : i < n
  · refine .inr ⟨hlt, Pv (i + 1), fun H' p' => ⟨n - (i + 1), by omega, rfl, hlt, p'⟩, fun y H' hy => ?_⟩
    obtain ⟨rfl, rfl⟩ := hy
    exact ps i _ hlt p
  · obtain rfl : i = n := by omega
    exact .inl ⟨Nat.le_refl _, pd H p⟩
theorem ok_number_bits {f cN : Addr} {fd : FuncData} {k : Nat} {tM : Tok} (F : Fun K "number_bits" "number_bits" s_number_bits f fd) (n_range : mg "range" = none) (g_MOST_BITS : mg "MOST_BITS" = some (.int 64 tM)) (x_BadCount : XcOk P w K mg base k "BadCount" cN (spIni0 K cN "BadCount")) : FnOk P w K mg base (L2.CX P w) (k + 2) f fd ["number", "many"] (spNbX cN) := by
  have sc := sc_number_bits
  refine F.okX sc (fun vs H Q E h => ?_) (fun cdv A outer s H vs Q E hr h => ?_)
  · obtain ⟨n, m, rfl, _⟩ := h
    rfl
  · obtain ⟨n, mm, rfl, q', qn⟩ := h
    refine ⟨_, (pss_cons (ps_if (PW.pt (pw_or (pt_cmpR op_lt (pv 1) pe_int (nomark _)) (pw_or (pt_cmpR op_gt (pv 1) (pe_glob (v := .int 64) (by rfl) g_MOST_BITS ⟨_, rfl⟩) (nomark _)) (pw_or (pt_cmpR op_lt (pv 0) pe_int (nomark _)) (pw_or1 (pt_cmpR op_ne (pe_op op_shr (pv 0) (pv 1)) pe_int (nomark _)))))))
  (pss_one (ps_raise rfl (takes_of rfl rfl rfl rfl) (pmk_c0 x_BadCount hr (by rfl))))
  pss_nil)
 (pss_one (ps_ret (pe_lc (own := [("place", 2)]) (g := gName 2) (by rfl) sc.nd (pi_range3 (by rfl) n_range (pa_cons (pe_op op_sub (pv 1) pe_int) (pa_cons (pe_un un_neg pe_int) (pa_cons (pe_un un_neg pe_int) pa_nil)))) (blkOk_by (own := [("place", 2)]) (N := ["number", "many", "place"]) (sc := defScope s_number_bits) (by decide +kernel)) (fun _ _ _ _ _ => (pg_name (i := 2) sc.nd rfl (Or.inl rfl))) (fun _ _ _ _ _ => pts_nil) (fun _ _ _ _ _ => (pe_op op_and (pe_op op_shr (pv 0) (pv 2)) pe_int)))))), ?_⟩
    refine ⟨_, rfl, _, _, rfl, rfl, _, rfl, ite2 (fun e => ?_) (fun e1 => ?_)⟩
    · have e : mm < 0 := of_decide_eq_true e
      exact mk_inner0 (fun H3 d s3 nd ed => qn (.inl e) H3 d s3 nd ed)
    have e1 : ¬ mm < 0 := fun h => e1 (decide_eq_true h)
    refine ⟨_, rfl, _, _, rfl, rfl, _, rfl, ite2 (fun e => ?_) (fun e2 => ?_)⟩
    · have e : 64 < mm := of_decide_eq_true e
      exact mk_inner0 (fun H3 d s3 nd ed => qn (.inr (.inl e)) H3 d s3 nd ed)
    have e2 : ¬ 64 < mm := fun h => e2 (decide_eq_true h)
    refine ⟨_, rfl, _, _, rfl, rfl, _, rfl, ite2 (fun e => ?_) (fun e3 => ?_)⟩
    · have e : n < 0 := of_decide_eq_true e
      exact mk_inner0 (fun H3 d s3 nd ed => qn (.inr (.inr (.inl e))) H3 d s3 nd ed)
    have e3 : ¬ n < 0 := fun h => e3 (decide_eq_true h)
    obtain ⟨m, rfl⟩ : ∃ m : Nat, mm = (m : Int) := ⟨mm.toNat, by omega⟩
    refine ⟨_, rfl, _, rfl, _, _, rfl, rfl, by omega, rfl, _, rfl, ite2 (fun e => ?_) (fun e4 => ?_)⟩
    · have e : (!decide (V.int (n / 2 ^ (m : Int).toNat) = V.int 0)) = true := e
      have e5 : 2 ^ (m : Int).toNat ≤ n := by
        rcases Int.lt_or_le n (2 ^ (m : Int).toNat) with h | h
        · exfalso
          rw [Int.ediv_eq_zero_of_lt (by omega) h] at e
          exact absurd e (by decide)
        · exact h
      exact mk_inner0 (fun H3 d s3 nd ed => qn (.inr (.inr (.inr e5))) H3 d s3 nd ed)
    have e4 : ¬ (!decide (V.int (n / 2 ^ (m : Int).toNat) = V.int 0)) = true := e4
    have hn1 : n < 2 ^ m := by
      refine lt_of_div ?_
      rw [Int.toNat_natCast] at e4
      by_cases z : n / 2 ^ m = 0
      · exact z
      · exfalso
        refine e4 ?_
        rw [decide_eq_false (fun y => z (V.int.inj y))]
        rfl
    have hn0 : 0 ≤ n := by omega
    have hm : m ≤ 64 := by omega
    have q := q' m rfl hm hn0 hn1
    refine ⟨_, rfl, _, _, rfl, rfl, 1, rfl, 1, rfl, (m : Int) - 1, -1, -1, ((m : Int) - 1 - -1).toNat, rfl, RgC.neg (by omega) (by omega) (by decide) (by decide), fun D nD => ?_⟩
    rw [show ((m : Int) - 1 - -1).toNat = m by omega]
    refine lc_rngC (fun i H' => Same H H' ∧ H' D = some (.lst (((wr m n).take i).map V.int))) ⟨same_upd nD, upd_same⟩ ?_ ?_
    · rintro i H' hi ⟨sm, eD⟩
      refine ⟨rfl, tYes_by (iteT ?_)⟩
      have ep : (m : Int) - 1 + (i : Int) * -1 = ((m - 1 - i : Nat) : Int) := by omega
      refine ⟨_, rfl, _, rfl, _, _, rfl, rfl, by omega, _, _, rfl, rfl, _, eD, ?_, same_mut sm nD, ?_⟩
      · rw [List.length_map, List.length_take, wr_len]
        exact sz4l (by omega)
      · rw [upd_same, take_more (wr_get m n i hi), List.map_append]
        have e1 : Builtin.bitAnd (n / 2 ^ ((m : Int) - 1 + (i : Int) * -1).toNat) 1 = n / 2 ^ (m - 1 - i) % 2 := by
          rw [ep, Int.toNat_natCast]
          have h1 : 0 ≤ n / 2 ^ (m - 1 - i) := Int.ediv_nonneg hn0 (Int.pow_nonneg (by decide))
          have := _root_.Bits.bitAnd_mask (x := n / 2 ^ (m - 1 - i)) 1 h1
          exact this
        show _ = some (HO.lst (_ ++ [V.int _]))
        rw [← e1]
    · rintro H' ⟨sm, eD⟩
      rw [List.take_of_length_le (by rw [wr_len]; exact Nat.le_refl _)] at eD
      exact q H' D sm nD eD
theorem sc_bits_along : FnScope ["beats", "rate", "bits", "state", "beat", "cost", "first", "rest"] ["beats", "rate"] (defScope s_bits_along) := ⟨rfl, rfl, rfl, by decide +kernel, rfl, by decide +kernel, by decide +kernel⟩
def GoodT (r : Nat) (t : List Int) : Prop := ∃ c f m, t = [c, f, m] ∧ isB f ∧ 0 ≤ m ∧ m < 2 ^ (r - 1)
def GoodB (r : Nat) (bs : List (List (List Int))) : Prop := ∀ b ∈ bs, b.length = 4 ∧ ∀ t ∈ b, GoodT r t
def spBA (K : PySem.W.Frag) : Sp := fun vs H Q _ => ∃ (pb : Addr) (qs : List Addr) (bs : List (List (List Int))) (r : Nat), vs = [.ref pb, .int (r : Int)] ∧ okR (r : Int) ∧ H pb = some (.lst (qs.map V.ref)) ∧ BeatsAt H qs bs ∧ GoodB r bs ∧ bs.length ≤ 2000 ∧
  ∀ (H' : Hp) (p : Addr), Same H H' → H p = none → H' p = some (.lst ((along r 0 bs).map V.int)) → Q (.ref p) H'
theorem along_len {r : Nat} (hr : 0 < r) : ∀ (bs : List (List (List Int))) (s : Int), (along r s bs).length = r * bs.length
  | [], s => by rw [List.length_nil, Nat.mul_zero]; rfl
  | b :: bs, s => by
    show (_ :: (wr (r - 1) _ ++ along r _ bs)).length = _
    rw [List.length_cons, List.length_append, wr_len, along_len hr bs, List.length_cons, Nat.mul_add]
    omega
theorem ok_bits_along {f cN : Addr} {fd : FuncData} {k : Nat} (F : Fun K "bits_along" "bits_along" s_bits_along f fd) (c_number_bits : CalX P w K mg base k "number_bits" ["number", "many"] (spNbX cN)) (c_moved : Cal P w K mg base k "moved" ["state", "first"] spMovedS) : FnOk P w K mg base CX0 (k + 1) f fd ["beats", "rate"] (spBA K) := by
  have sc := sc_bits_along
  refine F.ok sc (fun vs H Q E h => ?_) (fun cdv A outer s H vs Q E hr h => ?_)
  · obtain ⟨pb, qs, bs, r, rfl, _⟩ := h
    rfl
  · obtain ⟨pb, qs, bs, r, rfl, ok, epb, hbs, hgood, hlen, q⟩ := h
    refine ⟨_, (pss_cons (ps_set (i := 2) sc.nd rfl (.inl rfl) (pe_lst pa_nil))
 (pss_cons (ps_set (i := 3) sc.nd rfl (.inl rfl) pe_int)
 (pss_cons (ps_for PassesOwn.never rfl (pi_listK K rfl (pv 0)) (pg_name (i := 4) sc.nd rfl (.inl rfl))
  (pss_cons (ps_asg (pe_ix (ix_listK K rfl) (pv 4) (pv 3) (fun _ _ => rfl)) (pg_tup rfl (pgs_cons (pg_name (i := 5) sc.nd rfl (.inl rfl)) (pgs_cons (pg_name (i := 6) sc.nd rfl (.inl rfl)) (pgs_cons (pg_name (i := 7) sc.nd rfl (.inl rfl)) pgs_nil)))))
 (pss_cons (ps_expr (pe_bmK K rfl PySem.F.plainAttrs_list PySem.F.slot_list_append PySem.F.type_list_append mt_append (pv 2) (pa_cons (pv 6) pa_nil)))
 (pss_cons (ps_expr (pe_bmK K rfl PySem.F.plainAttrs_list PySem.F.slot_list_extend PySem.F.type_list_extend mt_extend (pv 2) (pa_cons (pe_callF c_number_bits hr (by rfl) (pa_cons (pv 7) (pa_cons (pe_op op_sub (pv 1) pe_int) pa_nil))) pa_nil)))
 (pss_one (ps_set (i := 3) sc.nd rfl (.inl rfl) (pe_callC c_moved hr (by rfl) (pa_cons (pv 3) (pa_cons (pv 6) pa_nil)))))))))
 (pss_one (ps_ret (pv 2)))))), ?_⟩
    obtain ⟨r1, r4⟩ := id ok
    refine ⟨Nat.zero_le _, fun po no => ?_⟩
    have s1 := same_upd (o := .lst []) no
    refine ⟨_, rfl, pb, rfl, ⟨_, SqL.of (s1 _ _ epb)⟩, for_list (K := K) (a := pb) (xs := qs.map V.ref) (fun i σ H' => ∃ (st : Int) (out : List Int) (y4 y5 y6 y7 : Option V), σ = [some (.ref pb), some (.int (r : Int)), some (.ref po), some (.int st), y4, y5, y6, y7] ∧ St4 st ∧ Same H H' ∧ H' po = some (.lst (out.map V.int)) ∧ out ++ along r st (bs.drop i) = along r 0 bs ∧ out.length ≤ 4 * i)
      ⟨0, [], none, none, none, none, rfl, st4_0, s1, upd_same, rfl, Nat.zero_le _⟩ (fun i σ H' _ h => ?_) ?_ ?_⟩
    · obtain ⟨_, _, _, _, _, _, _, _, sm, _⟩ := h
      exact SqL.of (sm _ _ epb)
    · rintro i x σ H2 hx ⟨st, out, y4, y5, y6, y7, rfl, hst, s2, eo, hout, hol⟩
      obtain ⟨q0, hq, rfl⟩ : ∃ p, qs[i]? = some p ∧ x = V.ref p := by
        rw [List.getElem?_map] at hx
        cases e : qs[i]? with
        | none => rw [e] at hx; cases hx
        | some p => rw [e] at hx; exact ⟨p, rfl, (Option.some.inj hx).symm⟩
      obtain ⟨b, hb, hbeat⟩ := BeatsAt.at hbs hq
      have hil : i < bs.length := (List.getElem?_eq_some_iff.mp hb).1
      obtain ⟨hb4, hbt⟩ := hgood b (List.mem_of_getElem? hb)
      obtain ⟨sn, rfl, hsn⟩ := st4_nat hst
      obtain ⟨t, ht⟩ := getElem?_ex (show sn < b.length by omega)
      obtain ⟨cc, fb, m, rfl, hfb, m0, m1⟩ := hbt t (List.mem_of_getElem? ht)
      obtain ⟨ps, eq0, htup⟩ := hbeat.same s2
      obtain ⟨p, hp, ep⟩ := TupsAt.at htup ht
      have ed : bs.drop i = b :: bs.drop (i + 1) := by
        rw [List.drop_eq_getElem_cons hil]
        congr 1
        rw [List.getElem?_eq_getElem hil] at hb
        exact Option.some.inj hb
      have eb : b.getD sn [] = [cc, fb, m] := by rw [List.getD_eq_getElem?_getD, ht]; rfl
      rw [ed] at hout
      have hout : out ++ ((b.getD ((sn : Int).toNat) []).getD 1 0 :: (wr (r - 1) ((b.getD ((sn : Int).toNat) []).getD 2 0) ++ along r (mvS (sn : Int) ((b.getD ((sn : Int).toNat) []).getD 1 0)) (bs.drop (i + 1)))) = along r 0 bs := hout
      rw [Int.toNat_natCast, eb] at hout
      have hout : out ++ (fb :: (wr (r - 1) m ++ along r (mvS (sn : Int) fb) (bs.drop (i + 1)))) = along r 0 bs := hout
      refine ⟨_, rfl, _, rfl, q0, _, _, _, rfl, rfl, SqL.of eq0, atI_nat (by rw [List.getElem?_map, hp]; rfl), ?_⟩
      refine ⟨p, _, rfl, SqT.of ep, rfl, _, _, rfl, _, _, rfl, _, _, rfl, rfl, ?_⟩
      refine ⟨_, rfl, .inl ⟨rfl, _, SqL.of eo⟩, _, rfl, po, _, _, rfl, rfl, eo, (by rw [List.length_map]; exact sz4l (by omega)), ?_⟩
      dsimp only
      have s3 : Same H (upd H2 po (.lst (out.map V.int ++ [.int fb]))) := same_mut s2 no
      have eo3 : upd H2 po (.lst (out.map V.int ++ [.int fb])) po = some (.lst ((out ++ [fb]).map V.int)) := by rw [upd_same, List.map_append]; rfl
      generalize upd H2 po (.lst (out.map V.int ++ [.int fb])) = H3 at s3 eo3 ⊢
      refine ⟨_, rfl, .inl ⟨rfl, _, SqL.of eo3⟩, _, rfl, _, rfl, _, _, rfl, rfl, m, (r : Int) - 1, rfl, (fun mn em _ _ _ H4 p4 s4 n4 e4 => ?_), (fun bad => ?_)⟩
      · obtain rfl : mn = r - 1 := by omega
        refine ⟨po, p4, _, _, rfl, rfl, s4 _ _ eo3, e4, (by rw [List.length_map, List.length_map, wr_len, List.length_append]; exact sz4 (by show out.length + 1 + (r - 1) ≤ 100000; omega)), ?_⟩
        refine ⟨_, rfl, _, rfl, _, _, rfl, ?_⟩
        refine ⟨mvS (sn : Int) fb, out ++ [fb] ++ wr (r - 1) m, _, _, _, _, rfl, mv_st hfb, same_mut (s3.trans s4) no, ?_, ?_, ?_⟩
        · rw [upd_same]
          simp
        · rw [← hout]
          simp
        · rw [List.length_append, List.length_append, wr_len]
          show out.length + 1 + (r - 1) ≤ 4 * (i + 1)
          omega
      · exfalso
        have e1 : ((r : Int) - 1).toNat = r - 1 := by omega
        rw [e1] at bad
        rcases bad with h | h | h | h
        · omega
        · omega
        · omega
        · omega
    · rintro σ H2 ⟨st, out, y4, y5, y6, y7, rfl, hst, s2, eo, hout, hol⟩
      rw [List.length_map, BeatsAt.len hbs, List.drop_length] at hout
      have hout : out ++ [] = along r 0 bs := hout
      rw [List.append_nil] at hout
      rw [hout] at eo
      exact ⟨_, rfl, q H2 po s2 no eo⟩
theorem sc_heard_path : FnScope ["heard", "rate", "end", "costs", "beats", "number", "beat", "bits", "cost", "first", "rest"] ["heard", "rate"] (defScope s_heard_path) := ⟨rfl, rfl, rfl, by decide +kernel, rfl, by decide +kernel, by decide +kernel⟩
def spHP (K : PySem.W.Frag) (cN cR : Addr) : Sp := fun vs H Q E => ∃ (a : Addr) (hs : List Int) (r : Int), vs = [.ref a, .int r] ∧ SqL K H a (hs.map V.int) ∧ hs.length ≤ 1000 ∧
  (okR r → 2 ≤ hs.length → ∀ (H' : Hp) (p pb : Addr), Same H H' → H p = none → H pb = none → H' p = some (.tup [.ref pb, .int (hpCost r.toNat hs)]) → H' pb = some (.lst ((hpRow r.toNat hs).map V.int)) → Q (.ref p) H') ∧
  (okR r → hs.length < 2 → Ref0 cN "BadCount" H E) ∧ (¬ okR r → Ref0 cR "BadRate" H E)
theorem way_good {x : Int} {cs : List Int} {r : Nat} {s f : Int} (ok : okR (r : Int)) (hf : isB f) : GoodT r (way x cs (r : Int) s f) := by
  have h := ncl_m (x := x) (low := clS s f) ok
  have e : ((r : Int) - 1).toNat = r - 1 := by omega
  rw [e] at h
  exact ⟨_, _, _, rfl, hf, h.1, h.2⟩
theorem bestR_good {x : Int} {cs : List Int} {r : Nat} (ok : okR (r : Int)) : (bestR x cs (r : Int)).length = 4 ∧ ∀ t ∈ bestR x cs (r : Int), GoodT r t := by
  refine ⟨bestR_len _ _ _, fun t ht => ?_⟩
  obtain ⟨s, _, rfl⟩ := List.mem_map.mp ht
  rcases best_three x cs (r : Int) (s : Nat) with h | h <;> rw [h]
  · exact way_good ok (.inl rfl)
  · exact way_good ok (.inr rfl)
theorem dpB_good {r : Nat} (ok : okR (r : Int)) (tc : List Int) : ∀ hs, GoodB r (dpB (r : Int) tc hs)
  | [] => fun b hb => absurd hb List.not_mem_nil
  | h :: hs => fun b hb => by
    rcases List.mem_cons.mp hb with rfl | hb
    · exact bestR_good ok
    · exact dpB_good ok tc hs b hb
theorem ok_heard_path {f cN cR : Addr} {fd : FuncData} {k : Nat} {kws : List (Str × V)} {tT : Tok} (F : FunD K "heard_path" "heard_path" (defArgs s_heard_path) (defBody s_heard_path) (defScope s_heard_path) [] kws f fd) (n_len : mg "len" = none) (n_reversed : mg "reversed" = none) (g_TAIL : mg "TAIL" = some (.int 2 tT))
    (x_BadCount : XcOk P w K mg base k "BadCount" cN (spIni0 K cN "BadCount")) (c_check_rate : CalX P w K mg base (k + 1) "check_rate" ["rate"] (spCR cR)) (c_tail_costs : Cal P w K mg base (k + 1) "tail_costs" ["heard", "rate"] (spTC K))
    (c_best_of_beat : Cal P w K mg base (k + 1) "best_of_beat" ["number", "costs", "rate"] (spBB K)) (c_bits_along : Cal P w K mg base (k + 1) "bits_along" ["beats", "rate"] (spBA K)) : FnOk P w K mg base (L2.CX P w) (k + 2) f fd ["heard", "rate"] (spHP K cN cR) := by
  have sc := sc_heard_path
  refine F.ok sc (fun vs H Q E h => ?_) (fun cdv A outer s H vs Q E hr h => ?_)
  · obtain ⟨a, hs, r, rfl, _⟩ := h
    rfl
  · obtain ⟨a, hs, r, rfl, hS, hl, q, qn, qr⟩ := h
    refine ⟨_, (pss_cons (ps_expr (pe_callP c_check_rate hr (passes_call (takes_of rfl rfl rfl rfl) (fun _ _ _ _ h => h)) (by rfl) (pa_cons (pv 1) pa_nil)))
 (pss_cons (ps_if (pt_cmpR op_lt (pe_callB (call_lenK K rfl) (by rfl) n_len PySem.boot_len (pa_cons (pv 0) pa_nil)) (pe_glob (v := .int 2) (by rfl) g_TAIL ⟨_, rfl⟩) (nomark _))
  (pss_one (ps_raise rfl (takes_of rfl rfl rfl rfl) (pmk_c0 x_BadCount hr (by rfl))))
  pss_nil)
 (pss_cons (ps_set (i := 2) sc.nd rfl (.inl rfl) (pe_op op_sub (pe_callB (call_lenK K rfl) (by rfl) n_len PySem.boot_len (pa_cons (pv 0) pa_nil)) (pe_glob (v := .int 2) (by rfl) g_TAIL ⟨_, rfl⟩)))
 (pss_cons (ps_set (i := 3) sc.nd rfl (.inl rfl) (pe_callC c_tail_costs hr (by rfl) (pa_cons (pe_slice (sl_listK K rfl) (pv 0) (po_some (pv 2)) po_none) (pa_cons (pv 1) pa_nil))))
 (pss_cons (ps_set (i := 4) sc.nd rfl (.inl rfl) (pe_lst pa_nil))
 (pss_cons (ps_for (passes_of rfl) rfl (pi_reversed (by rfl) n_reversed (pa_cons (pe_slice (sl_listK K rfl) (pv 0) po_none (po_some (pv 2))) pa_nil)) (pg_name (i := 5) sc.nd rfl (.inl rfl))
  (pss_cons (ps_set (i := 6) sc.nd rfl (.inl rfl) (pe_callC c_best_of_beat hr (by rfl) (pa_cons (pv 5) (pa_cons (pv 3) (pa_cons (pv 1) pa_nil)))))
 (pss_cons (ps_setLc (i := 3) (own := [("cost", 8), ("first", 9), ("rest", 10)]) (g := (gTup K 3 (gCons (gName 8) (gCons (gName 9) (gCons (gName 10) gNil))))) (by rfl) sc.nd rfl rfl (sw_true rfl rfl rfl (by decide +kernel)) (pi_listK K rfl (pv 6)) (blkOk_by (own := [("cost", 8), ("first", 9), ("rest", 10)]) (N := ["heard", "rate", "end", "costs", "beats", "number", "beat", "bits", "cost", "first", "rest"]) (sc := defScope s_heard_path) (by decide +kernel)) (fun _ _ _ _ _ => (pg_tup rfl (pgs_cons (pg_name (i := 8) sc.nd rfl (Or.inl rfl)) (pgs_cons (pg_name (i := 9) sc.nd rfl (Or.inl rfl)) (pgs_cons (pg_name (i := 10) sc.nd rfl (Or.inl rfl)) pgs_nil))))) (fun _ _ _ _ _ => pts_nil) (fun _ _ _ _ _ => (pv 8)))
 (pss_one (ps_expr (pe_bmK K rfl PySem.F.plainAttrs_list PySem.F.slot_list_append PySem.F.type_list_append mt_append (pv 4) (pa_cons (pv 6) pa_nil)))))))
 (pss_cons (ps_expr (pe_bm0K K rfl PySem.F.plainAttrs_list PySem.F.slot_list_reverse PySem.F.type_list_reverse mt_reverse (pv 4)))
 (pss_cons (ps_set (i := 7) sc.nd rfl (.inl rfl) (pe_callC c_bits_along hr (by rfl) (pa_cons (pv 4) (pa_cons (pv 1) pa_nil))))
 (pss_one (ps_ret (pe_tup (pa_cons (pv 7) (pa_cons (pe_ix (ix_listK K rfl) (pv 3) pe_int (fun _ _ => rfl)) pa_nil))))))))))))), ?_⟩
    refine ⟨_, rfl, r, rfl, (fun ok => ?_), qr⟩
    obtain ⟨r1, r4⟩ := id ok
    obtain ⟨rn, rfl⟩ : ∃ rn : Nat, r = (rn : Int) := ⟨r.toNat, by omega⟩
    rw [Int.toNat_natCast] at q
    refine ⟨_, rfl, a, _, rfl, .inl hS, _, _, rfl, rfl, _, rfl, ite2 (fun e => ?_) (fun e => ?_)⟩
    · have e : ((hs.map V.int).length : Int) < 2 := of_decide_eq_true e
      rw [List.length_map] at e
      exact mk_inner0 (fun H3 d s3 nd ed => qn ok (by omega) H3 d s3 nd ed)
    have e : ¬ ((hs.map V.int).length : Int) < 2 := fun h => e (decide_eq_true h)
    rw [List.length_map] at e
    have h2 : 2 ≤ hs.length := by omega
    refine ⟨_, rfl, a, _, rfl, .inl hS, _, _, rfl, rfl, ?_⟩
    have ee : ((hs.map V.int).length : Int) - 2 = ((hs.length - 2 : Nat) : Int) := by rw [List.length_map]; omega
    refine name_by ?_
    dsimp only
    rw [ee]
    generalize hn : hs.length - 2 = n2
    -- tail
    refine ⟨_, rfl, _, rfl, _, rfl, a, _, rfl, hS, fun p1 n1 => ?_⟩
    rw [cut_from_n, ← List.map_drop]
    have s1 := same_upd (o := .lst ((hs.drop n2).map V.int)) n1
    refine ⟨_, rfl, p1, hs.drop n2, (rn : Int), rfl, ok, SqL.of upd_same, fun H2 pk s2 n2' e2 => ?_⟩
    have s12 := s1.trans s2
    have hk0 := tailC_len (rn : Int) (hs.drop n2)
    generalize htc : tailC (rn : Int) (hs.drop n2) = tc at e2 hk0
    have nk : H pk = none := s1.free n2'
    refine ⟨Nat.zero_le _, fun pb n3 => ?_⟩
    have nb0 : H pb = none := s12.free n3
    have s3 := s12.trans (same_upd (o := .lst []) n3)
    have e23 := same_upd (o := .lst []) n3 _ _ e2
    have eb3 : upd H2 pb (.lst []) pb = some (.lst []) := upd_same
    generalize upd H2 pb (.lst []) = H3 at s3 e23 eb3 ⊢
    refine ⟨_, rfl, _, rfl, n2, rfl, a, _, rfl, s3.seq hS, fun pz n4 => ?_⟩
    rw [cut_to_n, ← List.map_take]
    have s4 := s3.trans (same_upd (o := .lst ((hs.take n2).map V.int)) n4)
    have e24 := same_upd (o := .lst ((hs.take n2).map V.int)) n4 _ _ e23
    have eb4 := same_upd (o := .lst ((hs.take n2).map V.int)) n4 _ _ eb3
    have nz : pb ≠ pz := ne_of_none eb3 n4
    have ez4 : upd H3 pz (.lst ((hs.take n2).map V.int)) pz = some (.lst ((hs.take n2).map V.int)) := upd_same
    generalize upd H3 pz (.lst ((hs.take n2).map V.int)) = H4 at s4 e24 eb4 ez4 ⊢
    have hhl : (hs.take n2).length ≤ 1000 := by rw [List.length_take]; omega
    have hhp : hpRow rn hs = along rn 0 (dpB (rn : Int) tc (hs.take n2)) ∧ hpCost rn hs = (dpC (rn : Int) tc (hs.take n2)).getD 0 0 := by
      unfold hpRow hpCost
      rw [hn, htc]
      exact ⟨rfl, rfl⟩
    rw [hhp.1, hhp.2] at q
    generalize hs.take n2 = hd at ez4 hhl q
    refine ⟨pz, _, rfl, SqL.of ez4, ?_⟩
    refine RT.for_Itv (K := K) (a := pz) (xs := hd.map V.int) (fun i σ H' => ∃ (pk : Addr) (qs : List Addr) (y5 y6 : Option V), σ = [some (.ref a), some (.int (rn : Int)), some (.int (n2 : Int)), some (.ref pk), some (.ref pb), y5, y6, none, none, none, none] ∧ Same H H' ∧ H' pk = some (.lst ((dpC (rn : Int) tc (hd.drop (hd.length - i))).map V.int)) ∧ pk ≠ pb ∧
      H' pb = some (.lst (qs.map V.ref)) ∧ BeatsAt H' qs (dpB (rn : Int) tc (hd.drop (hd.length - i))).reverse ∧ pb ∉ qs ∧ H' pz = some (.lst (hd.map V.int))) ⟨pk, [], none, none, rfl, s4, ?_, ?_, eb4, ?_, List.not_mem_nil, ez4⟩ (fun i σ H' h => ?_) ?_ ?_
    · rw [Nat.sub_zero, List.drop_length]
      exact e24
    · exact ne_of_none e2 n3
    · rw [Nat.sub_zero, List.drop_length]
      trivial
    · obtain ⟨_, _, _, _, _, _, _, _, _, _, _, h⟩ := h
      exact SqL.of h
    · rintro i x σ H5 hi hx ⟨pk, qs, y5, y6, rfl, s5, ek, nkb, eb, hbs, hnb, ez⟩
      rw [List.length_map] at hi hx
      obtain ⟨z, hz, rfl⟩ := getI hx
      rw [drop_back hi hz]
      have hcl := dpC_len (rn : Int) tc hk0 (hd.drop (hd.length - i))
      have hbl : (dpB (rn : Int) tc (hd.drop (hd.length - i))).length ≤ 1000 := by rw [dpB_len, List.length_drop]; omega
      have eC : dpC (rn : Int) tc (z :: hd.drop (hd.length - i)) = costsOf (bestR z (dpC (rn : Int) tc (hd.drop (hd.length - i))) (rn : Int)) := rfl
      have eB : (dpB (rn : Int) tc (z :: hd.drop (hd.length - i))).reverse = (dpB (rn : Int) tc (hd.drop (hd.length - i))).reverse ++ [bestR z (dpC (rn : Int) tc (hd.drop (hd.length - i))) (rn : Int)] := by
        show (_ :: _).reverse = _
        rw [List.reverse_cons]
      rw [eC, eB]
      generalize dpC (rn : Int) tc (hd.drop (hd.length - i)) = cs at ek hcl
      generalize dpB (rn : Int) tc (hd.drop (hd.length - i)) = bs at hbs hbl
      have hbg := bestR_good (x := z) (cs := cs) ok
      refine ⟨_, rfl, _, rfl, _, rfl, z, (rn : Int), pk, cs, rfl, ok, SqL.of ek, hcl, fun H6 q6 s6 n6 hb6 => ?_⟩
      generalize bestR z cs (rn : Int) = bR at hb6 hbg
      obtain ⟨ps, eq6, ht6⟩ := hb6
      have hpl : ps.length = 4 := (TupsAt.len ht6).trans hbg.1
      -- costs
      refine ⟨_, rfl, q6, rfl, ⟨_, SqL.of eq6⟩, fun D nD => lc_list (K := K) (a := q6) (xs := ps.map V.ref) (fun j H' => Same H6 H' ∧ H' D = some (.lst ((costsOf (bR.take j)).map V.int))) ⟨same_upd nD, upd_same⟩ (fun j H' _ h => SqL.of (h.1 _ _ eq6)) ?_ ?_⟩
      · rintro j y H7 hy ⟨s7, eD⟩
        obtain ⟨p, hp, rfl⟩ : ∃ p, ps[j]? = some p ∧ y = V.ref p := by
          rw [List.getElem?_map] at hy
          cases e : ps[j]? with
          | none => rw [e] at hy; cases hy
          | some p => rw [e] at hy; exact ⟨p, rfl, (Option.some.inj hy).symm⟩
        have hj : j < bR.length := by have := (List.getElem?_eq_some_iff.mp hp).1; rw [hbg.1]; omega
        obtain ⟨t, ht⟩ := getElem?_ex hj
        obtain ⟨p', hp', ep⟩ := TupsAt.at ht6 ht
        rw [hp] at hp'
        cases hp'
        obtain ⟨cc, fb, m, rfl, _⟩ := hbg.2 t (List.mem_of_getElem? ht)
        refine ⟨p, _, rfl, SqT.of (s7 _ _ ep), rfl, _, _, rfl, _, _, rfl, _, _, rfl, rfl, ?_⟩
        refine ⟨rfl, tYes_by (iteT ?_)⟩
        refine ⟨_, rfl, _, eD, ?_, same_mut s7 nD, ?_⟩
        · unfold costsOf
          rw [List.length_map, List.length_map, List.length_take]
          exact sz4l (by omega)
        · rw [upd_same, take_more ht]
          unfold costsOf
          rw [List.map_append, List.map_append]
          rfl
      · rintro H7 ⟨s7, eD⟩
        rw [List.length_map, hpl, ← hbg.1, List.take_length] at eD
        have s67 := s6.trans s7
        have nDb : D ≠ pb := fun y => by rw [y, s6 _ _ eb] at nD; cases nD
        have nqb : q6 ≠ pb := fun y => by rw [y, eb] at n6; cases n6
        refine name_by ?_
        dsimp only
        have eb7 := s67 _ _ eb
        refine ⟨_, rfl, .inl ⟨rfl, _, SqL.of eb7⟩, _, rfl, pb, _, _, rfl, rfl, eb7, ?_, ?_⟩
        · rw [List.length_map, BeatsAt.len hbs, List.length_reverse]
          exact sz4l (by omega)
        refine ⟨D, qs ++ [q6], _, _, rfl, same_mut (s5.trans s67) nb0, ?_, nDb, ?_, ?_, ?_, ?_⟩
        · rw [upd_ne nDb]
          exact eD
        · rw [upd_same, List.map_append]
          rfl
        · refine BeatsAt.mut eb7 (fun y => ?_) (BeatsAt.snoc (⟨ps, s7 _ _ eq6, TupsAt.loc (fun a zs e => s7 a _ e) ht6⟩ : BeatAt H7 q6 bR) (hbs.same s67))
          rcases List.mem_append.mp y with y | y
          · exact hnb y
          · exact nqb (List.mem_singleton.mp y).symm
        · intro y
          rcases List.mem_append.mp y with y | y
          · exact hnb y
          · exact nqb (List.mem_singleton.mp y).symm
        · rw [upd_ne nz.symm]
          exact s67 _ _ ez
    · rintro σ H5 ⟨pk, qs, y5, y6, rfl, s5, ek, nkb, eb, hbs, hnb, ez⟩
      rw [List.length_map, Nat.sub_self, List.drop_zero] at ek hbs
      have hcl := dpC_len (rn : Int) tc hk0 hd
      refine ⟨_, rfl, .inl ⟨rfl, _, SqL.of eb⟩, pb, _, rfl, rfl, eb, ?_⟩
      rw [← List.map_reverse]
      have hrev := BeatsAt.rev (BeatsAt.mut (ys := qs.reverse.map V.ref) eb hnb hbs)
      rw [List.reverse_reverse] at hrev
      have ek6 : upd H5 pb (.lst (qs.reverse.map V.ref)) pk = some (.lst ((dpC (rn : Int) tc hd).map V.int)) := by rw [upd_ne nkb]; exact ek
      have s6 : Same H (upd H5 pb (.lst (qs.reverse.map V.ref))) := same_mut s5 nb0
      have eb6 : upd H5 pb (.lst (qs.reverse.map V.ref)) pb = some (.lst (qs.reverse.map V.ref)) := upd_same
      generalize upd H5 pb (.lst (qs.reverse.map V.ref)) = H6 at hrev ek6 s6 eb6 ⊢
      refine ⟨_, rfl, _, rfl, pb, qs.reverse, _, rn, rfl, ok, eb6, hrev, dpB_good ok tc hd, (by rw [dpB_len]; omega), fun H7 po s7 n7 e7 => ?_⟩
      refine ⟨_, rfl, _, rfl, pk, _, _, _, rfl, rfl, SqL.of (s7 _ _ ek6), at_st hcl st4_0, (by show 2 ≤ sizeLine; decide), fun p8 n8 => ?_⟩
      exact q ok h2 _ p8 po ((s6.trans s7).trans (same_upd n8)) ((s6.trans s7).free n8) (s6.free n7) upd_same (same_upd n8 _ _ e7)
/-- bits to a number and back -/
theorem bn_acc_lt : ∀ (bs : List Int) (c : Int), Bits bs → 0 ≤ c → 0 ≤ bs.foldl (fun n b => 2 * n + b) c ∧ bs.foldl (fun n b => 2 * n + b) c < (c + 1) * 2 ^ bs.length
  | [], c, _, hc => by
    show 0 ≤ c ∧ c < (c + 1) * 1
    omega
  | b :: r, c, h, hc => by
    have hb := (bits_cons h).1
    have ih := bn_acc_lt r (2 * c + b) (bits_cons h).2 (by rcases hb with rfl | rfl <;> omega)
    refine ⟨ih.1, Int.lt_of_lt_of_le ih.2 ?_⟩
    rw [List.length_cons, Int.pow_succ, Int.mul_comm (2 ^ r.length) 2, ← Int.mul_assoc]
    exact Int.mul_le_mul_of_nonneg_right (by rcases hb with rfl | rfl <;> omega) (Int.pow_nonneg (by decide))
theorem bn_lt {bs : List Int} (h : Bits bs) : 0 ≤ bn bs ∧ bn bs < 2 ^ bs.length := by
  have := bn_acc_lt bs 0 h (Int.le_refl _)
  unfold bn
  omega
theorem bn_cons (b : Int) (r : List Int) : ∀ c : Int, r.foldl (fun n b => 2 * n + b) c = c * 2 ^ r.length + bn r := by
  induction r with
  | nil => intro c; show c = c * 1 + 0; omega
  | cons x r ih =>
    intro c
    show r.foldl _ (2 * c + x) = c * 2 ^ (r.length + 1) + r.foldl _ (2 * 0 + x)
    rw [ih, ih (2 * 0 + x), Int.pow_succ, Int.add_mul, Int.add_mul, Int.mul_comm 2 c, Int.mul_assoc, Int.mul_comm 2 (2 ^ r.length)]
    omega
theorem wr_bn : ∀ (bs : List Int), Bits bs → ∀ c : Int, wr bs.length (c * 2 ^ bs.length + bn bs) = bs
  | [], _, _ => rfl
  | b :: r, h, c => by
    have hb := (bits_cons h).1
    have hl := bn_lt (bits_cons h).2
    have e : bn (b :: r) = b * 2 ^ r.length + bn r := by
      show r.foldl _ (2 * 0 + b) = _
      rw [bn_cons b r]
      congr 1
      congr 1
      omega
    have e2 : c * 2 ^ (b :: r).length + bn (b :: r) = (2 * c + b) * 2 ^ r.length + bn r := by
      rw [e, List.length_cons, Int.pow_succ, Int.add_mul, Int.mul_comm 2 c, Int.mul_assoc, Int.mul_comm 2 (2 ^ r.length)]
      omega
    rw [e2]
    show ((2 * c + b) * 2 ^ r.length + bn r) / 2 ^ r.length % 2 :: wr r.length _ = _
    rw [wr_bn r (bits_cons h).2]
    congr 1
    have hp : (0 : Int) < 2 ^ r.length := Int.pow_pos (by decide)
    rw [Int.add_comm, Int.add_mul_ediv_right _ _ (by omega), Int.ediv_eq_zero_of_lt hl.1 hl.2]
    rcases hb with rfl | rfl <;> omega
/-! ### squares -/
theorem sq_nn (a : Int) : 0 ≤ a ^ 2 := by
  rw [Int.pow_succ, Int.pow_succ, Int.pow_zero, Int.one_mul]
  rcases Int.le_total 0 a with h | h
  · exact Int.mul_nonneg h h
  · exact Int.mul_nonneg_of_nonpos_of_nonpos h h
theorem sq_mul (a : Int) : a ^ 2 = a * a := by rw [Int.pow_succ, Int.pow_succ, Int.pow_zero, Int.one_mul]
theorem sq_le {a b : Int} (h0 : 0 ≤ a) (h : a ≤ b) : a ^ 2 ≤ b ^ 2 := by
  rw [sq_mul, sq_mul]
  exact Int.mul_le_mul h h h0 (by omega)
theorem sq_lt {a b : Int} (h0 : 0 ≤ a) (h : a < b) : a ^ 2 < b ^ 2 := by
  rw [sq_mul, sq_mul]
  exact Int.lt_of_le_of_lt (Int.mul_le_mul_of_nonneg_left (by omega) h0) (Int.mul_lt_mul_of_pos_right h (by omega))
theorem sq_inj {a b : Int} (ha : 0 ≤ a) (hb : 0 ≤ b) (h : a ^ 2 = b ^ 2) : a = b := by
  rcases Int.lt_trichotomy a b with z | z | z
  · have := sq_lt ha z
    omega
  · exact z
  · have := sq_lt hb z
    omega
theorem sq_lt_inv {a b : Int} (hb : 0 ≤ b) (h : a ^ 2 < b ^ 2) : a < b := by
  rcases Int.lt_or_le a b with z | z
  · exact z
  · have := sq_le hb z
    omega
/-! ### the nearest point of a class is the nearest one -/
/-- the parts of the beat: how far past the last point of the class -/
theorem ncl_lin {x low r : Int} (ok : okR r) : ∃ (m e : Int), 0 ≤ m ∧ m < 2 ^ (r - 1).toNat ∧ ncl x low r = [e ^ 2, m] ∧ e = apartI x (pointI (4 * m + low) r) ∧
    ∀ m' : Int, 0 ≤ m' → m' < 2 ^ (r - 1).toNat → e < apartI x (pointI (4 * m' + low) r) ∨ (e = apartI x (pointI (4 * m' + low) r) ∧ m ≤ m') := by
  have hp : ∀ m' : Int, apartI x (pointI (4 * m' + low) r) = apartI (x - pointI low r) (4 * stepI r * m') := by
    intro m'
    unfold apartI
    have e : x - pointI (4 * m' + low) r = x - pointI low r - 4 * stepI r * m' := by
      unfold pointI
      rw [Int.add_mul, Int.mul_assoc 4 m' (stepI r), Int.mul_assoc 4 (stepI r) m', Int.mul_comm m' (stepI r)]
      omega
    rw [e]
  have key : ∃ (m e : Int), 0 ≤ m ∧ m < 2 ^ (r - 1).toNat ∧ ncl x low r = [e ^ 2, m] ∧ e = apartI (x - pointI low r) (4 * stepI r * m) ∧
    ∀ m' : Int, 0 ≤ m' → m' < 2 ^ (r - 1).toNat → e < apartI (x - pointI low r) (4 * stepI r * m') ∨ (e = apartI (x - pointI low r) (4 * stepI r * m') ∧ m ≤ m') := by
    unfold ncl
    generalize x - pointI low r = y
    have hmin : ∀ a b p q : Int, 0 ≤ a → 0 ≤ b → minT [a ^ 2, p] [[b ^ 2, q]] = if b < a ∨ (b = a ∧ q < p) then [b ^ 2, q] else [a ^ 2, p] := by
      intro a b p q ha hb
      show (if lexB [b ^ 2, q] [a ^ 2, p] = true then [b ^ 2, q] else [a ^ 2, p]) = _
      have hl : lexB [b ^ 2, q] [a ^ 2, p] = decide (b < a ∨ (b = a ∧ q < p)) := by
        show (if b ^ 2 = a ^ 2 then (if q = p then false else decide (q < p)) else decide (b ^ 2 < a ^ 2)) = _
        by_cases e : b = a
        · subst e
          rw [if_pos rfl]
          by_cases e2 : q = p
          · subst e2
            rw [if_pos rfl]
            exact (decide_eq_false (by omega)).symm
          · rw [if_neg e2]
            exact decide_eq_decide.mpr ⟨fun h => .inr ⟨rfl, h⟩, fun h => by omega⟩
        · rw [if_neg (fun h => e (sq_inj hb ha h))]
          exact decide_eq_decide.mpr ⟨fun h => .inl (sq_lt_inv ha h), fun h => sq_lt hb (by omega)⟩
      rw [hl]
      by_cases h : b < a ∨ (b = a ∧ q < p)
      · rw [if_pos h, if_pos (decide_eq_true h)]
      · rw [if_neg h, if_neg (fun z => h (of_decide_eq_true z))]
    rcases pts_step ok with ⟨rfl, _, e⟩ | ⟨rfl, _, e⟩ | ⟨rfl, _, e⟩ | ⟨rfl, _, e⟩ <;> rw [e] <;> rw [hmin _ _ _ _ (by omega) (by omega)] <;> split
    all_goals first
      | refine ⟨_, _, ?_, ?_, rfl, ?_, fun m' h0 h1 => ?_⟩
    all_goals simp only [apartI, fold] at *
    all_goals simp at *
    all_goals (try split)
    all_goals (try split)
    all_goals omega
  obtain ⟨m, e, h1, h2, h3, h4, h5⟩ := key
  refine ⟨m, e, h1, h2, h3, by rw [hp]; exact h4, fun m' a b => ?_⟩
  rw [hp]
  exact h5 m' a b
/-! ### rows of beats, and the rows of their bits -/
def GoodBs (r : Nat) (bs : List Bt) : Prop := ∀ b ∈ bs, isB b.1 ∧ 0 ≤ b.2 ∧ b.2 < 2 ^ (r - 1)
def flatB (r : Nat) : List Bt → List Int
  | [] => []
  | b :: bs => b.1 :: (wr (r - 1) b.2 ++ flatB r bs)
theorem flatB_len {r : Nat} (hr : 0 < r) : ∀ bs : List Bt, (flatB r bs).length = r * bs.length
  | [] => by rw [List.length_nil, Nat.mul_zero]; rfl
  | b :: bs => by
    show (_ :: (wr (r - 1) _ ++ flatB r bs)).length = _
    rw [List.length_cons, List.length_append, wr_len, flatB_len hr bs, List.length_cons, Nat.mul_add]
    omega
theorem flatB_bits {r : Nat} : ∀ {bs : List Bt}, GoodBs r bs → Bits (flatB r bs)
  | [], _ => fun z h => nomatch h
  | b :: bs, h => fun z hz => by
    rcases List.mem_cons.mp hz with rfl | hz
    · exact (h b (.head _)).1
    rcases List.mem_append.mp hz with hz | hz
    · exact wr_bits _ _ z hz
    · exact flatB_bits (bs := bs) (fun c hc => h c (.tail _ hc)) z hz
theorem bts_succ (r n : Nat) (row : List Int) : bts r (n + 1) row = bt r row 0 :: bts r n (row.drop r) := by
  unfold bts
  rw [List.range_succ_eq_map, List.map_cons, List.map_map]
  congr 1
  refine List.map_congr_left fun i _ => ?_
  show bt r row (i + 1) = bt r (row.drop r) i
  unfold bt
  rw [List.getD_eq_getElem?_getD, List.getD_eq_getElem?_getD, List.getElem?_drop, List.drop_drop, Nat.add_mul, Nat.one_mul, Nat.add_comm (i * r) r]
  congr 4
theorem bts_flat {r : Nat} (hr : 0 < r) : ∀ {bs : List Bt}, GoodBs r bs → bts r bs.length (flatB r bs) = bs
  | [], _ => rfl
  | b :: bs, h => by
    have hd : (flatB r (b :: bs)).drop r = flatB r bs := by
      show (b.1 :: (wr (r - 1) b.2 ++ flatB r bs)).drop r = _
      obtain ⟨k, rfl⟩ : ∃ k, r = k + 1 := ⟨r - 1, by omega⟩
      rw [List.drop_succ_cons]
      show (wr k b.2 ++ _).drop k = _
      rw [List.drop_left' (wr_len k b.2)]
    have hb : bt r (flatB r (b :: bs)) 0 = b := by
      unfold bt
      rw [Nat.zero_mul]
      show (b.1, bn ((wr (r - 1) b.2 ++ flatB r bs).take (r - 1))) = b
      rw [List.take_left' (wr_len _ _), bn_wr (h b (.head _)).2.1 (h b (.head _)).2.2]
    rw [List.length_cons, bts_succ, hd, hb, bts_flat hr (fun c hc => h c (.tail _ hc))]
theorem flat_bts {r : Nat} (hr : 0 < r) : ∀ (n : Nat) {row : List Int}, Bits row → row.length = r * n → flatB r (bts r n row) = row
  | 0, row, _, hl => by
    rw [Nat.mul_zero] at hl
    rw [List.length_eq_zero_iff.mp hl]
    rfl
  | n + 1, row, hB, hl => by
    rw [bts_succ]
    show row.getD (0 * r) 0 :: (wr (r - 1) (bn ((row.drop (0 * r + 1)).take (r - 1))) ++ flatB r (bts r n (row.drop r))) = row
    rw [flat_bts hr n (fun z hz => hB z (List.mem_of_mem_drop hz)) (by rw [List.length_drop, hl, Nat.mul_add]; omega), Nat.zero_mul, Nat.zero_add]
    cases row with
    | nil => rw [Nat.mul_add] at hl; simp at hl; omega
    | cons a rest =>
      obtain ⟨k, rfl⟩ : ∃ k, r = k + 1 := ⟨r - 1, by omega⟩
      show a :: (wr k (bn ((rest.drop 0).take k)) ++ rest.drop k) = _
      rw [List.drop_zero]
      congr 1
      have hk : (rest.take k).length = k := by
        rw [List.length_take]
        have : k + 1 ≤ (a :: rest).length := by rw [hl, Nat.mul_add]; omega
        rw [List.length_cons] at this
        omega
      have := wr_bn (rest.take k) (fun z hz => hB z (.tail _ (List.mem_of_mem_take hz))) 0
      rw [hk, Int.zero_mul, Int.zero_add] at this
      rw [this, List.take_append_drop]
theorem bts_good {r n : Nat} {row : List Int} (hr : 0 < r) (hB : Bits row) : GoodBs r (bts r n row) := fun b hb => by
  obtain ⟨i, _, rfl⟩ := List.mem_map.mp hb
  refine ⟨bt_bit hB i, ?_⟩
  have h := bn_lt (bs := (row.drop (i * r + 1)).take (r - 1)) (fun z hz => hB z (List.mem_of_mem_drop (List.mem_of_mem_take hz)))
  refine ⟨h.1, Int.lt_of_lt_of_le h.2 ?_⟩
  have hl : ((row.drop (i * r + 1)).take (r - 1)).length ≤ r - 1 := by rw [List.length_take]; omega
  have := Nat.pow_le_pow_right (n := 2) (by decide) hl
  have e : ∀ k : Nat, ((2 ^ k : Nat) : Int) = (2 : Int) ^ k := fun k => Int.natCast_pow 2 k
  rw [← e, ← e]
  exact_mod_cast this
/-! ### the order of rows -/
theorem lex_irr : ∀ xs, lexB xs xs = false
  | [] => rfl
  | x :: xs => by
    show (if x = x then lexB xs xs else _) = false
    rw [if_pos rfl]
    exact lex_irr xs
theorem lex_asym : ∀ xs ys, lexB xs ys = true → lexB ys xs = false
  | [], [], _ => rfl
  | [], _ :: _, _ => rfl
  | _ :: _, [], h => nomatch h
  | x :: xs, y :: ys, h => by
    have h : (if x = y then lexB xs ys else decide (x < y)) = true := h
    show (if y = x then lexB ys xs else decide (y < x)) = false
    by_cases e : x = y
    · rw [if_pos e] at h
      rw [if_pos e.symm]
      exact lex_asym xs ys h
    · rw [if_neg e] at h
      have := of_decide_eq_true h
      rw [if_neg (fun z => e z.symm)]
      exact decide_eq_false (by omega)
theorem lex_pre : ∀ (as xs ys : List Int), lexB (as ++ xs) (as ++ ys) = lexB xs ys
  | [], _, _ => rfl
  | a :: as, xs, ys => by
    show (if a = a then lexB (as ++ xs) (as ++ ys) else _) = _
    rw [if_pos rfl]
    exact lex_pre as xs ys
theorem lex_app : ∀ {as bs : List Int} (xs ys : List Int), as.length = bs.length → lexB as bs = true → lexB (as ++ xs) (bs ++ ys) = true
  | [], [], _, _, _, h => nomatch h
  | [], _ :: _, _, _, h, _ => nomatch h
  | _ :: _, [], _, _, h, _ => nomatch h
  | a :: as, b :: bs, xs, ys, hl, h => by
    have h : (if a = b then lexB as bs else decide (a < b)) = true := h
    show (if a = b then lexB (as ++ xs) (bs ++ ys) else decide (a < b)) = true
    by_cases e : a = b
    · rw [if_pos e] at h ⊢
      exact lex_app xs ys (Nat.succ.inj hl) h
    · rw [if_neg e] at h ⊢
      exact h
theorem wr_lex {r : Nat} {a b : Int} (ok : okR (r : Int)) (a0 : 0 ≤ a) (b1 : b < 2 ^ (r - 1)) (h : a < b) : lexB (wr (r - 1) a) (wr (r - 1) b) = true := by
  obtain ⟨r1, r4⟩ := id ok
  have hd : ∀ n : Nat, n < 4 → ∀ x : Nat, x < 8 → ∀ y : Nat, y < 8 → y < 2 ^ n → x < y → lexB (wr n (x : Int)) (wr n (y : Int)) = true := by decide +kernel
  have hy : b.toNat < 2 ^ (r - 1) := by
    have e : ((2 ^ (r - 1) : Nat) : Int) = (2 : Int) ^ (r - 1) := Int.natCast_pow 2 (r - 1)
    rw [← e] at b1
    omega
  have h8 : 2 ^ (r - 1) ≤ 8 := by
    have : r - 1 ≤ 3 := by omega
    exact Nat.pow_le_pow_right (n := 2) (by decide) this
  have := hd (r - 1) (by omega) a.toNat (by omega) b.toNat (by omega) hy (by omega)
  rwa [Int.toNat_of_nonneg a0, Int.toNat_of_nonneg (by omega)] at this
/-! ### the best way is the best one -/
/-- what a row of beats costs, from a state on -/
def costT (r : Int) (tc : List Int) : Int → List Int → List Bt → Int
  | s, h :: hs, b :: bs => sqA h (4 * b.2 + clS s b.1) r + costT r tc (mvS s b.1) hs bs
  | s, _, _ => tc.getD s.toNat 0
def alB : Int → List (List (List Int)) → List Bt
  | _, [] => []
  | s, b :: bs => ((b.getD s.toNat []).getD 1 0, (b.getD s.toNat []).getD 2 0) :: alB (mvS s ((b.getD s.toNat []).getD 1 0)) bs
theorem along_al (r : Nat) : ∀ (bs : List (List (List Int))) (s : Int), along r s bs = flatB r (alB s bs)
  | [], _ => rfl
  | b :: bs, s => by
    show _ :: (wr (r - 1) _ ++ along r _ bs) = _ :: (wr (r - 1) _ ++ flatB r _)
    rw [along_al r bs]
theorem alB_len : ∀ (bs : List (List (List Int))) (s : Int), (alB s bs).length = bs.length
  | [], _ => rfl
  | b :: bs, s => congrArg (· + 1) (alB_len bs _)
theorem best_st {x : Int} {cs : List Int} {r s : Int} (h : St4 s) : (bestR x cs r).getD s.toNat [] = bestT x cs r s := by
  obtain ⟨n, rfl, hn⟩ := st4_nat h
  rw [Int.toNat_natCast, List.getD_eq_getElem?_getD, bestR_at hn]
  rfl
theorem dpC_st {r : Int} {tc : List Int} {h : Int} {hs : List Int} {s : Int} (hst : St4 s) : (dpC r tc (h :: hs)).getD s.toNat 0 = (bestT h (dpC r tc hs) r s).getD 0 0 := by
  obtain ⟨n, rfl, hn⟩ := st4_nat hst
  show (costsOf (bestR h (dpC r tc hs) r)).getD _ 0 = _
  unfold costsOf
  rw [Int.toNat_natCast, List.getD_eq_getElem?_getD, List.getElem?_map, bestR_at hn]
  rfl
/-- the better of both first bits: cost, then bit -/
theorem best_of {x : Int} {cs : List Int} {r s : Int} : ∃ f : Int, isB f ∧ bestT x cs r s = way x cs r s f ∧ ∀ g, isB g → (way x cs r s f).getD 0 0 < (way x cs r s g).getD 0 0 ∨ ((way x cs r s f).getD 0 0 = (way x cs r s g).getD 0 0 ∧ f ≤ g) := by
  have hb : bestT x cs r s = if lexB (way x cs r s 1) (way x cs r s 0) = true then way x cs r s 1 else way x cs r s 0 := rfl
  have hl : lexB (way x cs r s 1) (way x cs r s 0) = decide ((way x cs r s 1).getD 0 0 < (way x cs r s 0).getD 0 0) := by
    show (if (way x cs r s 1).getD 0 0 = (way x cs r s 0).getD 0 0 then (if (1 : Int) = 0 then _ else decide ((1 : Int) < 0)) else decide ((way x cs r s 1).getD 0 0 < (way x cs r s 0).getD 0 0)) = _
    split
    · rw [if_neg (by decide)]
      exact (decide_eq_false (by omega)).symm
    · rfl
  rw [hl] at hb
  by_cases h : (way x cs r s 1).getD 0 0 < (way x cs r s 0).getD 0 0
  · rw [if_pos (decide_eq_true h)] at hb
    refine ⟨1, .inr rfl, hb, fun g hg => ?_⟩
    rcases hg with rfl | rfl
    · exact .inl h
    · exact .inr ⟨rfl, Int.le_refl _⟩
  · rw [if_neg (fun z => h (of_decide_eq_true z))] at hb
    refine ⟨0, .inl rfl, hb, fun g hg => ?_⟩
    rcases hg with rfl | rfl
    · exact .inr ⟨rfl, Int.le_refl _⟩
    · omega
theorem dp_opt {r : Nat} (ok : okR (r : Int)) (tc : List Int) : ∀ (hs : List Int) (s : Int), St4 s →
    GoodBs r (alB s (dpB (r : Int) tc hs)) ∧ costT (r : Int) tc s hs (alB s (dpB (r : Int) tc hs)) = (dpC (r : Int) tc hs).getD s.toNat 0 ∧
    ∀ bs, GoodBs r bs → bs.length = hs.length → (dpC (r : Int) tc hs).getD s.toNat 0 < costT (r : Int) tc s hs bs ∨
      ((dpC (r : Int) tc hs).getD s.toNat 0 = costT (r : Int) tc s hs bs ∧ (bs = alB s (dpB (r : Int) tc hs) ∨ lexB (flatB r (alB s (dpB (r : Int) tc hs))) (flatB r bs) = true))
  | [], s, hst => by
    refine ⟨fun b hb => (nomatch hb), rfl, fun bs hg hl => .inr ⟨?_, .inl (List.length_eq_zero_iff.mp hl)⟩⟩
    rw [List.length_eq_zero_iff.mp hl]
    rfl
  | h :: hs, s, hst => by
    have er : ((r : Int) - 1).toNat = r - 1 := by omega
    obtain ⟨f, hf, eb, hbest⟩ := best_of (x := h) (cs := dpC (r : Int) tc hs) (r := (r : Int)) (s := s)
    obtain ⟨m, e, m0, m1, en, ee, _⟩ := ncl_lin (x := h) (low := clS s f) ok
    rw [er] at m1
    have hB : (bestR h (dpC (r : Int) tc hs) (r : Int)).getD s.toNat [] = way h (dpC (r : Int) tc hs) (r : Int) s f := by rw [best_st hst, eb]
    have hw1 : (way h (dpC (r : Int) tc hs) (r : Int) s f).getD 1 0 = f := rfl
    have hw2 : (way h (dpC (r : Int) tc hs) (r : Int) s f).getD 2 0 = m := by show (ncl h (clS s f) (r : Int)).getD 1 0 = m; rw [en]; rfl
    have hw0 : (way h (dpC (r : Int) tc hs) (r : Int) s f).getD 0 0 = e ^ 2 + (dpC (r : Int) tc hs).getD (mvS s f).toNat 0 := by show (ncl h (clS s f) (r : Int)).getD 0 0 + _ = _; rw [en]; rfl
    have hal : alB s (dpB (r : Int) tc (h :: hs)) = (f, m) :: alB (mvS s f) (dpB (r : Int) tc hs) := by
      show ((_ : Int), (_ : Int)) :: alB _ _ = _
      rw [hB, hw1, hw2]
    have hdc : (dpC (r : Int) tc (h :: hs)).getD s.toNat 0 = e ^ 2 + (dpC (r : Int) tc hs).getD (mvS s f).toNat 0 := by rw [dpC_st hst, eb, hw0]
    obtain ⟨g1, g2, g3⟩ := dp_opt ok tc hs (mvS s f) (mv_st hf)
    rw [hal, hdc]
    refine ⟨fun b hb => ?_, ?_, fun bs hg hl => ?_⟩
    · rcases List.mem_cons.mp hb with rfl | hb
      · exact ⟨hf, m0, m1⟩
      · exact g1 b hb
    · show sqA h (4 * m + clS s f) (r : Int) + costT (r : Int) tc (mvS s f) hs _ = _
      rw [g2]
      unfold sqA
      rw [← ee]
    · obtain ⟨b, bs, rfl⟩ : ∃ b t, bs = b :: t := by
        cases bs with
        | nil => cases hl
        | cons b t => exact ⟨b, t, rfl⟩
      have hl : bs.length = hs.length := Nat.succ.inj hl
      have hb := hg b (.head _)
      have hg' : GoodBs r bs := fun c hc => hg c (.tail _ hc)
      show _ < sqA h (4 * b.2 + clS s b.1) (r : Int) + costT (r : Int) tc (mvS s b.1) hs bs ∨ (_ = sqA h (4 * b.2 + clS s b.1) (r : Int) + costT (r : Int) tc (mvS s b.1) hs bs ∧ _)
      obtain ⟨m', e', m0', m1', en', ee', hn'⟩ := ncl_lin (x := h) (low := clS s b.1) ok
      have hw0' : (way h (dpC (r : Int) tc hs) (r : Int) s b.1).getD 0 0 = e' ^ 2 + (dpC (r : Int) tc hs).getD (mvS s b.1).toNat 0 := by show (ncl h (clS s b.1) (r : Int)).getD 0 0 + _ = _; rw [en']; rfl
      have hc := hbest b.1 hb.1
      rw [hw0, hw0'] at hc
      have hn := hn' b.2 hb.2.1 (by rw [er]; exact hb.2.2)
      have he0 : 0 ≤ e' := by rw [ee']; exact (apart_le _ _).1
      have hsq : e' ^ 2 < sqA h (4 * b.2 + clS s b.1) (r : Int) ∨ (e' ^ 2 = sqA h (4 * b.2 + clS s b.1) (r : Int) ∧ m' ≤ b.2) := by
        unfold sqA
        rcases hn with hn | ⟨hn, hm⟩
        · exact .inl (sq_lt he0 hn)
        · exact .inr ⟨by rw [hn], hm⟩
      obtain ⟨k1, k2, k3⟩ := dp_opt ok tc hs (mvS s b.1) (mv_st hb.1)
      have hk := k3 bs hg' hl
      have hkle : (dpC (r : Int) tc hs).getD (mvS s b.1).toNat 0 ≤ costT (r : Int) tc (mvS s b.1) hs bs := by
        rcases hk with hk | ⟨hk, _⟩
        · omega
        · omega
      by_cases hlt : e ^ 2 + (dpC (r : Int) tc hs).getD (mvS s f).toNat 0 < sqA h (4 * b.2 + clS s b.1) (r : Int) + costT (r : Int) tc (mvS s b.1) hs bs
      · exact .inl hlt
      have hc2 : e ^ 2 + (dpC (r : Int) tc hs).getD (mvS s f).toNat 0 = e' ^ 2 + (dpC (r : Int) tc hs).getD (mvS s b.1).toNat 0 ∧ f ≤ b.1 := by
        rcases hc with hc | hc
        · exfalso
          rcases hsq with z | z <;> omega
        · exact hc
      have hs2 : e' ^ 2 = sqA h (4 * b.2 + clS s b.1) (r : Int) ∧ m' ≤ b.2 := by
        rcases hsq with z | z
        · exfalso
          omega
        · exact z
      have hk2 : (dpC (r : Int) tc hs).getD (mvS s b.1).toNat 0 = costT (r : Int) tc (mvS s b.1) hs bs := by omega
      have hk3 : bs = alB (mvS s b.1) (dpB (r : Int) tc hs) ∨ lexB (flatB r (alB (mvS s b.1) (dpB (r : Int) tc hs))) (flatB r bs) = true := by
        rcases hk with hk | hk
        · exfalso
          omega
        · exact hk.2
      refine .inr ⟨by omega, ?_⟩
      show _ ∨ lexB (f :: (wr (r - 1) m ++ flatB r _)) (b.1 :: (wr (r - 1) b.2 ++ flatB r bs)) = true
      rcases Int.lt_or_eq_of_le hc2.2 with hfb | hfb
      · right
        show (if f = b.1 then _ else decide (f < b.1)) = true
        rw [if_neg (by omega)]
        exact decide_eq_true hfb
      · rw [← hfb] at en' hk3
        have hmm : m' = m := by
          rw [en] at en'
          have h1 := congrArg (fun l : List Int => l.getD 1 0) en'
          exact h1.symm
        rw [hmm] at hs2
        have hlx : ∀ xs ys : List Int, lexB (f :: xs) (b.1 :: ys) = lexB xs ys := fun xs ys => by
          show (if f = b.1 then lexB xs ys else _) = _
          rw [if_pos hfb]
        rw [hlx]
        rcases Int.lt_or_eq_of_le hs2.2 with hmb | hmb
        · right
          exact lex_app _ _ (by rw [wr_len, wr_len]) (wr_lex ok m0 hb.2.2 hmb)
        · rw [← hmb, lex_pre]
          rcases hk3 with z | z
          · left
            rw [z, hfb, hmb]
          · right
            exact z
/-! ### what a row costs -/
def costL (r : Nat) (hs row : List Int) : Int := ((hs.zip (codeL r row)).map fun p => sqA p.1 p.2 (r : Int)).sum
def costZ (r : Int) (s : Int) (hs : List Int) (bs : List Bt) : Int := ((hs.zip (codeB s bs)).map fun p => sqA p.1 p.2 r).sum
theorem costZ_cons (r s h : Int) (hs : List Int) (b : Bt) (bs : List Bt) : costZ r s (h :: hs) (b :: bs) = sqA h (4 * b.2 + clS s b.1) r + costZ r (mvS s b.1) hs bs := by
  show ((_ :: _ : List Int)).sum = _
  rw [List.sum_cons]
  rfl
theorem tail_two (r : Int) (x y s : Int) (h : St4 s) : (tailC r [x, y]).getD s.toNat 0 = costZ r s [x, y] tl2 := by
  rw [show tl2 = [((0 : Int), (0 : Int)), (0, 0)] from rfl, costZ_cons, costZ_cons]
  have h2 : mvS s 0 = 0 ∨ mvS s 0 = 2 := by unfold mvS; omega
  obtain ⟨n, rfl, hn⟩ := st4_nat h
  have e1 : (tailC r [x, y]).getD n 0 = sqA x (clS (n : Int) 0) r + (tailC r [y]).getD (mvS (n : Int) 0).toNat 0 := by
    show ((List.range 4).map fun s => sqA x (clS (s : Nat) 0) r + (tailC r [y]).getD (mvS (s : Nat) 0).toNat 0).getD n 0 = _
    rw [List.getD_eq_getElem?_getD, List.getElem?_map, List.getElem?_range hn]
    rfl
  have e2 : ∀ k : Nat, k < 4 → (tailC r [y]).getD k 0 = sqA y (clS (k : Int) 0) r + 0 := fun k hk => by
    show ((List.range 4).map fun s => sqA y (clS (s : Nat) 0) r + ([0, 0, 0, 0] : List Int).getD (mvS (s : Nat) 0).toNat 0).getD k 0 = _
    rw [List.getD_eq_getElem?_getD, List.getElem?_map, List.getElem?_range hk]
    show sqA y (clS (k : Int) 0) r + ([0, 0, 0, 0] : List Int).getD (mvS (k : Int) 0).toNat 0 = _
    have : ([0, 0, 0, 0] : List Int).getD (mvS (k : Int) 0).toNat 0 = 0 := by
      have : mvS (k : Int) 0 = 0 ∨ mvS (k : Int) 0 = 2 := by unfold mvS; omega
      rcases this with e | e <;> rw [e] <;> rfl
    rw [this]
  rw [Int.toNat_natCast, e1]
  have hm := mv_st (s := (n : Int)) (f := 0) (.inl rfl)
  obtain ⟨k, hk, hk4⟩ := st4_nat hm
  rw [hk, Int.toNat_natCast, e2 k hk4]
  show _ = sqA x (4 * 0 + clS (n : Int) 0) r + (sqA y (4 * 0 + clS (k : Int) 0) r + 0)
  rw [Int.mul_zero, Int.zero_add, Int.zero_add]
theorem cost_split (r : Int) (x y : Int) : ∀ (hs : List Int) (bs : List Bt) (s : Int), St4 s → BitsB bs → bs.length = hs.length → costZ r s (hs ++ [x, y]) (bs ++ tl2) = costT r (tailC r [x, y]) s hs bs
  | [], bs, s, h, _, hl => by
    rw [List.length_eq_zero_iff.mp hl]
    exact (tail_two r x y s h).symm
  | h :: hs, [], _, _, _, hl => nomatch hl
  | h :: hs, b :: bs, s, _, hb, hl => by
    rw [List.cons_append, List.cons_append, costZ_cons, cost_split r x y hs bs _ (mv_st (hb b (.head _))) (fun c hc => hb c (.tail _ hc)) (Nat.succ.inj hl)]
    rfl
theorem two_last {hs : List Int} (h : 2 ≤ hs.length) : ∃ x y, hs.drop (hs.length - 2) = [x, y] ∧ hs = hs.take (hs.length - 2) ++ [x, y] := by
  have hl : (hs.drop (hs.length - 2)).length = 2 := by rw [List.length_drop]; omega
  match e : hs.drop (hs.length - 2), hl with
  | [x, y], _ => exact ⟨x, y, rfl, by rw [← e, List.take_append_drop]⟩
/-- a row, what was heard, and what it costs -/
theorem costL_T {r n : Nat} {hs row : List Int} {x y : Int} (ok : okR (r : Int)) (hB : Bits row) (hl : row.length = r * n) (hn : hs.length = n) : costL r (hs ++ [x, y]) row = costT (r : Int) (tailC (r : Int) [x, y]) 0 hs (bts r n row) := by
  obtain ⟨r1, _⟩ := id ok
  rw [← cost_split (r : Int) x y hs (bts r n row) 0 st4_0 (bts_bits hB) (by rw [bts_len, hn])]
  unfold costL codeL costZ
  rw [rowB_of (by omega) hl]
/-- heard_path's row is the least one of the least cost -/
theorem hp_opt {r : Nat} {hs : List Int} (ok : okR (r : Int)) (h2 : 2 ≤ hs.length) : Bits (hpRow r hs) ∧ (hpRow r hs).length = r * (hs.length - 2) ∧ costL r hs (hpRow r hs) = hpCost r hs ∧
    ∀ row, Bits row → row.length = r * (hs.length - 2) → hpCost r hs < costL r hs row ∨ (hpCost r hs = costL r hs row ∧ (row = hpRow r hs ∨ lexB (hpRow r hs) row = true)) := by
  obtain ⟨r1, _⟩ := id ok
  have hr : 0 < r := by omega
  obtain ⟨x, y, e1, e2⟩ := two_last h2
  have hn : (hs.take (hs.length - 2)).length = hs.length - 2 := by rw [List.length_take]; omega
  obtain ⟨g1, g2, g3⟩ := dp_opt ok (tailC (r : Int) [x, y]) (hs.take (hs.length - 2)) 0 st4_0
  have hrow : hpRow r hs = flatB r (alB 0 (dpB (r : Int) (tailC (r : Int) [x, y]) (hs.take (hs.length - 2)))) := by
    unfold hpRow
    rw [e1, along_al]
  have hcost : hpCost r hs = (dpC (r : Int) (tailC (r : Int) [x, y]) (hs.take (hs.length - 2))).getD 0 0 := by
    unfold hpCost
    rw [e1]
  have hal : (alB 0 (dpB (r : Int) (tailC (r : Int) [x, y]) (hs.take (hs.length - 2)))).length = hs.length - 2 := by rw [alB_len, dpB_len, hn]
  have hbits : Bits (hpRow r hs) := by rw [hrow]; exact flatB_bits g1
  have hlen : (hpRow r hs).length = r * (hs.length - 2) := by rw [hrow, flatB_len hr, hal]
  have hcl : ∀ row, Bits row → row.length = r * (hs.length - 2) → costL r hs row = costT (r : Int) (tailC (r : Int) [x, y]) 0 (hs.take (hs.length - 2)) (bts r (hs.length - 2) row) := fun row hB hl => by
    have := costL_T (x := x) (y := y) ok hB hl hn
    rw [← e2] at this
    exact this
  have hbt : bts r (hs.length - 2) (hpRow r hs) = alB 0 (dpB (r : Int) (tailC (r : Int) [x, y]) (hs.take (hs.length - 2))) := by
    have := bts_flat hr g1
    rw [hal] at this
    rw [hrow]
    exact this
  refine ⟨hbits, hlen, ?_, fun row hB hl => ?_⟩
  · rw [hcl _ hbits hlen, hbt, hcost]
    exact g2
  · have h3 := g3 (bts r (hs.length - 2) row) (bts_good hr hB) (by rw [bts_len, hn])
    rw [flat_bts hr _ hB hl, ← hrow, ← hbt] at h3
    rw [hcl _ hB hl, hcost]
    rcases h3 with h3 | ⟨h3, h4⟩
    · exact .inl h3
    · refine .inr ⟨h3, ?_⟩
      rcases h4 with h4 | h4
      · left
        have := congrArg (flatB r) h4
        rwa [flat_bts hr _ hB hl, flat_bts hr _ hbits hlen] at this
      · exact .inr h4
/-! ### how far rows are from one another -/
theorem ap_tri (a b c : Int) : apartI a c ≤ apartI b a + apartI b c := by
  unfold apartI fold
  split <;> split <;> split <;> omega
theorem sq_two (x y : Int) : (x + y) ^ 2 ≤ 2 * x ^ 2 + 2 * y ^ 2 := by
  have h := sq_nn (x - y)
  rw [sq_mul] at h ⊢
  rw [sq_mul, sq_mul]
  rw [Int.sub_mul, Int.mul_sub, Int.mul_sub, Int.mul_comm y x] at h
  rw [Int.add_mul, Int.mul_add, Int.mul_add, Int.mul_comm y x]
  omega
theorem ap_two (a b c : Int) : apartI a c ^ 2 ≤ 2 * apartI b a ^ 2 + 2 * apartI b c ^ 2 :=
  Int.le_trans (sq_le (apart_le _ _).1 (ap_tri a b c)) (sq_two _ _)
def dZ (r : Int) (cs ds : List Int) : Int := ((cs.zip ds).map fun p => sqA (pointI p.1 r) p.2 r).sum
theorem dZ_cons (r c d : Int) (cs ds : List Int) : dZ r (c :: cs) (d :: ds) = sqA (pointI c r) d r + dZ r cs ds := by
  show ((_ :: _ : List Int)).sum = _
  rw [List.sum_cons]
  rfl
def zS (r : Int) (hs cs : List Int) : Int := ((hs.zip cs).map fun p => sqA p.1 p.2 r).sum
theorem zS_cons (r h c : Int) (hs cs : List Int) : zS r (h :: hs) (c :: cs) = sqA h c r + zS r hs cs := by
  show ((_ :: _ : List Int)).sum = _
  rw [List.sum_cons]
  rfl
theorem dZ_le (r : Int) : ∀ (hs cs ds : List Int), cs.length = hs.length → ds.length = hs.length → dZ r cs ds ≤ 2 * zS r hs cs + 2 * zS r hs ds
  | [], cs, ds, h1, h2 => by
    rw [List.length_eq_zero_iff.mp h1, List.length_eq_zero_iff.mp h2]
    show (0 : Int) ≤ 2 * 0 + 2 * 0
    decide
  | h :: hs, c :: cs, d :: ds, h1, h2 => by
    rw [dZ_cons, zS_cons, zS_cons]
    have h3 := dZ_le r hs cs ds (Nat.succ.inj h1) (Nat.succ.inj h2)
    have h4 := ap_two (pointI c r) h (pointI d r)
    unfold sqA
    omega
  | h :: hs, [], _, h1, _ => nomatch h1
  | h :: hs, _ :: _, [], _, h2 => nomatch h2
theorem sq_sc (k s : Int) : (k * s) ^ 2 = k * k * s ^ 2 := by
  rw [sq_mul, sq_mul, Int.mul_assoc k k, Int.mul_assoc k s, Int.mul_left_comm s k s]
theorem ap_cls {r a b : Int} (ok : okR r) (a0 : 0 ≤ a) (a1 : a < ptsI r) (b0 : 0 ≤ b) (b1 : b < ptsI r) :
    ((a - b) % 4 = 2 → 4 * stepI r ^ 2 ≤ sqA (pointI a r) b r) ∧ ((a - b) % 2 = 1 → stepI r ^ 2 ≤ sqA (pointI a r) b r) ∧ (a ≠ b → (a - b) % 4 = 0 → 16 * stepI r ^ 2 ≤ sqA (pointI a r) b r) := by
  have key : ((a - b) % 4 = 2 → 2 * stepI r ≤ apartI (pointI a r) (pointI b r)) ∧ ((a - b) % 2 = 1 → 1 * stepI r ≤ apartI (pointI a r) (pointI b r)) ∧ (a ≠ b → (a - b) % 4 = 0 → 4 * stepI r ≤ apartI (pointI a r) (pointI b r)) := by
    rcases pts_step ok with ⟨rfl, e1, e2⟩ | ⟨rfl, e1, e2⟩ | ⟨rfl, e1, e2⟩ | ⟨rfl, e1, e2⟩ <;> rw [e1] at a1 b1 <;> simp only [pointI, e2, apartI, fold] <;> refine ⟨fun h => ?_, fun h => ?_, fun h h2 => ?_⟩ <;> split <;> omega
  have hs : 0 ≤ stepI r := by rcases pts_step ok with ⟨_, _, e⟩ | ⟨_, _, e⟩ | ⟨_, _, e⟩ | ⟨_, _, e⟩ <;> rw [e] <;> decide
  unfold sqA
  refine ⟨fun h => ?_, fun h => ?_, fun h h2 => ?_⟩
  · have := sq_le (by omega) (key.1 h)
    rw [sq_sc] at this
    omega
  · have := sq_le (by omega) (key.2.1 h)
    rw [sq_sc] at this
    omega
  · have := sq_le (by omega) (key.2.2 h h2)
    rw [sq_sc] at this
    omega
/-- what is still to come, at least, where two ways stand in these states -/
def vS (s t : Int) : Int := if s % 2 = t % 2 then (if s = t then 0 else 4) else 5
theorem beat_num {r : Nat} {s : Int} {b : Bt} (ok : okR (r : Int)) (hb : isB b.1 ∧ 0 ≤ b.2 ∧ b.2 < 2 ^ (r - 1)) : 0 ≤ 4 * b.2 + clS s b.1 ∧ 4 * b.2 + clS s b.1 < ptsI (r : Int) := by
  have h := cl_st s b.1
  obtain ⟨c0, c1⟩ := h
  have er : ((r : Int) - 1).toNat = r - 1 := by omega
  unfold ptsI
  rw [er]
  have := hb.2.2
  generalize (2 : Int) ^ (r - 1) = x at this ⊢
  omega
theorem step_v {r : Nat} {s t : Int} {b c : Bt} (ok : okR (r : Int)) (hs : St4 s) (ht : St4 t) (hb : isB b.1 ∧ 0 ≤ b.2 ∧ b.2 < 2 ^ (r - 1)) (hc : isB c.1 ∧ 0 ≤ c.2 ∧ c.2 < 2 ^ (r - 1)) :
    vS s t * stepI (r : Int) ^ 2 ≤ sqA (pointI (4 * b.2 + clS s b.1) (r : Int)) (4 * c.2 + clS t c.1) (r : Int) + vS (mvS s b.1) (mvS t c.1) * stepI (r : Int) ^ 2 := by
  obtain ⟨b0, b1⟩ := beat_num (s := s) ok hb
  obtain ⟨c0, c1⟩ := beat_num (s := t) ok hc
  obtain ⟨k1, k2, k3⟩ := ap_cls ok b0 b1 c0 c1
  have h0 : 0 ≤ sqA (pointI (4 * b.2 + clS s b.1) (r : Int)) (4 * c.2 + clS t c.1) (r : Int) := sq_nn _
  have hS := sq_nn (stepI (r : Int))
  generalize stepI (r : Int) ^ 2 = S at k1 k2 k3 hS ⊢
  generalize sqA (pointI (4 * b.2 + clS s b.1) (r : Int)) (4 * c.2 + clS t c.1) (r : Int) = Z at k1 k2 k3 h0 ⊢
  clear b0 b1 c0 c1 k3
  have hcase : vS s t = 0 ∨ (vS s t = 4 ∧ ((4 * b.2 + clS s b.1 - (4 * c.2 + clS t c.1)) % 4 = 2 ∨ vS (mvS s b.1) (mvS t c.1) = 5)) ∨ (vS s t = 5 ∧ (4 * b.2 + clS s b.1 - (4 * c.2 + clS t c.1)) % 2 = 1 ∧ 4 ≤ vS (mvS s b.1) (mvS t c.1)) := by
    obtain ⟨fb, _⟩ := hb
    obtain ⟨fc, _⟩ := hc
    unfold vS clS mvS
    rcases fb with e | e <;> rcases fc with e' | e' <;> rw [e, e'] <;> rcases st4_cases hs with rfl | rfl | rfl | rfl <;> rcases st4_cases ht with rfl | rfl | rfl | rfl <;> simp <;> omega
  have hv : 0 ≤ vS (mvS s b.1) (mvS t c.1) := by
    unfold vS
    split
    · split <;> decide
    · decide
  generalize vS (mvS s b.1) (mvS t c.1) = v at hcase hv
  have hvS : 0 ≤ v * S := Int.mul_nonneg hv hS
  rcases hcase with e | ⟨e, h | h⟩ | ⟨e, h, h2⟩
  · rw [e, Int.zero_mul]
    omega
  · have := k1 h
    rw [e]
    omega
  · rw [e, h]
    omega
  · have := k2 h
    have h3 : 4 * S ≤ v * S := Int.mul_le_mul_of_nonneg_right h2 hS
    rw [e]
    omega
theorem dist_v {r : Nat} (ok : okR (r : Int)) : ∀ (bs cs : List Bt) (s t : Int), St4 s → St4 t → GoodBs r bs → GoodBs r cs → bs.length = cs.length → vS s t * stepI (r : Int) ^ 2 ≤ dZ (r : Int) (codeB s bs) (codeB t cs) + vS (stB s bs) (stB t cs) * stepI (r : Int) ^ 2
  | [], [], s, t, _, _, _, _, _ => by
    show vS s t * _ ≤ 0 + vS s t * _
    omega
  | [], _ :: _, _, _, _, _, _, _, h => nomatch h
  | _ :: _, [], _, _, _, _, _, _, h => nomatch h
  | b :: bs, c :: cs, s, t, hs, ht, hb, hc, hl => by
    have h1 := step_v ok hs ht (hb b (.head _)) (hc c (.head _))
    have h2 := dist_v ok bs cs (mvS s b.1) (mvS t c.1) (mv_st (hb b (.head _)).1) (mv_st (hc c (.head _)).1) (fun x hx => hb x (.tail _ hx)) (fun x hx => hc x (.tail _ hx)) (Nat.succ.inj hl)
    have e1 : stB s (b :: bs) = stB (mvS s b.1) bs := rfl
    have e2 : stB t (c :: cs) = stB (mvS t c.1) cs := rfl
    rw [e1, e2]
    show _ ≤ dZ (r : Int) (_ :: codeB (mvS s b.1) bs) (_ :: codeB (mvS t c.1) cs) + _
    rw [dZ_cons]
    omega
theorem dZ_nn (r : Int) : ∀ (cs ds : List Int), 0 ≤ dZ r cs ds
  | [], _ => Int.le_refl _
  | _ :: _, [] => Int.le_refl _
  | c :: cs, d :: ds => by
    rw [dZ_cons]
    have := dZ_nn r cs ds
    have : 0 ≤ sqA (pointI c r) d r := sq_nn _
    omega
theorem tl2_good {r : Nat} : GoodBs r tl2 := fun b hb => by
  have : b = (0, 0) := by
    rcases List.mem_cons.mp hb with rfl | hb
    · rfl
    · exact List.mem_singleton.mp hb
  rw [this]
  exact ⟨.inl rfl, Int.le_refl _, Int.pow_pos (by decide)⟩
theorem good_app {r : Nat} {bs cs : List Bt} (h1 : GoodBs r bs) (h2 : GoodBs r cs) : GoodBs r (bs ++ cs) := fun b hb => (List.mem_append.mp hb).elim (h1 b) (h2 b)
theorem dist_b {r : Nat} (ok : okR (r : Int)) : ∀ (bs cs : List Bt) (s : Int), St4 s → GoodBs r bs → GoodBs r cs → bs.length = cs.length → bs ≠ cs → 9 * stepI (r : Int) ^ 2 ≤ dZ (r : Int) (codeB s (bs ++ tl2)) (codeB s (cs ++ tl2))
  | [], [], _, _, _, _, _, hn => absurd rfl hn
  | [], _ :: _, _, _, _, _, h, _ => nomatch h
  | _ :: _, [], _, _, _, _, h, _ => nomatch h
  | b :: bs, c :: cs, s, hs, hb, hc, hl, hn => by
    have hl2 : bs.length = cs.length := Nat.succ.inj hl
    have hb1 := hb b (.head _)
    have hc1 := hc c (.head _)
    have hb' : GoodBs r bs := fun x hx => hb x (.tail _ hx)
    have hc' : GoodBs r cs := fun x hx => hc x (.tail _ hx)
    show _ ≤ dZ (r : Int) ((4 * b.2 + clS s b.1) :: codeB (mvS s b.1) (bs ++ tl2)) ((4 * c.2 + clS s c.1) :: codeB (mvS s c.1) (cs ++ tl2))
    rw [dZ_cons]
    have hS := sq_nn (stepI (r : Int))
    have hn2 := dZ_nn (r : Int) (codeB (mvS s b.1) (bs ++ tl2)) (codeB (mvS s c.1) (cs ++ tl2))
    have hz2 : 0 ≤ sqA (pointI (4 * b.2 + clS s b.1) (r : Int)) (4 * c.2 + clS s c.1) (r : Int) := sq_nn _
    obtain ⟨b0, b1⟩ := beat_num (s := s) ok hb1
    obtain ⟨c0, c1⟩ := beat_num (s := s) ok hc1
    obtain ⟨k1, k2, k3⟩ := ap_cls ok b0 b1 c0 c1
    by_cases e : b.1 = c.1
    · by_cases em : b.2 = c.2
      · have hbc : b = c := Prod.ext e em
        subst hbc
        have := dist_b ok bs cs (mvS s b.1) (mv_st hb1.1) hb' hc' hl2 (fun z => hn (by rw [z]))
        omega
      · have h16 := k3 (by rw [e]; omega) (by rw [e]; omega)
        omega
    · have h4 := k1 (by
        have h5 : (clS s b.1 - clS s c.1) % 4 = 2 := by
          rcases hb1.1 with x | x <;> rcases hc1.1 with y | y <;> rw [x, y] at e ⊢ <;> first | exact absurd rfl e | (rcases st4_cases hs with rfl | rfl | rfl | rfl <;> decide)
        omega)
      have h5 := dist_v ok (bs ++ tl2) (cs ++ tl2) (mvS s b.1) (mvS s c.1) (mv_st hb1.1) (mv_st hc1.1) (good_app hb' tl2_good) (good_app hc' tl2_good) (by rw [List.length_append, List.length_append, hl2])
      rw [stB_app, stB_app, st_tl2, st_tl2] at h5
      have e0 : vS 0 0 = 0 := by decide
      have e5 : vS (mvS s b.1) (mvS s c.1) = 5 := by
        unfold vS
        rw [if_neg]
        unfold mvS
        rcases hb1.1 with x | x <;> rcases hc1.1 with y | y <;> rw [x, y] at e ⊢ <;> first | exact absurd rfl e | omega
      rw [e0, e5] at h5
      omega
theorem dist_rows {r n : Nat} {a b : List Int} (ok : okR (r : Int)) (ha : Bits a) (hb : Bits b) (la : a.length = r * n) (lb : b.length = r * n) (hn : a ≠ b) : 9 * stepI (r : Int) ^ 2 ≤ dZ (r : Int) (codeL r a) (codeL r b) := by
  obtain ⟨r1, _⟩ := id ok
  have hr : 0 < r := by omega
  unfold codeL
  rw [rowB_of hr la, rowB_of hr lb]
  refine dist_b ok _ _ 0 st4_0 (bts_good hr ha) (bts_good hr hb) (by rw [bts_len, bts_len]) (fun z => hn ?_)
  have := congrArg (flatB r) z
  rwa [flat_bts hr n ha la, flat_bts hr n hb lb] at this
theorem codeL_len {r n : Nat} {a : List Int} (hr : 0 < r) (la : a.length = r * n) : (codeL r a).length = n + 2 := by
  unfold codeL
  rw [codeB_len, rowB_of hr la, List.length_append, bts_len]
  rfl
theorem two_rows {r n : Nat} {hs a b : List Int} (ok : okR (r : Int)) (hl : hs.length = n + 2) (ha : Bits a) (hb : Bits b) (la : a.length = r * n) (lb : b.length = r * n) (hn : a ≠ b) : 9 * stepI (r : Int) ^ 2 ≤ 2 * costL r hs a + 2 * costL r hs b := by
  obtain ⟨r1, _⟩ := id ok
  exact Int.le_trans (dist_rows ok ha hb la lb hn) (dZ_le (r : Int) hs _ _ (by rw [codeL_len (by omega) la, hl]) (by rw [codeL_len (by omega) lb, hl]))
/-- small noise turns nothing -/
theorem hp_sent {r n : Nat} {hs a : List Int} (ok : okR (r : Int)) (hl : hs.length = n + 2) (ha : Bits a) (la : a.length = r * n) (h : 4 * costL r hs a < 9 * stepI (r : Int) ^ 2) : hpRow r hs = a ∧ hpCost r hs = costL r hs a := by
  obtain ⟨g1, g2, g3, g4⟩ := hp_opt (hs := hs) ok (by omega)
  have en : hs.length - 2 = n := by omega
  rw [en] at g2 g4
  have h5 := g4 a ha la
  by_cases e : hpRow r hs = a
  · exact ⟨e, by rw [← g3, e]⟩
  · have h6 := two_rows ok hl ha g1 la g2 (fun z => e z.symm)
    rw [g3] at h6
    omega
/-- noise of just a quarter -/
theorem hp_zero {r n : Nat} {hs a : List Int} (ok : okR (r : Int)) (hl : hs.length = n + 2) (ha : Bits a) (la : a.length = r * n) (h : 4 * costL r hs a = 9 * stepI (r : Int) ^ 2) (hz : costL r hs (List.replicate (r * n) 0) = costL r hs a) : hpRow r hs = List.replicate (r * n) 0 ∧ hpCost r hs = costL r hs a := by
  obtain ⟨g1, g2, g3, g4⟩ := hp_opt (hs := hs) ok (by omega)
  have en : hs.length - 2 = n := by omega
  rw [en] at g2 g4
  have hzb : Bits (List.replicate (r * n) 0) := fun z hz => .inl (List.eq_of_mem_replicate hz)
  have h5 := g4 _ hzb List.length_replicate
  rw [hz] at h5
  have hle : costL r hs a ≤ hpCost r hs := by
    by_cases e : hpRow r hs = a
    · rw [← g3, e]
      exact Int.le_refl _
    · have h6 := two_rows ok hl ha g1 la g2 (fun z => e z.symm)
      rw [g3] at h6
      omega
  have hlz : ∀ (k : Nat) (xs : List Int), Bits xs → xs.length = k → lexB xs (List.replicate k 0) = false := by
    intro k
    induction k with
    | zero => intro xs _ hx; rw [List.length_eq_zero_iff.mp hx]; rfl
    | succ k ih =>
      intro xs hB hx
      cases xs with
      | nil => cases hx
      | cons x xs =>
        have hb := bits_cons hB
        show (if x = 0 then lexB xs (List.replicate k 0) else decide (x < 0)) = false
        split
        · exact ih xs hb.2 (Nat.succ.inj hx)
        · rcases hb.1 with z | z <;> rw [z] <;> rfl
  rcases h5 with h5 | ⟨h5, h6⟩
  · omega
  · refine ⟨?_, h5⟩
    rcases h6 with h6 | h6
    · exact h6.symm
    · rw [hlz _ _ g1 g2] at h6
      cases h6
/-- a comprehension over zip of two lists of one length -/
theorem lc_zip {a b : Addr} {xs ys : List V} {g : TG} {tt : TT} {te : TE} {vs : List Nat} {σ : L2.St} {H1 : Hp} {D : Addr} {Qd : Hp → Prop} (hl : xs.length = ys.length) (Pv : Nat → Hp → Prop) (h0 : Pv 0 (upd H1 D (.lst []))) (hq : ∀ i H, Pv i H → SqL K H a xs ∧ SqL K H b ys)
    (hs : ∀ (i : Nat) (x y : V) (T : Addr) (H : Hp), xs[i]? = some x → ys[i]? = some y → Pv i H → H T = none → g (.ref T) (wipe σ vs) (upd H T (.tup [x, y])) fun σ2 H2 => wipe σ2 vs = wipe σ vs ∧ tt σ2 H2 fun b H3 =>
      if b = true then te σ2 H3 fun y H4 => ∃ acc, H4 D = some (.lst acc) ∧ acc.length < sizeLine ∧ Pv (i + 1) (upd H4 D (.lst (acc ++ [y]))) else Pv (i + 1) H3) (hd : ∀ H, Pv xs.length H → Qd H) :
    ∃ W : Nat → Nat → Hp → Prop, (∃ m, W 0 m (upd H1 D (.lst []))) ∧ ∀ i m H, W i m H →
      ((Itz K a b).stop i H ∧ Qd H) ∨ ((Itz K a b).go i H ∧ ∃ Nx : Hp → Prop, (∀ H', Nx H' → ∃ m', m' < m ∧ W (i + 1) m' H') ∧ ∀ x H', (Itz K a b).yld i H x H' → g x (wipe σ vs) H' fun σ2 H2 => wipe σ2 vs = wipe σ vs ∧ tt σ2 H2 fun b H3 =>
        if b = true then te σ2 H3 fun y H4 => ∃ acc, H4 D = some (.lst acc) ∧ acc.length < sizeLine ∧ Nx (upd H4 D (.lst (acc ++ [y]))) else Nx H3) := by
  refine ⟨fun i m H => m = xs.length - i ∧ i ≤ xs.length ∧ Pv i H, ⟨xs.length, rfl, Nat.zero_le _, h0⟩, ?_⟩
  rintro i m H ⟨rfl, hi, p⟩
  obtain ⟨qx, qy⟩ := hq i H p
  by_cases hlt : i < xs.length
  · have hx : xs[i]? = some xs[i] := List.getElem?_eq_getElem hlt
    have hlt2 : i < ys.length := by omega
    have hy : ys[i]? = some ys[i] := List.getElem?_eq_getElem hlt2
    refine .inr ⟨⟨xs, ys, _, _, qx, qy, hx, hy⟩, Pv (i + 1), fun H' p' => ⟨xs.length - (i + 1), by omega, rfl, hlt, p'⟩, fun v H' y => ?_⟩
    obtain ⟨T, x', y', rfl, hT, rfl, f1, f2⟩ := y
    exact hs i x' y' T H (f1 xs qx) (f2 ys qy) p hT
  · have e : i = xs.length := by omega
    subst e
    exact .inl ⟨⟨xs, ys, qx, qy, Or.inl (Nat.le_refl _)⟩, hd H p⟩
theorem asgG_by {te : TE} {g : TG} {u : TS} {D : Ends} {σ : L2.St} {H : Hp} (J : V → Hp → Prop) (h2 : ∀ v H1, J v H1 → g v σ H1 (u D)) (h1 : (∀ v H1, J v H1 → g v σ H1 (u D)) → te σ H (fun x H1 => g x σ H1 (u D))) : tSeq (tAsg te g) u D σ H := h1 h2
theorem ixN_nat {i n : Nat} (h : i < n) : ixN n (i : Int) = some i := by
  unfold ixN
  rw [if_pos (by omega), if_pos (by omega)]
  simp
theorem sc_nearest : FnScope ["rate"] ["rate"] (defScope s_nearest) := ⟨rfl, rfl, rfl, by decide +kernel, rfl, by decide +kernel, by decide +kernel⟩
def spNear (cR : Addr) : Sp := fun vs H Q E => ∃ (r : Int), vs = [.int r] ∧
  (okR r → ∀ (H' : Hp) (p p1 p2 : Addr), Same H H' → H p = none → H p1 = none → H p2 = none → p1 ≠ p2 → p ≠ p1 → p ≠ p2 → H' p = some (.tup [.ref p1, .ref p2]) → H' p1 = some (.lst ((List.replicate r.toNat (0 : Int)).map V.int)) → H' p2 = some (.lst (((1 : Int) :: List.replicate (r.toNat - 1) 0).map V.int)) → Q (.ref p) H') ∧ (¬ okR r → Ref0 cR "BadRate" H E)
theorem ok_nearest {f cR : Addr} {fd : FuncData} {k : Nat} {kws : List (Str × V)} (F : FunD K "nearest" "nearest" (defArgs s_nearest) (defBody s_nearest) (defScope s_nearest) [] kws f fd) (c_check_rate : CalX P w K mg base k "check_rate" ["rate"] (spCR cR)) : FnOk P w K mg base (L2.CX P w) (k + 1) f fd ["rate"] (spNear cR) := by
  have sc := sc_nearest
  refine F.ok sc (fun vs H Q E h => ?_) (fun cdv A outer s H vs Q E hr h => ?_)
  · obtain ⟨r, rfl, _⟩ := h
    rfl
  · obtain ⟨r, rfl, q, qr⟩ := h
    refine ⟨_, (pss_cons (ps_expr (pe_callP c_check_rate hr (passes_call (takes_of rfl rfl rfl rfl) (fun _ _ _ _ h => h)) (by rfl) (pa_cons (pv 0) pa_nil)))
 (pss_one (ps_ret (pe_tup (pa_cons (pe_op op_rep (pe_lst (pa_cons pe_int pa_nil)) (pv 0)) (pa_cons (pe_op op_cat (pe_lst (pa_cons pe_int pa_nil)) (pe_op op_rep (pe_lst (pa_cons pe_int pa_nil)) (pe_op op_sub (pv 0) pe_int))) pa_nil)))))), ?_⟩
    refine ⟨_, rfl, r, rfl, (fun ok => ?_), qr⟩
    obtain ⟨r1, r4⟩ := id ok
    obtain ⟨rn, rfl⟩ : ∃ rn : Nat, r = (rn : Int) := ⟨r.toNat, by omega⟩
    rw [Int.toNat_natCast] at q
    refine ⟨(by show 1 ≤ sizeLine; decide), fun p1 n1 => ⟨_, rfl, p1, (rn : Int), _, rfl, rfl, upd_same, by omega, by omega, ?_, fun p2 n2 => ?_⟩⟩
    · show 1 * _ ≤ sizeLine
      rw [Int.toNat_natCast, Nat.one_mul]
      exact sz4 (by omega)
    rw [Int.toNat_natCast, rep1]
    have s1 := same_upd (o := .lst [.int 0]) n1
    have s2 := s1.trans (same_upd (o := .lst ((List.replicate rn (0 : Int)).map V.int)) n2)
    have f2 := s1.free n2
    have e2 : upd (upd H p1 (.lst [.int 0])) p2 (.lst ((List.replicate rn (0 : Int)).map V.int)) p2 = some (.lst ((List.replicate rn (0 : Int)).map V.int)) := upd_same
    generalize upd (upd H p1 (.lst [.int 0])) p2 (.lst ((List.replicate rn (0 : Int)).map V.int)) = H2 at s2 e2 ⊢
    clear n2
    refine ⟨(by show 1 ≤ sizeLine; decide), fun p3 n3 => ⟨(by show 1 ≤ sizeLine; decide), fun p4 n4 => ⟨_, rfl, _, _, rfl, rfl, p4, _, _, rfl, rfl, upd_same, ?_, ?_, ?_, fun p5 n5 => ?_⟩⟩⟩
    · show -2 ^ 63 ≤ (rn : Int) - 1
      omega
    · show (rn : Int) - 1 < _
      omega
    · show 1 * ((rn : Int) - 1).toNat ≤ sizeLine
      rw [Nat.one_mul]
      exact sz4 (by omega)
    have ern : ((rn : Int) - 1).toNat = rn - 1 := by omega
    rw [ern, rep1]
    have s5 : Same H2 (upd (upd (upd H2 p3 (.lst [.int 1])) p4 (.lst [.int 0])) p5 (.lst ((List.replicate (rn - 1) (0 : Int)).map V.int))) := ((same_upd n3).trans (same_upd n4)).trans (same_upd n5)
    have e35 : upd (upd (upd H2 p3 (.lst [.int 1])) p4 (.lst [.int 0])) p5 (.lst ((List.replicate (rn - 1) (0 : Int)).map V.int)) p3 = some (.lst [.int 1]) := same_upd n5 _ _ (same_upd n4 _ _ upd_same)
    have e55 : upd (upd (upd H2 p3 (.lst [.int 1])) p4 (.lst [.int 0])) p5 (.lst ((List.replicate (rn - 1) (0 : Int)).map V.int)) p5 = some (.lst ((List.replicate (rn - 1) (0 : Int)).map V.int)) := upd_same
    generalize upd (upd (upd H2 p3 (.lst [.int 1])) p4 (.lst [.int 0])) p5 (.lst ((List.replicate (rn - 1) (0 : Int)).map V.int)) = H5 at s5 e35 e55 ⊢
    refine ⟨p3, p5, _, _, rfl, rfl, e35, e55, (by rw [List.length_map, List.length_replicate]; exact sz4 (by show 1 + (rn - 1) ≤ 100000; omega)), fun p6 n6 => ?_⟩
    have s6 := s5.trans (same_upd (o := .lst ([V.int 1] ++ (List.replicate (rn - 1) (0 : Int)).map V.int)) n6)
    have e6 : upd H5 p6 (.lst ([V.int 1] ++ (List.replicate (rn - 1) (0 : Int)).map V.int)) p6 = some (.lst (((1 : Int) :: List.replicate (rn - 1) 0).map V.int)) := upd_same
    have f6 := s5.free n6
    have g6 := s2.free f6
    have n26 : p2 ≠ p6 := ne_of_none (s5 _ _ e2) n6
    generalize upd H5 p6 (.lst ([V.int 1] ++ (List.replicate (rn - 1) (0 : Int)).map V.int)) = H6 at s6 e6 ⊢
    refine ⟨(by show 2 ≤ sizeLine; decide), fun p7 n7 => ?_⟩
    have s7 := same_upd (o := .tup [.ref p2, .ref p6]) n7
    exact q ok _ p7 p2 p6 (s2.trans (s6.trans s7)) (s2.free (s6.free n7)) f2 g6 n26 (ne_of_none (s6 _ _ e2) n7).symm (ne_of_none e6 n7).symm upd_same (s7 _ _ (s6 _ _ e2)) (s7 _ _ e6)
theorem codeB_pts {r : Nat} (ok : okR (r : Int)) : ∀ (bs : List Bt) (s : Int), GoodBs r bs → ∀ c ∈ codeB s bs, 0 ≤ c ∧ c < ptsI (r : Int)
  | [], _, _, c, hc => nomatch hc
  | b :: bs, s, hg, c, hc => by
    rcases List.mem_cons.mp hc with rfl | hc
    · exact beat_num ok (hg b (.head _))
    · exact codeB_pts ok bs _ (fun x hx => hg x (.tail _ hx)) c hc
theorem codeL_pts {r : Nat} {ns : List Int} (ok : okR (r : Int)) (hB : Bits ns) : ∀ c ∈ codeL r ns, 0 ≤ c ∧ c < ptsI (r : Int) := by
  obtain ⟨r1, _⟩ := id ok
  refine codeB_pts ok _ 0 ?_
  unfold rowB
  exact good_app (bts_good (by omega) hB) tl2_good
theorem codeL_leP {r : Nat} {ns : List Int} (hr : 0 < r) (h : ns.length % r = 0) : (codeL r ns).length ≤ ns.length + 2 := by
  have hl : ns.length = r * (ns.length / r) := by
    have := Nat.div_add_mod ns.length r
    omega
  have := Nat.div_le_self ns.length r
  unfold codeL
  rw [codeB_len, rowB_of hr hl, List.length_append, bts_len]
  show ns.length / r + 2 ≤ _
  omega
theorem fold_pointI {c r : Int} (ok : okR r) (h0 : 0 ≤ c) (h1 : c < ptsI r) : fold (pointI c r) = pointI c r := by
  unfold fold pointI
  rcases pts_step ok with ⟨rfl, e, e2⟩ | ⟨rfl, e, e2⟩ | ⟨rfl, e, e2⟩ | ⟨rfl, e, e2⟩ <;> rw [e] at h1 <;> rw [e2] <;> omega
theorem sc_least_distance : FnScope ["rate", "one", "other", "here", "there", "number", "place", "opposite"] ["rate"] (defScope s_least_distance) := ⟨rfl, rfl, rfl, by decide +kernel, rfl, by decide +kernel, by decide +kernel⟩
def spLD (cR : Addr) : Sp := fun vs H Q E => ∃ (r : Int), vs = [.int r] ∧ (okR r → ∀ H', Same H H' → Q (.int (9 * stepI r ^ 2)) H') ∧ (¬ okR r → Ref0 cR "BadRate" H E)
theorem near_dist {r : Nat} (ok : okR (r : Int)) : dZ (r : Int) (codeL r (List.replicate r 0)) (codeL r ((1 : Int) :: List.replicate (r - 1) 0)) = 9 * stepI (r : Int) ^ 2 ∧ (codeL r (List.replicate r 0)).length = 3 ∧ (codeL r ((1 : Int) :: List.replicate (r - 1) 0)).length = 3 := by
  have : r = 1 ∨ r = 2 ∨ r = 3 ∨ r = 4 := by obtain ⟨a, b⟩ := ok; omega
  rcases this with rfl | rfl | rfl | rfl <;> decide +kernel
theorem ok_least_distance {f cB cN cR : Addr} {fd : FuncData} {k : Nat} {kws : List (Str × V)} (F : FunD K "least_distance" "least_distance" (defArgs s_least_distance) (defBody s_least_distance) (defScope s_least_distance) [] kws f fd) (n_sum : mg "sum" = none) (n_zip : mg "zip" = none) (c_apart : Cal P w K mg base k "apart" ["one", "other"] spApart)
    (cw_point_1_rate : CalW P w K mg base k "point" ["number", "rate"] 1 ["rate"] (fun vs zs => vs ++ zs) (spPoint cN cR)) (cw_coded_1_rate : CalW P w K mg base k "coded" ["bits", "rate"] 1 ["rate"] (fun vs zs => vs ++ zs) (spCoded K cB cN cR)) (cw_nearest_0_rate : CalW P w K mg base k "nearest" ["rate"] 0 ["rate"] (fun vs zs => vs ++ zs) (spNear cR)) : FnOk P w K mg base (L2.CX P w) (k + 1) f fd ["rate"] (spLD cR) := by
  have sc := sc_least_distance
  refine F.ok sc (fun vs H Q E h => ?_) (fun cdv A outer s H vs Q E hr h => ?_)
  · obtain ⟨r, rfl, _⟩ := h
    rfl
  · obtain ⟨r, rfl, q, qr⟩ := h
    refine ⟨_, (pss_cons (ps_asg (pe_callW0 cw_nearest_0_rate hr (passes_call (takes_of rfl rfl rfl rfl) (fun _ _ _ _ h => h)) (by rfl) (pk_cons (pv 0) pk_nil)) (pg_tup rfl (pgs_cons (pg_name (i := 1) sc.nd rfl (.inl rfl)) (pgs_cons (pg_name (i := 2) sc.nd rfl (.inl rfl)) pgs_nil))))
 (pss_cons (ps_setLc (i := 3) (own := [("number", 5)]) (g := gName 5) (by rfl) sc.nd rfl rfl (sw_true rfl rfl rfl (by decide +kernel)) (pi_listK K rfl (pe_callWF cw_coded_1_rate hr (by rfl) (pa_cons (pv 1) pa_nil) (pk_cons (pv 0) pk_nil))) (blkOk_by (own := [("number", 5)]) (N := ["rate", "one", "other", "here", "there", "number", "place", "opposite"]) (sc := defScope s_least_distance) (by decide +kernel)) (fun _ _ _ _ _ => (pg_name (i := 5) sc.nd rfl (Or.inl rfl))) (fun _ _ _ _ _ => pts_nil) (fun _ _ _ _ _ => (pe_callWF cw_point_1_rate hr (by rfl) (pa_cons (pv 5) pa_nil) (pk_cons (pv 0) pk_nil))))
 (pss_cons (ps_setLc (i := 4) (own := [("number", 5)]) (g := gName 5) (by rfl) sc.nd rfl rfl (sw_true rfl rfl rfl (by decide +kernel)) (pi_listK K rfl (pe_callWF cw_coded_1_rate hr (by rfl) (pa_cons (pv 2) pa_nil) (pk_cons (pv 0) pk_nil))) (blkOk_by (own := [("number", 5)]) (N := ["rate", "one", "other", "here", "there", "number", "place", "opposite"]) (sc := defScope s_least_distance) (by decide +kernel)) (fun _ _ _ _ _ => (pg_name (i := 5) sc.nd rfl (Or.inl rfl))) (fun _ _ _ _ _ => pts_nil) (fun _ _ _ _ _ => (pe_callWF cw_point_1_rate hr (by rfl) (pa_cons (pv 5) pa_nil) (pk_cons (pv 0) pk_nil))))
 (pss_one (ps_ret (pe_callB (cr_sumK K rfl rfl) (by rfl) n_sum (by decide +kernel) (pa_cons (pe_lc (own := [("place", 6), ("opposite", 7)]) (g := (gTup K 2 (gCons (gName 6) (gCons (gName 7) gNil)))) (by rfl) sc.nd (pi_zip (by rfl) n_zip (pa_cons (pv 3) (pa_cons (pv 4) pa_nil))) (blkOk_by (own := [("place", 6), ("opposite", 7)]) (N := ["rate", "one", "other", "here", "there", "number", "place", "opposite"]) (sc := defScope s_least_distance) (by decide +kernel)) (fun _ _ _ _ _ => (pg_tup rfl (pgs_cons (pg_name (i := 6) sc.nd rfl (Or.inl rfl)) (pgs_cons (pg_name (i := 7) sc.nd rfl (Or.inl rfl)) pgs_nil)))) (fun _ _ _ _ _ => pts_nil) (fun _ _ _ _ _ => (pe_op op_pow (pe_callC c_apart hr (by rfl) (pa_cons (pv 6) (pa_cons (pv 7) pa_nil))) pe_int))) pa_nil))))))), ?_⟩
    refine ⟨_, rfl, rfl, rfl, r, rfl, (fun ok H1 p p1 p2 s1 n1 n2 n3 _ _ _ e1 e2 e3 => ?_), qr⟩
    obtain ⟨r1, r4⟩ := id ok
    obtain ⟨rn, rfl⟩ : ∃ rn : Nat, r = (rn : Int) := ⟨r.toNat, by omega⟩
    rw [Int.toNat_natCast] at e2 e3
    obtain ⟨hd, l1, l2⟩ := near_dist ok
    have hb1 : Bits (List.replicate rn 0) := fun z hz => .inl (List.eq_of_mem_replicate hz)
    have hb2 : Bits ((1 : Int) :: List.replicate (rn - 1) 0) := fun z hz => by
      rcases List.mem_cons.mp hz with rfl | hz
      · exact .inr rfl
      · exact .inl (List.eq_of_mem_replicate hz)
    have hc1 := codeL_pts ok hb1
    have hc2 := codeL_pts ok hb2
    refine ⟨p, _, rfl, SqT.of e1, rfl, _, _, rfl, _, _, rfl, rfl, ?_⟩
    -- here
    refine ⟨_, rfl, _, rfl, rfl, rfl, p1, _, (rn : Int), rfl, SqL.of e2, (by rw [List.length_replicate]; omega), (fun _ _ _ H2 pa s2 na ea => ?_), (fun _ _ z => absurd (by rw [List.length_replicate, Int.toNat_natCast]; exact Nat.mod_self _) z), (fun _ i' z hz nb => (nb (hb1 z (List.mem_of_getElem? hz))).elim), (fun no => absurd ok no)⟩
    rw [Int.toNat_natCast] at ea
    generalize codeL rn (List.replicate rn 0) = cs1 at ea hd l1 hc1
    refine ⟨pa, rfl, ⟨_, SqL.of ea⟩, fun D nD => lc_list (K := K) (a := pa) (xs := cs1.map V.int) (fun i H' => Same H2 H' ∧ H' D = some (.lst (((cs1.take i).map fun c => pointI c (rn : Int)).map V.int))) ⟨same_upd nD, upd_same⟩ (fun i H' _ h => SqL.of (h.1 _ _ ea)) ?_ ?_⟩
    · rintro i x H3 hx ⟨s3, eD⟩
      obtain ⟨z, hz, rfl⟩ := getI hx
      have hi : i < cs1.length := (List.getElem?_eq_some_iff.mp hz).1
      obtain ⟨z0, z1⟩ := hc1 z (List.mem_of_getElem? hz)
      refine ⟨rfl, tYes_by (iteT ?_)⟩
      refine ⟨_, rfl, _, rfl, rfl, rfl, z, (rn : Int), rfl, (fun _ _ _ => ?_), (fun _ bad => by rcases bad with y | y <;> omega), (fun no => absurd ok no)⟩
      refine ⟨_, eD, ?_, same_mut s3 nD, ?_⟩
      · rw [List.length_map, List.length_map, List.length_take]
        exact sz4l (by omega)
      · rw [upd_same, take_more hz, List.map_append, List.map_append]
        rfl
    rintro H3 ⟨s3, eD⟩
    rw [List.length_map, List.take_length] at eD
    have s13 := (s1.trans s2).trans s3
    have e33 := s3 _ _ (s2 _ _ e3)
    refine name_by ?_
    dsimp only
    -- there
    refine ⟨_, rfl, _, rfl, rfl, rfl, p2, _, (rn : Int), rfl, SqL.of e33, (by rw [List.length_cons, List.length_replicate]; omega), (fun _ _ _ H4 pb s4 nb eb => ?_), (fun _ _ z => absurd (by rw [List.length_cons, List.length_replicate, Int.toNat_natCast, Nat.sub_add_cancel (by omega)]; exact Nat.mod_self _) z), (fun _ i' z hz nb => (nb (hb2 z (List.mem_of_getElem? hz))).elim), (fun no => absurd ok no)⟩
    rw [Int.toNat_natCast] at eb
    generalize codeL rn ((1 : Int) :: List.replicate (rn - 1) 0) = cs2 at eb hd l2 hc2
    refine ⟨pb, rfl, ⟨_, SqL.of eb⟩, fun D2 nD2 => lc_list (K := K) (a := pb) (xs := cs2.map V.int) (fun i H' => Same H4 H' ∧ H' D2 = some (.lst (((cs2.take i).map fun c => pointI c (rn : Int)).map V.int))) ⟨same_upd nD2, upd_same⟩ (fun i H' _ h => SqL.of (h.1 _ _ eb)) ?_ ?_⟩
    · rintro i x H5 hx ⟨s5, eD2⟩
      obtain ⟨z, hz, rfl⟩ := getI hx
      have hi : i < cs2.length := (List.getElem?_eq_some_iff.mp hz).1
      obtain ⟨z0, z1⟩ := hc2 z (List.mem_of_getElem? hz)
      refine ⟨rfl, tYes_by (iteT ?_)⟩
      refine ⟨_, rfl, _, rfl, rfl, rfl, z, (rn : Int), rfl, (fun _ _ _ => ?_), (fun _ bad => by rcases bad with y | y <;> omega), (fun no => absurd ok no)⟩
      refine ⟨_, eD2, ?_, same_mut s5 nD2, ?_⟩
      · rw [List.length_map, List.length_map, List.length_take]
        exact sz4l (by omega)
      · rw [upd_same, take_more hz, List.map_append, List.map_append]
        rfl
    rintro H5 ⟨s5, eD2⟩
    rw [List.length_map, List.take_length] at eD2
    have s15 := (s13.trans s4).trans s5
    have eD5 := s5 _ _ (s4 _ _ eD)
    refine name_by ?_
    dsimp only
    -- sum
    refine ⟨_, rfl, _, rfl, D, D2, _, _, rfl, SqL.of eD5, SqL.of eD2, fun D3 nD3 => lc_zip (K := K) (xs := (cs1.map fun c => pointI c (rn : Int)).map V.int) (ys := (cs2.map fun c => pointI c (rn : Int)).map V.int) (by rw [List.length_map, List.length_map, List.length_map, List.length_map, l1, l2]) (fun i H' => Same H5 H' ∧ H' D3 = some (.lst ((((cs1.take i).zip (cs2.take i)).map fun p => sqA (pointI p.1 (rn : Int)) p.2 (rn : Int)).map V.int))) ⟨same_upd nD3, upd_same⟩ (fun i H' h => ⟨SqL.of (h.1 _ _ eD5), SqL.of (h.1 _ _ eD2)⟩) ?_ ?_⟩
    · rintro i x y T H6 hx hy ⟨s6, eD3⟩ nT
      obtain ⟨t1, ht1, rfl⟩ := getI hx
      obtain ⟨t2, ht2, rfl⟩ := getI hy
      obtain ⟨c1, hc1', rfl⟩ : ∃ c, cs1[i]? = some c ∧ t1 = pointI c (rn : Int) := by
        rw [List.getElem?_map] at ht1
        cases ec : cs1[i]? with
        | none => rw [ec] at ht1; cases ht1
        | some c => rw [ec] at ht1; exact ⟨c, rfl, (Option.some.inj ht1).symm⟩
      obtain ⟨c2, hc2', rfl⟩ : ∃ c, cs2[i]? = some c ∧ t2 = pointI c (rn : Int) := by
        rw [List.getElem?_map] at ht2
        cases ec : cs2[i]? with
        | none => rw [ec] at ht2; cases ht2
        | some c => rw [ec] at ht2; exact ⟨c, rfl, (Option.some.inj ht2).symm⟩
      have hi1 := (List.getElem?_eq_some_iff.mp hc1').1
      have hi2 := (List.getElem?_eq_some_iff.mp hc2').1
      have s7 := s6.trans (same_upd (o := .tup [.int (pointI c1 (rn : Int)), .int (pointI c2 (rn : Int))]) nT)
      have eD7 := same_upd (o := .tup [.int (pointI c1 (rn : Int)), .int (pointI c2 (rn : Int))]) nT _ _ eD3
      have hap := apart_le (pointI c1 (rn : Int)) (pointI c2 (rn : Int))
      refine ⟨T, _, rfl, SqT.of upd_same, rfl, _, _, rfl, _, _, rfl, rfl, ?_⟩
      refine ⟨rfl, tYes_by (iteT ?_)⟩
      refine ⟨_, rfl, _, rfl, _, _, rfl, _, _, rfl, rfl, ⟨by decide, by decide, by omega⟩, _, eD7, ?_, same_mut s7 nD3, ?_⟩
      · rw [List.length_map, List.length_map, List.length_zip, List.length_take, List.length_take]
        exact sz4l (by omega)
      · rw [upd_same, take_more hc1', take_more hc2', List.zip_append (by rw [List.length_take, List.length_take]; omega), List.map_append, List.map_append]
        rfl
    · rintro H6 ⟨s6, eD3⟩
      rw [List.length_map, List.length_map, List.take_length, l1, ← l2, List.take_length] at eD3
      refine ⟨D3, _, rfl, SqL.of eD3, ?_⟩
      have : ((cs1.zip cs2).map fun p => sqA (pointI p.1 (rn : Int)) p.2 (rn : Int)).sum = 9 * stepI (rn : Int) ^ 2 := hd
      rw [this]
      exact q ok H6 (s15.trans s6)
abbrev qLam : Str := "law.<locals>.<lambda>"
def spLaw (K : PySem.W.Frag) (tP : Addr) : Sp := fun vs H Q _ => ∃ (a : Addr) (ns : List Int), vs = [.ref a] ∧ SqL K H a (ns.map V.int) ∧ H tP = some (.tbl #[]) ∧ ∀ H', Q (.bl true) H'
theorem bits_rep {d : Int} (h : isB d) (n : Nat) : Bits (List.replicate n d) := fun z hz => by
  rw [List.eq_of_mem_replicate hz]
  exact h
theorem dp_si {H : Hp} {a : Addr} {x : Str} {i : Int} (h : H a = some (.lst [.str x, .int i])) : Dp K H (.ref a) (.list [.str x, .int i]) := .lst (SqL.of h) (.cons (.str x) (.cons (.int i) .nil))
theorem shaped_si {x : Str} (hx : PyData.canLay0 (.str x) = true) (i : Int) : SeqAt.shaped (.list [.str x, .int i]) = true := by
  unfold SeqAt.shaped
  rw [Bool.and_eq_true]
  refine ⟨?_, decide_eq_true (by show max 0 (max 0 0) + 1 ≤ 64; decide)⟩
  show (PyData.canLay0 (.str x) && (true && true)) = true
  rw [hx]
  rfl
theorem lay_BadFrame : PyData.canLay0 (.str "BadFrame") = true := by decide +kernel
theorem lay_BadBit : PyData.canLay0 (.str "BadBit") = true := by decide +kernel
theorem dn_ints (ns : List Int) (h : ns.length ≤ 100000) (n : Nat) : Dn (n + 2) (dI ns) := .inr (.inr (.inr (.inr ⟨_, .inl rfl, by rw [List.length_map]; exact h, fun e he => by
  obtain ⟨z, _, rfl⟩ := List.mem_map.mp he
  exact .inr (.inl ⟨z, rfl⟩)⟩)))
theorem sc__law_bag : FnScope ["_law_script"] ["_law_script"] (defScope s__law_bag) := ⟨rfl, rfl, rfl, by decide +kernel, rfl, by decide +kernel, by decide +kernel⟩
theorem ok__law_bag {f : Addr} {fd : FuncData} {k : Nat} (F : Fun K "_law_bag" "_law_bag" s__law_bag f fd) (n_len : mg "len" = none) (n_list : mg "list" = none) : FnOk P w K mg base CX0 (k + 1) f fd ["_law_script"] (spBag K) := by
  have sc := sc__law_bag
  refine F.ok sc (fun vs H Q E h => ?_) (fun cdv A outer s H vs Q E hr h => ?_)
  · obtain ⟨a, ns, rfl, _⟩ := h
    rfl
  · obtain ⟨a, ns, rfl, hS, q⟩ := h
    refine ⟨_, (pss_one (ps_ret (pe_lst (pa_cons (pe_callTy (call_listK K rfl) (by rfl) n_list (by decide +kernel) (pa_cons (pe_slice (sl_listK K rfl) (pv 0) po_none (po_some pe_int)) pa_nil)) (pa_cons pe_int (pa_cons pe_int (pa_cons (pe_op op_add pe_int (pe_callB (call_lenK K rfl) (by rfl) n_len PySem.boot_len (pa_cons (pe_slice (sl_listK K rfl) (pv 0) po_none (po_some pe_int)) pa_nil))) (pa_cons pe_int pa_nil)))))))), ?_⟩
    refine ⟨_, rfl, 63, rfl, a, _, rfl, hS, fun p1 n1 => ?_⟩
    refine ⟨p1, _, rfl, .inl (SqL.of upd_same), fun p2 n2 => ?_⟩
    have s1 : Same H (upd H p1 (.lst (cutV (ns.map V.int) none (some 63)))) := same_upd n1
    have s2 := s1.trans (same_upd (o := .lst (cutV (ns.map V.int) none (some 63))) n2)
    refine ⟨_, rfl, 63, rfl, a, _, rfl, s2.seq hS, fun p3 n3 => ?_⟩
    have s3 := s2.trans (same_upd (o := .lst (cutV (ns.map V.int) none (some 63))) n3)
    refine ⟨p3, _, rfl, .inl (SqL.of upd_same), _, _, rfl, rfl, (by show 5 ≤ sizeLine; decide), fun p4 n4 => ?_⟩
    have s4 := s3.trans (same_upd (o := .lst (bagL p2 0 0 (977 + ((cutV (ns.map V.int) none (some 63)).length : Int)) 0)) n4)
    have e0 : cutV (ns.map V.int) none (some 63) = (ns.take 63).map V.int := by
      unfold cutV
      rw [HT.sIx_none, show HT.sIx (ns.map V.int).length (ns.map V.int).length (some 63) = min 63 (ns.map V.int).length from HT.sIx_nat _ _ 63]
      simp only [List.drop_zero, Nat.sub_zero, List.length_map, List.map_take]
      by_cases h : ns.length ≤ 63
      · rw [Nat.min_eq_right h, List.take_of_length_le (by simp), List.take_of_length_le (by simpa using h)]
      · rw [Nat.min_eq_left (by omega)]
    have n42 : p4 ≠ p2 := fun z => by
      rw [z, upd_ne (ne_of_none upd_same n3), upd_same] at n4
      cases n4
    refine q _ (p4, p2) s4 (s3.free n4) ⟨ns.take 63, 0, 0, _, 0, upd_same, ?_, n42.symm, by omega, ?_, ?_⟩
    · rw [upd_ne n42.symm, upd_ne (ne_of_none upd_same n3), upd_same, e0]
    · omega
    · rw [e0, List.length_map, List.length_take]
      omega
theorem sc__law_pick : FnScope ["_law_bag_here", "_law_top", "_law_cell", "_law_digit"] ["_law_bag_here", "_law_top"] (defScope s__law_pick) := ⟨rfl, rfl, rfl, by decide +kernel, rfl, by decide +kernel, by decide +kernel⟩
theorem ok__law_pick {f : Addr} {fd : FuncData} {k : Nat} (F : Fun K "_law_pick" "_law_pick" s__law_pick f fd) (n_len : mg "len" = none) : FnOk P w K mg base CX0 (k + 1) f fd ["_law_bag_here", "_law_top"] spPick := by
  have sc := sc__law_pick
  refine F.ok sc (fun vs H Q E h => ?_) (fun cdv A outer s H vs Q E hr h => ?_)
  · obtain ⟨b, top, rfl, _⟩ := h
    rfl
  · obtain ⟨⟨b, sa⟩, top, rfl, ⟨ns, i, r, x, c, hb, hs, hne, hi, hx0, hx1⟩, ht0, ht1, q⟩ := h
    refine ⟨_, (pss_cons (ps_if (PW.pt (pw_and (pt_cmpR op_lt (pe_ix (ix_listK K rfl) (pv 0) pe_int (fun _ _ => rfl)) (pv 1) (nomark _)) (pw_and1 (pt_cmpR op_lt (pe_ix (ix_listK K rfl) (pv 0) pe_int (fun _ _ => rfl)) (pe_callB (call_lenK K rfl) (by rfl) n_len PySem.boot_len (pa_cons (pe_ix (ix_listK K rfl) (pv 0) pe_int (fun _ _ => rfl)) pa_nil)) (nomark _)))))
  (pss_cons (ps_set (i := 2) sc.nd rfl (.inl rfl) (pe_ix (ix_listK K rfl) (pe_ix (ix_listK K rfl) (pv 0) pe_int (fun _ _ => rfl)) (pe_ix (ix_listK K rfl) (pv 0) pe_int (fun _ _ => rfl)) (fun _ _ => rfl)))
 (pss_cons (ps_asg (pe_op op_add (pe_ix (ix_listK K rfl) (pv 0) pe_int (fun _ _ => rfl)) pe_int) (pg_sub (pv 0) pe_int set_list))
 (pss_cons (ps_asg (pe_op op_mod (pe_op op_add (pe_op op_add (pe_op op_mul (pe_ix (ix_listK K rfl) (pv 0) pe_int (fun _ _ => rfl)) pe_int) (pv 2)) (pe_ix (ix_listK K rfl) (pv 0) pe_int (fun _ _ => rfl))) pe_int) (pg_sub (pv 0) pe_int set_list))
 (pss_one (ps_asg (pe_ifExp (pt_cmpR op_ge (pv 2) (pe_op op_pow pe_int pe_int) (nomark _)) (pv 2) pe_int) (pg_sub (pv 0) pe_int set_list))))))
  pss_nil)
 (pss_cons (ps_if (pt_cmpR op_ge (pe_ix (ix_listK K rfl) (pv 0) pe_int (fun _ _ => rfl)) (pv 1) (nomark _))
  (pss_cons (ps_set (i := 3) sc.nd rfl (.inl rfl) (pe_op op_mod (pe_ix (ix_listK K rfl) (pv 0) pe_int (fun _ _ => rfl)) (pv 1)))
 (pss_cons (ps_asg (pe_op op_fdiv (pe_ix (ix_listK K rfl) (pv 0) pe_int (fun _ _ => rfl)) (pv 1)) (pg_sub (pv 0) pe_int set_list))
 (pss_one (ps_ret (pv 3)))))
  pss_nil)
 (pss_cons (ps_asg (pe_op op_add (pe_ix (ix_listK K rfl) (pv 0) pe_int (fun _ _ => rfl)) pe_int) (pg_sub (pv 0) pe_int set_list))
 (pss_cons (ps_asg (pe_op op_mod (pe_op op_add (pe_op op_add (pe_op op_add (pe_op op_pow (pe_ix (ix_listK K rfl) (pv 0) pe_int (fun _ _ => rfl)) pe_int) (pe_op op_mul pe_int (pe_ix (ix_listK K rfl) (pv 0) pe_int (fun _ _ => rfl)))) (pe_op op_fdiv (pe_ix (ix_listK K rfl) (pv 0) pe_int (fun _ _ => rfl)) pe_int)) pe_int) pe_int) (pg_sub (pv 0) pe_int set_list))
 (pss_one (ps_ret (pe_op op_mod (pe_op op_fdiv (pe_ix (ix_listK K rfl) (pv 0) pe_int (fun _ _ => rfl)) pe_int) (pv 1)))))))), ?_⟩
    refine seq_by (J := fun σ1 H1 => ∃ (y2 : Option V) (i r x c : Int), σ1 = [some (.ref b), some (.int top), y2, none] ∧ H1 b = some (.lst (bagL sa i r x c)) ∧ H1 sa = some (.lst (ns.map V.int)) ∧ Mv b H H1 ∧ 0 ≤ i ∧ 0 ≤ x ∧ x < 2147483648) ?_ (fun rest => ?_)
    · rintro σ1 H1 ⟨y2, i, r, x, c, rfl, hb, hs, mv, hi, hx0, hx1⟩
      refine ⟨_, rfl, b, _, 2, .int r, rfl, rfl, SqL.of hb, rfl, _, rfl, r, top, rfl, rfl, _, rfl, ite2 (fun e => ?_) (fun e => ?_)⟩
      · refine ⟨_, rfl, b, _, 2, .int r, rfl, rfl, SqL.of hb, rfl, _, rfl, r, top, rfl, rfl, ht0, ?_⟩
        refine ⟨_, rfl, b, _, 2, .int r, rfl, rfl, SqL.of hb, rfl, _, rfl, r, top, rfl, rfl, ⟨ht0, ht1⟩, ?_⟩
        refine ⟨_, rfl, b, _, 2, 2, rfl, rfl, hb, rfl, ?_⟩
        refine ⟨_, rfl, ?_⟩
        refine q _ _ mv.upd ⟨ns, i, _, x, c, upd_same, ?_, hne, hi, hx0, hx1⟩ (Int.emod_nonneg _ (by omega)) (Int.emod_lt_of_pos _ ht0)
        rw [upd_ne hne]
        exact hs
      · refine ⟨_, rfl, b, _, 4, .int c, rfl, rfl, SqL.of hb, rfl, c, 1, rfl, rfl, _, rfl, b, _, 4, 4, rfl, rfl, hb, rfl, ?_⟩
        have hb2 : upd H1 b (.lst (bagL sa i r x (c + 1))) b = some (.lst (bagL sa i r x (c + 1))) := upd_same
        refine ⟨_, rfl, b, _, 3, .int x, rfl, rfl, SqL.of hb2, rfl, x, 3, rfl, rfl, ⟨by decide, by decide, by omega⟩, ?_⟩
        refine ⟨_, rfl, b, _, 4, .int (c + 1), rfl, rfl, SqL.of hb2, rfl, 40503, c + 1, rfl, rfl, .inl ⟨by decide, by decide⟩, _, _, rfl, rfl, ?_⟩
        refine ⟨_, rfl, b, _, 3, .int x, rfl, rfl, SqL.of hb2, rfl, x, 65537, rfl, rfl, ⟨by decide, by decide⟩, _, _, rfl, rfl, _, _, rfl, rfl, _, _, rfl, rfl, (by show (0 : Int) < 2147483629; decide), ?_⟩
        refine ⟨_, rfl, b, _, 3, 3, rfl, rfl, hb2, rfl, ?_⟩
        rw [upd_upd]
        obtain ⟨z, hz⟩ : ∃ z, (x ^ Int.toNat 3 + 40503 * (c + 1) + x / 65537 + 11) % 2147483629 = z := ⟨_, rfl⟩
        have ez : (bagL sa i r x (c + 1)).set 3 ((fun i j => V.int (i % j)) (x ^ Int.toNat 3 + 40503 * (c + 1) + x / 65537 + 11) 2147483629) = bagL sa i r z (c + 1) := by rw [← hz]; rfl
        rw [ez]
        have z0 : 0 ≤ z := by rw [← hz]; exact Int.emod_nonneg _ (by decide)
        have z1 : z < 2147483648 := by
          have : z < 2147483629 := by rw [← hz]; exact Int.emod_lt_of_pos _ (by decide)
          omega
        have hb3 : upd H1 b (.lst (bagL sa i r z (c + 1))) b = some (.lst (bagL sa i r z (c + 1))) := upd_same
        refine ⟨_, rfl, b, _, 3, .int z, rfl, rfl, SqL.of hb3, rfl, z, 16, rfl, rfl, ⟨by decide, by decide⟩, _, rfl, _, top, rfl, rfl, ht0, ?_⟩
        refine q _ _ mv.upd ⟨ns, i, r, z, c + 1, upd_same, ?_, hne, hi, z0, z1⟩ (Int.emod_nonneg _ (by omega)) (Int.emod_lt_of_pos _ ht0)
        rw [upd_ne hne]
        exact hs
    · refine ⟨_, rfl, b, _, 2, .int r, rfl, rfl, SqL.of hb, rfl, _, rfl, r, top, rfl, rfl, _, rfl, ite2 (fun e => ?_) (fun e => ?_)⟩
      · refine ⟨_, rfl, b, _, 1, .int i, rfl, rfl, SqL.of hb, rfl, _, rfl, b, _, 0, .ref sa, rfl, rfl, SqL.of hb, rfl, sa, _, rfl, .inl (SqL.of hs), i, _, rfl, rfl, _, rfl, ite2 (fun e2 => ?_) (fun e2 => ?_)⟩
        · have hlt : i < (ns.length : Int) := by
            have := of_decide_eq_true e2
            rw [List.length_map] at this
            exact this
          obtain ⟨z, hz⟩ : ∃ z, ns[i.toNat]? = some z := ⟨_, List.getElem?_eq_getElem (by omega)⟩
          have hat : atI (ns.map V.int) i = some (.int z) := by
            have := atI_nat (xs := ns.map V.int) (j := i.toNat) (v := .int z) (by rw [List.getElem?_map, hz]; rfl)
            rwa [Int.toNat_of_nonneg hi] at this
          refine ⟨_, rfl, b, _, 0, .ref sa, rfl, rfl, SqL.of hb, rfl, _, rfl, b, _, 1, .int i, rfl, rfl, SqL.of hb, rfl, sa, _, i, _, rfl, rfl, SqL.of hs, hat, ?_⟩
          refine ⟨_, rfl, b, _, 1, .int i, rfl, rfl, SqL.of hb, rfl, i, 1, rfl, rfl, _, rfl, b, _, 1, 1, rfl, rfl, hb, rfl, ?_⟩
          have hb2 : upd H b (.lst (bagL sa (i + 1) r x c)) b = some (.lst (bagL sa (i + 1) r x c)) := upd_same
          refine ⟨_, rfl, b, _, 3, .int x, rfl, rfl, SqL.of hb2, rfl, x, 48271, rfl, rfl, .inr ⟨by decide, by decide⟩, _, rfl, _, z, rfl, rfl, ?_⟩
          refine ⟨_, rfl, b, _, 1, .int (i + 1), rfl, rfl, SqL.of hb2, rfl, _, _, rfl, rfl, _, _, rfl, rfl, (by show (0 : Int) < 2147483629; decide), ?_⟩
          refine ⟨_, rfl, b, _, 3, 3, rfl, rfl, hb2, rfl, ?_⟩
          rw [upd_upd]
          obtain ⟨y, hy⟩ : ∃ y, (x * 48271 + z + (i + 1)) % 2147483629 = y := ⟨_, rfl⟩
          have ey : (bagL sa (i + 1) r x c).set 3 ((fun i j => V.int (i % j)) (x * 48271 + z + (i + 1)) 2147483629) = bagL sa (i + 1) r y c := by rw [← hy]; rfl
          rw [ey]
          have y0 : 0 ≤ y := by rw [← hy]; exact Int.emod_nonneg _ (by decide)
          have y1 : y < 2147483648 := by
            have : y < 2147483629 := by rw [← hy]; exact Int.emod_lt_of_pos _ (by decide)
            omega
          have hb3 : upd H b (.lst (bagL sa (i + 1) r y c)) b = some (.lst (bagL sa (i + 1) r y c)) := upd_same
          have hne2 : ∀ o : HO, upd H b o sa = some (.lst (ns.map V.int)) := fun o => by
            rw [upd_ne hne]
            exact hs
          refine ⟨_, rfl, 10, 18, rfl, rfl, ⟨by decide, by decide, by decide⟩, z, _, rfl, rfl, _, rfl, ite2 (fun e3 => ?_) (fun e3 => ?_)⟩
          · refine ⟨_, rfl, _, rfl, b, _, 2, 2, rfl, rfl, hb3, rfl, ?_⟩
            rw [upd_upd]
            exact rest _ _ ⟨some (.int z), i + 1, z, y, c, rfl, upd_same, hne2 _, (Mv.refl _ _).upd, by omega, y0, y1⟩
          · refine ⟨_, rfl, b, _, 2, 2, rfl, rfl, hb3, rfl, ?_⟩
            rw [upd_upd]
            exact rest _ _ ⟨some (.int z), i + 1, 0, y, c, rfl, upd_same, hne2 _, (Mv.refl _ _).upd, by omega, y0, y1⟩
        · exact rest _ _ ⟨none, i, r, x, c, rfl, hb, hs, Mv.refl _ _, hi, hx0, hx1⟩
      · exact rest _ _ ⟨none, i, r, x, c, rfl, hb, hs, Mv.refl _ _, hi, hx0, hx1⟩
def spPickW : Sp := fun vs H Q _ => ∃ (b : Addr × Addr) (top : Int), vs = [.ref b.1, .int top] ∧ Bag b H ∧ 0 < top ∧ top ≤ 18446744073709551616 ∧ ∀ (H' : Hp) (d : Int), Mv b.1 H H' → Bag b H' → 0 ≤ d → d < top → Q (.int d) H'
theorem log_leW {z : Int} (h : z.natAbs < 2 ^ 65) : Nat.log2 z.natAbs < 9000 := by
  by_cases e : z.natAbs = 0
  · rw [e]
    decide
  · exact Nat.lt_trans ((Nat.log2_lt e).mpr h) (by decide)
theorem ok__law_pickW {f : Addr} {fd : FuncData} {k : Nat} (F : Fun K "_law_pick" "_law_pick" s__law_pick f fd) (n_len : mg "len" = none) : FnOk P w K mg base CX0 (k + 1) f fd ["_law_bag_here", "_law_top"] spPickW := by
  have sc := sc__law_pick
  refine F.ok sc (fun vs H Q E h => ?_) (fun cdv A outer s H vs Q E hr h => ?_)
  · obtain ⟨b, top, rfl, _⟩ := h
    rfl
  · obtain ⟨⟨b, sa⟩, top, rfl, ⟨ns, i, r, x, c, hb, hs, hne, hi, hx0, hx1⟩, ht0, ht1, q⟩ := h
    refine ⟨_, (pss_cons (ps_if (PW.pt (pw_and (pt_cmpR op_lt (pe_ix (ix_listK K rfl) (pv 0) pe_int (fun _ _ => rfl)) (pv 1) (nomark _)) (pw_and1 (pt_cmpR op_lt (pe_ix (ix_listK K rfl) (pv 0) pe_int (fun _ _ => rfl)) (pe_callB (call_lenK K rfl) (by rfl) n_len PySem.boot_len (pa_cons (pe_ix (ix_listK K rfl) (pv 0) pe_int (fun _ _ => rfl)) pa_nil)) (nomark _)))))
  (pss_cons (ps_set (i := 2) sc.nd rfl (.inl rfl) (pe_ix (ix_listK K rfl) (pe_ix (ix_listK K rfl) (pv 0) pe_int (fun _ _ => rfl)) (pe_ix (ix_listK K rfl) (pv 0) pe_int (fun _ _ => rfl)) (fun _ _ => rfl)))
 (pss_cons (ps_asg (pe_op op_add (pe_ix (ix_listK K rfl) (pv 0) pe_int (fun _ _ => rfl)) pe_int) (pg_sub (pv 0) pe_int set_list))
 (pss_cons (ps_asg (pe_op op_mod (pe_op op_add (pe_op op_add (pe_op op_mul (pe_ix (ix_listK K rfl) (pv 0) pe_int (fun _ _ => rfl)) pe_int) (pv 2)) (pe_ix (ix_listK K rfl) (pv 0) pe_int (fun _ _ => rfl))) pe_int) (pg_sub (pv 0) pe_int set_list))
 (pss_one (ps_asg (pe_ifExp (pt_cmpR op_ge (pv 2) (pe_op op_pow pe_int pe_int) (nomark _)) (pv 2) pe_int) (pg_sub (pv 0) pe_int set_list))))))
  pss_nil)
 (pss_cons (ps_if (pt_cmpR op_ge (pe_ix (ix_listK K rfl) (pv 0) pe_int (fun _ _ => rfl)) (pv 1) (nomark _))
  (pss_cons (ps_set (i := 3) sc.nd rfl (.inl rfl) (pe_op op_mod (pe_ix (ix_listK K rfl) (pv 0) pe_int (fun _ _ => rfl)) (pv 1)))
 (pss_cons (ps_asg (pe_op op_fdivW (pe_ix (ix_listK K rfl) (pv 0) pe_int (fun _ _ => rfl)) (pv 1)) (pg_sub (pv 0) pe_int set_list))
 (pss_one (ps_ret (pv 3)))))
  pss_nil)
 (pss_cons (ps_asg (pe_op op_add (pe_ix (ix_listK K rfl) (pv 0) pe_int (fun _ _ => rfl)) pe_int) (pg_sub (pv 0) pe_int set_list))
 (pss_cons (ps_asg (pe_op op_mod (pe_op op_add (pe_op op_add (pe_op op_add (pe_op op_pow (pe_ix (ix_listK K rfl) (pv 0) pe_int (fun _ _ => rfl)) pe_int) (pe_op op_mul pe_int (pe_ix (ix_listK K rfl) (pv 0) pe_int (fun _ _ => rfl)))) (pe_op op_fdivW (pe_ix (ix_listK K rfl) (pv 0) pe_int (fun _ _ => rfl)) pe_int)) pe_int) pe_int) (pg_sub (pv 0) pe_int set_list))
 (pss_one (ps_ret (pe_op op_mod (pe_op op_fdivW (pe_ix (ix_listK K rfl) (pv 0) pe_int (fun _ _ => rfl)) pe_int) (pv 1)))))))), ?_⟩
    refine seq_by (J := fun σ1 H1 => ∃ (y2 : Option V) (i r x c : Int), σ1 = [some (.ref b), some (.int top), y2, none] ∧ H1 b = some (.lst (bagL sa i r x c)) ∧ H1 sa = some (.lst (ns.map V.int)) ∧ Mv b H H1 ∧ 0 ≤ i ∧ 0 ≤ x ∧ x < 2147483648) ?_ (fun rest => ?_)
    · rintro σ1 H1 ⟨y2, i, r, x, c, rfl, hb, hs, mv, hi, hx0, hx1⟩
      refine ⟨_, rfl, b, _, 2, .int r, rfl, rfl, SqL.of hb, rfl, _, rfl, r, top, rfl, rfl, _, rfl, ite2 (fun e => ?_) (fun e => ?_)⟩
      · refine ⟨_, rfl, b, _, 2, .int r, rfl, rfl, SqL.of hb, rfl, _, rfl, r, top, rfl, rfl, ht0, ?_⟩
        refine ⟨_, rfl, b, _, 2, .int r, rfl, rfl, SqL.of hb, rfl, _, rfl, r, top, rfl, rfl, ⟨ht0, log_leW (by omega)⟩, ?_⟩
        refine ⟨_, rfl, b, _, 2, 2, rfl, rfl, hb, rfl, ?_⟩
        refine ⟨_, rfl, ?_⟩
        refine q _ _ mv.upd ⟨ns, i, _, x, c, upd_same, ?_, hne, hi, hx0, hx1⟩ (Int.emod_nonneg _ (by omega)) (Int.emod_lt_of_pos _ ht0)
        rw [upd_ne hne]
        exact hs
      · refine ⟨_, rfl, b, _, 4, .int c, rfl, rfl, SqL.of hb, rfl, c, 1, rfl, rfl, _, rfl, b, _, 4, 4, rfl, rfl, hb, rfl, ?_⟩
        have hb2 : upd H1 b (.lst (bagL sa i r x (c + 1))) b = some (.lst (bagL sa i r x (c + 1))) := upd_same
        refine ⟨_, rfl, b, _, 3, .int x, rfl, rfl, SqL.of hb2, rfl, x, 3, rfl, rfl, ⟨by decide, by decide, by omega⟩, ?_⟩
        refine ⟨_, rfl, b, _, 4, .int (c + 1), rfl, rfl, SqL.of hb2, rfl, 40503, c + 1, rfl, rfl, .inl ⟨by decide, by decide⟩, _, _, rfl, rfl, ?_⟩
        refine ⟨_, rfl, b, _, 3, .int x, rfl, rfl, SqL.of hb2, rfl, x, 65537, rfl, rfl, ⟨by decide, log_leW (by decide)⟩, _, _, rfl, rfl, _, _, rfl, rfl, _, _, rfl, rfl, (by show (0 : Int) < 2147483629; decide), ?_⟩
        refine ⟨_, rfl, b, _, 3, 3, rfl, rfl, hb2, rfl, ?_⟩
        rw [upd_upd]
        obtain ⟨z, hz⟩ : ∃ z, (x ^ Int.toNat 3 + 40503 * (c + 1) + x / 65537 + 11) % 2147483629 = z := ⟨_, rfl⟩
        have ez : (bagL sa i r x (c + 1)).set 3 ((fun i j => V.int (i % j)) (x ^ Int.toNat 3 + 40503 * (c + 1) + x / 65537 + 11) 2147483629) = bagL sa i r z (c + 1) := by rw [← hz]; rfl
        rw [ez]
        have z0 : 0 ≤ z := by rw [← hz]; exact Int.emod_nonneg _ (by decide)
        have z1 : z < 2147483648 := by
          have : z < 2147483629 := by rw [← hz]; exact Int.emod_lt_of_pos _ (by decide)
          omega
        have hb3 : upd H1 b (.lst (bagL sa i r z (c + 1))) b = some (.lst (bagL sa i r z (c + 1))) := upd_same
        refine ⟨_, rfl, b, _, 3, .int z, rfl, rfl, SqL.of hb3, rfl, z, 16, rfl, rfl, ⟨by decide, log_leW (by decide)⟩, _, rfl, _, top, rfl, rfl, ht0, ?_⟩
        refine q _ _ mv.upd ⟨ns, i, r, z, c + 1, upd_same, ?_, hne, hi, z0, z1⟩ (Int.emod_nonneg _ (by omega)) (Int.emod_lt_of_pos _ ht0)
        rw [upd_ne hne]
        exact hs
    · refine ⟨_, rfl, b, _, 2, .int r, rfl, rfl, SqL.of hb, rfl, _, rfl, r, top, rfl, rfl, _, rfl, ite2 (fun e => ?_) (fun e => ?_)⟩
      · refine ⟨_, rfl, b, _, 1, .int i, rfl, rfl, SqL.of hb, rfl, _, rfl, b, _, 0, .ref sa, rfl, rfl, SqL.of hb, rfl, sa, _, rfl, .inl (SqL.of hs), i, _, rfl, rfl, _, rfl, ite2 (fun e2 => ?_) (fun e2 => ?_)⟩
        · have hlt : i < (ns.length : Int) := by
            have := of_decide_eq_true e2
            rw [List.length_map] at this
            exact this
          obtain ⟨z, hz⟩ : ∃ z, ns[i.toNat]? = some z := ⟨_, List.getElem?_eq_getElem (by omega)⟩
          have hat : atI (ns.map V.int) i = some (.int z) := by
            have := atI_nat (xs := ns.map V.int) (j := i.toNat) (v := .int z) (by rw [List.getElem?_map, hz]; rfl)
            rwa [Int.toNat_of_nonneg hi] at this
          refine ⟨_, rfl, b, _, 0, .ref sa, rfl, rfl, SqL.of hb, rfl, _, rfl, b, _, 1, .int i, rfl, rfl, SqL.of hb, rfl, sa, _, i, _, rfl, rfl, SqL.of hs, hat, ?_⟩
          refine ⟨_, rfl, b, _, 1, .int i, rfl, rfl, SqL.of hb, rfl, i, 1, rfl, rfl, _, rfl, b, _, 1, 1, rfl, rfl, hb, rfl, ?_⟩
          have hb2 : upd H b (.lst (bagL sa (i + 1) r x c)) b = some (.lst (bagL sa (i + 1) r x c)) := upd_same
          refine ⟨_, rfl, b, _, 3, .int x, rfl, rfl, SqL.of hb2, rfl, x, 48271, rfl, rfl, .inr ⟨by decide, by decide⟩, _, rfl, _, z, rfl, rfl, ?_⟩
          refine ⟨_, rfl, b, _, 1, .int (i + 1), rfl, rfl, SqL.of hb2, rfl, _, _, rfl, rfl, _, _, rfl, rfl, (by show (0 : Int) < 2147483629; decide), ?_⟩
          refine ⟨_, rfl, b, _, 3, 3, rfl, rfl, hb2, rfl, ?_⟩
          rw [upd_upd]
          obtain ⟨y, hy⟩ : ∃ y, (x * 48271 + z + (i + 1)) % 2147483629 = y := ⟨_, rfl⟩
          have ey : (bagL sa (i + 1) r x c).set 3 ((fun i j => V.int (i % j)) (x * 48271 + z + (i + 1)) 2147483629) = bagL sa (i + 1) r y c := by rw [← hy]; rfl
          rw [ey]
          have y0 : 0 ≤ y := by rw [← hy]; exact Int.emod_nonneg _ (by decide)
          have y1 : y < 2147483648 := by
            have : y < 2147483629 := by rw [← hy]; exact Int.emod_lt_of_pos _ (by decide)
            omega
          have hb3 : upd H b (.lst (bagL sa (i + 1) r y c)) b = some (.lst (bagL sa (i + 1) r y c)) := upd_same
          have hne2 : ∀ o : HO, upd H b o sa = some (.lst (ns.map V.int)) := fun o => by
            rw [upd_ne hne]
            exact hs
          refine ⟨_, rfl, 10, 18, rfl, rfl, ⟨by decide, by decide, by decide⟩, z, _, rfl, rfl, _, rfl, ite2 (fun e3 => ?_) (fun e3 => ?_)⟩
          · refine ⟨_, rfl, _, rfl, b, _, 2, 2, rfl, rfl, hb3, rfl, ?_⟩
            rw [upd_upd]
            exact rest _ _ ⟨some (.int z), i + 1, z, y, c, rfl, upd_same, hne2 _, (Mv.refl _ _).upd, by omega, y0, y1⟩
          · refine ⟨_, rfl, b, _, 2, 2, rfl, rfl, hb3, rfl, ?_⟩
            rw [upd_upd]
            exact rest _ _ ⟨some (.int z), i + 1, 0, y, c, rfl, upd_same, hne2 _, (Mv.refl _ _).upd, by omega, y0, y1⟩
        · exact rest _ _ ⟨none, i, r, x, c, rfl, hb, hs, Mv.refl _ _, hi, hx0, hx1⟩
      · exact rest _ _ ⟨none, i, r, x, c, rfl, hb, hs, Mv.refl _ _, hi, hx0, hx1⟩
theorem sc__law_of : FnScope ["_law_bag_here", "_law_some"] ["_law_bag_here", "_law_some"] (defScope s__law_of) := ⟨rfl, rfl, rfl, by decide +kernel, rfl, by decide +kernel, by decide +kernel⟩
theorem ok__law_of {f : Addr} {fd : FuncData} {k : Nat} (F : Fun K "_law_of" "_law_of" s__law_of f fd) (n_len : mg "len" = none) (c__law_pick : Cal P w K mg base k "_law_pick" ["_law_bag_here", "_law_top"] spPick) : FnOk P w K mg base CX0 (k + 1) f fd ["_law_bag_here", "_law_some"] (spOf K) := by
  have sc := sc__law_of
  refine F.ok sc (fun vs H Q E h => ?_) (fun cdv A outer s H vs Q E hr h => ?_)
  · obtain ⟨b, l, xs, rfl, _⟩ := h
    rfl
  · obtain ⟨b, l, xs, rfl, hB, hne, hl, h0, h1, q⟩ := h
    refine ⟨_, (pss_one (ps_ret (pe_ix (ix_listK K rfl) (pv 1) (pe_callC c__law_pick hr (by rfl) (pa_cons (pv 0) (pa_cons (pe_callB (call_lenK K rfl) (by rfl) n_len PySem.boot_len (pa_cons (pv 1) pa_nil)) pa_nil))) (fun _ _ => rfl)))), ?_⟩
    refine ⟨_, rfl, _, rfl, _, rfl, l, xs, rfl, .inl (SqL.of hl), b, _, rfl, hB, by omega, by omega, fun H' d mv hB' d0 d1 => ?_⟩
    obtain ⟨v, hv⟩ : ∃ v, xs[d.toNat]? = some v := ⟨_, List.getElem?_eq_getElem (by omega)⟩
    have hat : atI xs d = some v := by
      have := atI_nat (xs := xs) (j := d.toNat) (v := v) hv
      rwa [Int.toNat_of_nonneg d0] at this
    exact ⟨l, xs, d, v, rfl, rfl, SqL.of (mv l _ hne hl), hat, q H' v mv hB' (List.mem_of_getElem? hv)⟩
theorem sc__law_same : FnScope ["_law_found", "_law_due", "_law_spot"] ["_law_found", "_law_due"] (defScope s__law_same) := ⟨rfl, rfl, rfl, by decide +kernel, rfl, by decide +kernel, by decide +kernel⟩
theorem ok__law_same {f : Addr} {fd : FuncData} (F : Fun K "_law_same" "_law_same" s__law_same f fd) (gS : mg "_law_same" = some (.ref f)) (bS : Binds K fd ["_law_found", "_law_due"] []) (n_len : mg "len" = none) (n_all : mg "all" = none) (n_bool : mg "bool" = none) (n_int : mg "int" = none)
    (n_isinstance : mg "isinstance" = none) (n_list : mg "list" = none) (n_range : mg "range" = none) (n_str : mg "str" = none) (n_tuple : mg "tuple" = none) : ∀ n : Nat, FnOk P w K mg base CX0 n f fd ["_law_found", "_law_due"] (spSame K n)
  | 0 => ⟨fun vs H Q E h => by obtain ⟨x, y, d, _, _, _, h, _⟩ := h; exact h.elim, fun A outer s H args us vs Q E hr e0 bt r h => by obtain ⟨x, y, d, _, _, _, h, _⟩ := h; exact h.elim⟩
  | n + 1 => by
    have c__law_same : Cal P w K mg base n "_law_same" ["_law_found", "_law_due"] (spSame K n) := ⟨f, fd, ok__law_same F gS bS n_len n_all n_bool n_int n_isinstance n_list n_range n_str n_tuple n, gS, F.kp, bS⟩
    have sc := sc__law_same
    refine F.ok sc (fun vs H Q E h => ?_) (fun cdv A outer s H vs Q E hr h => ?_)
    · obtain ⟨x, y, d, rfl, _⟩ := h
      rfl
    · obtain ⟨x, y, d, rfl, dx, dy, dn, sd, q⟩ := h
      have tx := ty_dp dx
      have ty := ty_dp dy
      refine ⟨_, (pss_cons (ps_if (pt_cmpR op_isN (pv 1) pe_non (nomark _))
  (pss_one (ps_ret (pe_cmpR op_isN (pv 0) pe_non (nomark _))))
  pss_nil)
 (pss_cons (ps_if (PW.pt (pw_or (pt_val (pe_callB (call_isiK1 K rfl) (by rfl) n_isinstance (by decide +kernel) (pa_cons (pv 1) (pa_cons (pe_bltn (v := .ty "bool") (by rfl) n_bool (by decide +kernel) rfl) pa_nil)))) (pw_or1 (pt_val (pe_callB (call_isiK1 K rfl) (by rfl) n_isinstance (by decide +kernel) (pa_cons (pv 0) (pa_cons (pe_bltn (v := .ty "bool") (by rfl) n_bool (by decide +kernel) rfl) pa_nil)))))))
  (pss_one (ps_ret (pe_and (pe_callB (call_isiK1 K rfl) (by rfl) n_isinstance (by decide +kernel) (pa_cons (pv 1) (pa_cons (pe_bltn (v := .ty "bool") (by rfl) n_bool (by decide +kernel) rfl) pa_nil))) (pe_and (pe_callB (call_isiK1 K rfl) (by rfl) n_isinstance (by decide +kernel) (pa_cons (pv 0) (pa_cons (pe_bltn (v := .ty "bool") (by rfl) n_bool (by decide +kernel) rfl) pa_nil))) (pe_one (pe_cmpR (op_eqDK K rfl hr.units) (pv 0) (pv 1) (nomark _)))))))
  pss_nil)
 (pss_cons (ps_if (pt_val (pe_callB (call_isiTK K rfl) (by rfl) n_isinstance (by decide +kernel) (pa_cons (pv 1) (pa_cons (pe_tup (pa_cons (pe_bltn (v := .ty "int") (by rfl) n_int (by decide +kernel) rfl) (pa_cons (pe_bltn (v := .ty "str") (by rfl) n_str (by decide +kernel) rfl) pa_nil))) pa_nil))))
  (pss_one (ps_ret (pe_and (pe_callB (call_isiTK K rfl) (by rfl) n_isinstance (by decide +kernel) (pa_cons (pv 0) (pa_cons (pe_tup (pa_cons (pe_bltn (v := .ty "int") (by rfl) n_int (by decide +kernel) rfl) (pa_cons (pe_bltn (v := .ty "str") (by rfl) n_str (by decide +kernel) rfl) pa_nil))) pa_nil))) (pe_and (pe_cmpR op_eq (pe_callB (call_isiK1 K rfl) (by rfl) n_isinstance (by decide +kernel) (pa_cons (pv 0) (pa_cons (pe_bltn (v := .ty "int") (by rfl) n_int (by decide +kernel) rfl) pa_nil))) (pe_callB (call_isiK1 K rfl) (by rfl) n_isinstance (by decide +kernel) (pa_cons (pv 1) (pa_cons (pe_bltn (v := .ty "int") (by rfl) n_int (by decide +kernel) rfl) pa_nil))) (nomark _)) (pe_one (pe_cmpR (op_eqDK K rfl hr.units) (pv 0) (pv 1) (nomark _)))))))
  pss_nil)
 (pss_cons (ps_if (PW.pt (pw_or (pt_cmpR op_ne (pe_callB (call_isiK1 K rfl) (by rfl) n_isinstance (by decide +kernel) (pa_cons (pv 1) (pa_cons (pe_bltn (v := .ty "list") (by rfl) n_list (by decide +kernel) rfl) pa_nil))) (pe_callB (call_isiK1 K rfl) (by rfl) n_isinstance (by decide +kernel) (pa_cons (pv 0) (pa_cons (pe_bltn (v := .ty "list") (by rfl) n_list (by decide +kernel) rfl) pa_nil))) (nomark _)) (pw_or1 (pt_cmpR op_ne (pe_callB (call_isiK1 K rfl) (by rfl) n_isinstance (by decide +kernel) (pa_cons (pv 1) (pa_cons (pe_bltn (v := .ty "tuple") (by rfl) n_tuple (by decide +kernel) rfl) pa_nil))) (pe_callB (call_isiK1 K rfl) (by rfl) n_isinstance (by decide +kernel) (pa_cons (pv 0) (pa_cons (pe_bltn (v := .ty "tuple") (by rfl) n_tuple (by decide +kernel) rfl) pa_nil))) (nomark _)))))
  (pss_one (ps_ret pe_bl))
  pss_nil)
 (pss_cons (ps_if (PW.pt (pw_or (pt_not (pt_val (pe_callB (call_isiTK K rfl) (by rfl) n_isinstance (by decide +kernel) (pa_cons (pv 0) (pa_cons (pe_tup (pa_cons (pe_bltn (v := .ty "list") (by rfl) n_list (by decide +kernel) rfl) (pa_cons (pe_bltn (v := .ty "tuple") (by rfl) n_tuple (by decide +kernel) rfl) pa_nil))) pa_nil))))) (pw_or1 (pt_cmpR op_ne (pe_callB (call_lenK K rfl) (by rfl) n_len PySem.boot_len (pa_cons (pv 0) pa_nil)) (pe_callB (call_lenK K rfl) (by rfl) n_len PySem.boot_len (pa_cons (pv 1) pa_nil)) (nomark _)))))
  (pss_one (ps_ret pe_bl))
  pss_nil)
 (pss_one (ps_ret (pe_callB (cr_allK K rfl rfl) (by rfl) n_all (by decide +kernel) (pa_cons (pe_lc (own := [("_law_spot", 2)]) (g := gName 2) (by rfl) sc.nd (pi_range1 (by rfl) n_range (pa_cons (pe_callB (call_lenK K rfl) (by rfl) n_len PySem.boot_len (pa_cons (pv 1) pa_nil)) pa_nil)) (blkOk_by (own := [("_law_spot", 2)]) (N := ["_law_found", "_law_due", "_law_spot"]) (sc := defScope s__law_same) (by decide +kernel)) (fun _ _ _ _ _ => (pg_name (i := 2) sc.nd rfl (Or.inl rfl))) (fun _ _ _ _ _ => pts_nil) (fun _ _ _ _ _ => (pe_callC c__law_same hr (by rfl) (pa_cons (pe_ix (ix_seqK K rfl) (pv 0) (pv 2) (fun _ _ => rfl)) (pa_cons (pe_ix (ix_seqK K rfl) (pv 1) (pv 2) (fun _ _ => rfl)) pa_nil))))) pa_nil))))))))), ?_⟩
      have er : PyData.eqv d d = true := SeqAt.eqv_refl d (SeqAt.canLay_of_shaped sd)
      rcases dn with ⟨b, rfl⟩ | ⟨i, rfl⟩ | ⟨z, rfl⟩ | rfl | ⟨ds, hd, hlen, hn⟩
      · have tx : TyX K H x (.type "bool") := tx
        have ty : TyX K H y (.type "bool") := ty
        have kb : PySem.W.kitOne K (.type "bool") (.type "bool") = some true := kit_ty (by decide +kernel)
        have dx' := dx
        have dy' := dy
        cases dx
        cases dy
        refine ⟨_, rfl, rfl, _, rfl, iteF ?_⟩
        refine ⟨_, rfl, _, _, _, _, true, rfl, .ty "bool", ty, kb, _, rfl, iteT ?_⟩
        refine iteT ?_
        refine ⟨_, rfl, _, _, _, _, true, rfl, .ty "bool", ty, kb, true, rfl, iteT ?_⟩
        refine ⟨_, rfl, _, _, _, _, true, rfl, .ty "bool", tx, kb, true, rfl, iteT ?_⟩
        refine ⟨_, rfl, _, rfl, .bool b, .bool b, dx', dy', sd, sd, ?_⟩
        rw [er]
        exact q _ (Same.refl _)
      · have tx : TyX K H x (.type "int") := tx
        have ty : TyX K H y (.type "int") := ty
        have kb : PySem.W.kitOne K (.type "int") (.type "bool") = some false := kit_ty (by decide +kernel)
        have ki : PySem.W.kitOne K (.type "int") (.type "int") = some true := kit_ty (by decide +kernel)
        have dx' := dx
        have dy' := dy
        cases dx
        cases dy
        refine ⟨_, rfl, rfl, _, rfl, iteF ?_⟩
        refine ⟨_, rfl, _, _, _, _, false, rfl, .ty "bool", ty, kb, _, rfl, iteF ?_⟩
        refine ⟨_, rfl, _, _, _, _, false, rfl, .ty "bool", tx, kb, _, rfl, iteF ?_⟩
        refine ⟨_, rfl, (by show 2 ≤ sizeLine; decide), fun p np => ?_⟩
        have s1 : Same H (upd H p (.tup [.ty "int", .ty "str"])) := same_upd np
        refine ⟨_, p, _, _, _, true, rfl, upd_same, .cons (.ty "int") (.cons (.ty "str") .nil), .base (.int i), kitAny_cons ki (fun z => nomatch z) (fun _ => rfl), _, rfl, iteT ?_⟩
        refine ⟨_, rfl, (by show 2 ≤ sizeLine; decide), fun p2 np2 => ?_⟩
        have s2 : Same _ (upd _ p2 (.tup [.ty "int", .ty "str"])) := same_upd np2
        refine ⟨_, p2, _, _, _, true, rfl, upd_same, .cons (.ty "int") (.cons (.ty "str") .nil), .base (.int i), kitAny_cons ki (fun z => nomatch z) (fun _ => rfl), true, rfl, iteT ?_⟩
        refine ⟨_, rfl, _, _, _, _, true, rfl, .ty "int", .base (.int i), ki, ?_⟩
        refine ⟨_, rfl, _, _, _, _, true, rfl, .ty "int", .base (.int i), ki, rfl, true, rfl, iteT ?_⟩
        refine ⟨_, rfl, _, rfl, .int i, .int i, .int i, .int i, sd, sd, ?_⟩
        rw [er]
        exact q _ (s1.trans s2)
      · have tx : TyX K H x (.type "str") := tx
        have ty : TyX K H y (.type "str") := ty
        have kb : PySem.W.kitOne K (.type "str") (.type "bool") = some false := kit_ty (by decide +kernel)
        have ki : PySem.W.kitOne K (.type "str") (.type "int") = some false := kit_ty (by decide +kernel)
        have ks : PySem.W.kitOne K (.type "str") (.type "str") = some true := kit_ty (by decide +kernel)
        have kk : PySem.W.kitAny K (.type "str") [.type "int", .type "str"] = some true := kitAny_cons ki (fun _ => kitAny_cons ks (fun z => nomatch z) (fun _ => rfl)) (fun z => nomatch z)
        cases dx
        cases dy
        refine ⟨_, rfl, rfl, _, rfl, iteF ?_⟩
        refine ⟨_, rfl, _, _, _, _, false, rfl, .ty "bool", ty, kb, _, rfl, iteF ?_⟩
        refine ⟨_, rfl, _, _, _, _, false, rfl, .ty "bool", tx, kb, _, rfl, iteF ?_⟩
        refine ⟨_, rfl, (by show 2 ≤ sizeLine; decide), fun p np => ?_⟩
        have s1 : Same H (upd H p (.tup [.ty "int", .ty "str"])) := same_upd np
        refine ⟨_, p, _, _, _, true, rfl, upd_same, .cons (.ty "int") (.cons (.ty "str") .nil), .base (.str z), kk, _, rfl, iteT ?_⟩
        refine ⟨_, rfl, (by show 2 ≤ sizeLine; decide), fun p2 np2 => ?_⟩
        have s2 : Same _ (upd _ p2 (.tup [.ty "int", .ty "str"])) := same_upd np2
        refine ⟨_, p2, _, _, _, true, rfl, upd_same, .cons (.ty "int") (.cons (.ty "str") .nil), .base (.str z), kk, true, rfl, iteT ?_⟩
        refine ⟨_, rfl, _, _, _, _, false, rfl, .ty "int", .base (.str z), ki, ?_⟩
        refine ⟨_, rfl, _, _, _, _, false, rfl, .ty "int", .base (.str z), ki, rfl, true, rfl, iteT ?_⟩
        refine ⟨_, rfl, _, rfl, .str z, .str z, .str z, .str z, sd, sd, ?_⟩
        rw [er]
        exact q _ (s1.trans s2)
      · cases dx
        cases dy
        refine ⟨_, rfl, rfl, _, rfl, iteT ?_⟩
        exact ⟨_, rfl, rfl, q _ (Same.refl _)⟩
      · -- a list or a tuple
        obtain ⟨ax, ay, xs, ys, nm, rfl, rfl, hsx, hsy, hax, hay, tx, ty, hnm, enm⟩ : ∃ (ax ay : Addr) (xs ys : List V) (nm : String), x = .ref ax ∧ y = .ref ay ∧ (SqL K H ax xs ∨ SqT K H ax xs) ∧ (SqL K H ay ys ∨ SqT K H ay ys) ∧ DpAll K H xs ds ∧ DpAll K H ys ds ∧
            TyX K H x (.type nm) ∧ TyX K H y (.type nm) ∧ (nm = "list" ∨ nm = "tuple") ∧ nm = tyN d := by
          rcases hd with rfl | rfl
          · cases dx with
            | lst h1 h2 =>
              cases dy with
              | lst h3 h4 => exact ⟨_, _, _, _, "list", rfl, rfl, .inl h1, .inl h3, h2, h4, tx, ty, .inl rfl, rfl⟩
          · cases dx with
            | tup h1 h2 =>
              cases dy with
              | tup h3 h4 => exact ⟨_, _, _, _, "tuple", rfl, rfl, .inr h1, .inr h3, h2, h4, tx, ty, .inr rfl, rfl⟩
        have kb : PySem.W.kitOne K (.type nm) (.type "bool") = some false := by rcases hnm with rfl | rfl <;> exact kit_ty (by decide +kernel)
        have ki : PySem.W.kitOne K (.type nm) (.type "int") = some false := by rcases hnm with rfl | rfl <;> exact kit_ty (by decide +kernel)
        have ks : PySem.W.kitOne K (.type nm) (.type "str") = some false := by rcases hnm with rfl | rfl <;> exact kit_ty (by decide +kernel)
        obtain ⟨bl, kl⟩ : ∃ bl, PySem.W.kitOne K (.type nm) (.type "list") = some bl := by
          rcases hnm with rfl | rfl
          · exact ⟨true, kit_ty (by decide +kernel)⟩
          · exact ⟨false, kit_ty (by decide +kernel)⟩
        obtain ⟨bt, kt⟩ : ∃ bt, PySem.W.kitOne K (.type nm) (.type "tuple") = some bt := by
          rcases hnm with rfl | rfl
          · exact ⟨false, kit_ty (by decide +kernel)⟩
          · exact ⟨true, kit_ty (by decide +kernel)⟩
        have kk : PySem.W.kitAny K (.type nm) [.type "int", .type "str"] = some false := kitAny_cons ki (fun _ => kitAny_cons ks (fun _ => rfl) (fun z => nomatch z)) (fun z => nomatch z)
        have kq : PySem.W.kitAny K (.type nm) [.type "list", .type "tuple"] = some true := by
          rcases hnm with rfl | rfl
          · exact kitAny_cons (b := true) (kit_ty (by decide +kernel)) (fun z => nomatch z) (fun _ => rfl)
          · exact kitAny_cons (b := false) (kit_ty (by decide +kernel)) (fun _ => kitAny_cons (b := true) (kit_ty (by decide +kernel)) (fun z => nomatch z) (fun _ => rfl)) (fun z => nomatch z)
        have typ : ∀ {H' : Hp} {v : V}, Same H H' → TyX K H v (.type nm) → (v = .ref ax ∨ v = .ref ay) → TyX K H' v (.type nm) := by
          intro H' v sm h hv
          rw [enm]
          rcases hv with rfl | rfl
          · exact ty_dp (dp_same sm dx)
          · exact ty_dp (dp_same sm dy)
        refine ⟨_, rfl, rfl, _, rfl, iteF ?_⟩
        refine ⟨_, rfl, _, _, _, _, false, rfl, .ty "bool", ty, kb, _, rfl, iteF ?_⟩
        refine ⟨_, rfl, _, _, _, _, false, rfl, .ty "bool", tx, kb, _, rfl, iteF ?_⟩
        refine ⟨_, rfl, (by show 2 ≤ sizeLine; decide), fun p np => ?_⟩
        have s1 : Same H (upd H p (.tup [.ty "int", .ty "str"])) := same_upd np
        refine ⟨_, p, _, _, _, false, rfl, upd_same, .cons (.ty "int") (.cons (.ty "str") .nil), typ s1 ty (.inr rfl), kk, _, rfl, iteF ?_⟩
        refine ⟨_, rfl, _, _, _, _, bl, rfl, .ty "list", typ s1 ty (.inr rfl), kl, ?_⟩
        refine ⟨_, rfl, _, _, _, _, bl, rfl, .ty "list", typ s1 tx (.inl rfl), kl, rfl, _, rfl, ifF (by simp) ?_⟩
        refine ⟨_, rfl, _, _, _, _, bt, rfl, .ty "tuple", typ s1 ty (.inr rfl), kt, ?_⟩
        refine ⟨_, rfl, _, _, _, _, bt, rfl, .ty "tuple", typ s1 tx (.inl rfl), kt, rfl, _, rfl, ifF (by simp) ?_⟩
        refine ⟨_, rfl, (by show 2 ≤ sizeLine; decide), fun p2 np2 => ?_⟩
        have s2 : Same H _ := s1.trans (same_upd (o := .tup [.ty "list", .ty "tuple"]) np2)
        refine ⟨_, p2, _, _, _, true, rfl, upd_same, .cons (.ty "list") (.cons (.ty "tuple") .nil), typ s2 tx (.inl rfl), kq, _, rfl, iteF ?_⟩
        have sq2 : ∀ {H' : Hp} {a : Addr} {zs : List V}, Same H H' → (SqL K H a zs ∨ SqT K H a zs) → (SqL K H' a zs ∨ SqT K H' a zs) := fun sm h => h.elim (fun z => .inl (sm.seq z)) (fun z => .inr (same_t sm z))
        refine ⟨_, rfl, ax, xs, rfl, sq2 s2 hsx, _, rfl, ay, ys, rfl, sq2 s2 hsy, rfl, _, rfl, ifF (by rw [dpa_len hax, dpa_len hay]; simp) ?_⟩
        refine ⟨_, rfl, ay, ys, rfl, sq2 s2 hsy, _, rfl, ?_, ?_, fun D nD => lc_range (lo := 0) (n := ((ys.length : Int)).toNat) (fun i H' => Same H H' ∧ H' D = some (.lst ((List.replicate i true).map V.bl))) ?_ ?_ ?_⟩
        · rw [dpa_len hay]
          omega
        · rw [dpa_len hay]
          omega
        · exact ⟨s2.trans (same_upd nD), upd_same⟩
        · rintro i H' hi ⟨sm, eD⟩
          rw [Int.toNat_natCast] at hi
          have hds : i < ds.length := by rw [← dpa_len hay]; exact hi
          obtain ⟨vx, gx, dvx⟩ := dpa_get hax (List.getElem?_eq_getElem hds)
          obtain ⟨vy, gy, dvy⟩ := dpa_get hay (List.getElem?_eq_getElem hds)
          have ix : ∀ {a : Addr} {zs : List V} {v : V} {Q' : VK}, (SqL K H a zs ∨ SqT K H a zs) → zs[i]? = some v → Q' v H' → rIx K (.ref a) (.int (0 + (i : Int))) H' Q' := by
            intro a zs v Q' h g q'
            have e : atI zs (0 + (i : Int)) = some v := by rw [Int.zero_add]; exact atI_nat g
            rcases sq2 sm h with h | h
            · exact .inl ⟨a, zs, _, v, rfl, rfl, h, e, q'⟩
            · exact .inr (.inl ⟨a, zs, _, v, rfl, rfl, h, e, q'⟩)
          refine ⟨rfl, tYes_by (iteT ?_)⟩
          refine ⟨_, rfl, _, rfl, ix hsx gx ?_⟩
          refine ⟨_, rfl, _, rfl, ix hsy gy ?_⟩
          refine ⟨vx, vy, ds[i], rfl, dp_same sm dvx, dp_same sm dvy, hn _ (List.getElem_mem hds), ?_, fun H2 s4 => ?_⟩
          · exact shaped_mem (List.getElem_mem hds) (hd.elim (fun z => .inl (z ▸ sd)) (fun z => .inr (z ▸ sd)))
          · refine ⟨_, s4 _ _ eD, ?_, ?_, ?_⟩
            · rw [List.length_map, List.length_replicate]
              exact Nat.lt_of_lt_of_le (show i < 100000 by omega) (by decide)
            · exact same_mut (sm.trans s4) (s2.free nD)
            · rw [upd_same, List.replicate_succ', List.map_append]
              rfl
        · rintro H' ⟨sm, eD⟩
          refine ⟨D, _, rfl, SqL.of eD, ?_⟩
          have e : (List.replicate ((ys.length : Int)).toNat true).all id = true := by simp
          rw [e]
          exact q _ sm
theorem sc__law_worth : FnScope ["_law_signs", "_law_found", "_law_sign"] ["_law_signs"] (defScope s__law_worth) := ⟨rfl, rfl, rfl, by decide +kernel, rfl, by decide +kernel, by decide +kernel⟩
def spWorth (K : PySem.W.Frag) : Sp := fun vs H Q _ => ∃ (a : Addr) (ns : List Int), vs = [.ref a] ∧ SqL K H a (ns.map V.int) ∧ Q (.int (bn ns)) H
theorem ok__law_worth {f : Addr} {fd : FuncData} {k : Nat} (F : Fun K "_law_worth" "_law_worth" s__law_worth f fd) : FnOk P w K mg base CX0 (k + 1) f fd ["_law_signs"] (spWorth K) := by
  have sc := sc__law_worth
  refine F.ok sc (fun vs H Q E h => ?_) (fun cdv A outer s H vs Q E hr h => ?_)
  · obtain ⟨a, ns, rfl, _⟩ := h
    rfl
  · obtain ⟨a, ns, rfl, hS, q⟩ := h
    refine ⟨_, (pss_cons (ps_set (i := 1) sc.nd rfl (.inl rfl) pe_int)
 (pss_cons (ps_for PassesOwn.never rfl (pi_listK K rfl (pv 0)) (pg_name (i := 2) sc.nd rfl (.inl rfl))
  (pss_one (ps_set (i := 1) sc.nd rfl (.inl rfl) (pe_op op_add (pe_op op_mul (pv 1) pe_int) (pv 2)))))
 (pss_one (ps_ret (pv 1))))), ?_⟩
    refine ⟨_, rfl, a, rfl, ⟨_, hS⟩, for_list (K := K) (a := a) (xs := ns.map V.int) (fun i σ H' => ∃ y, σ = [some (.ref a), some (.int (bn (ns.take i))), y] ∧ H' = H) ⟨none, rfl, rfl⟩ (fun i σ H' _ h => ?_) ?_ ?_⟩
    · obtain ⟨_, _, rfl⟩ := h
      exact hS
    · rintro i x σ H' hx ⟨y, rfl, rfl⟩
      obtain ⟨z, hz, rfl⟩ := getI hx
      refine ⟨_, rfl, _, _, rfl, rfl, .inr ⟨by decide, by decide⟩, _, rfl, _, _, rfl, rfl, some (.int z), ?_, rfl⟩
      rw [bn_more hz, Int.mul_comm]
      rfl
    · rintro σ H' ⟨y, rfl, rfl⟩
      rw [List.length_map, List.take_length]
      exact ⟨_, rfl, q⟩
theorem sc__law_apart : FnScope ["_law_one", "_law_other", "_law_gap"] ["_law_one", "_law_other"] (defScope s__law_apart) := ⟨rfl, rfl, rfl, by decide +kernel, rfl, by decide +kernel, by decide +kernel⟩
theorem ok__law_apart {f : Addr} {fd : FuncData} {k : Nat} (F : Fun K "_law_apart" "_law_apart" s__law_apart f fd) (n_abs : mg "abs" = none) (n_min : mg "min" = none) : FnOk P w K mg base CX0 (k + 1) f fd ["_law_one", "_law_other"] spApart := by
  have sc := sc__law_apart
  refine F.ok sc (fun vs H Q E h => ?_) (fun cdv A outer s H vs Q E hr h => ?_)
  · obtain ⟨a, b, rfl, _⟩ := h
    rfl
  · obtain ⟨a, b, rfl, q⟩ := h
    refine ⟨_, (pss_cons (ps_set (i := 2) sc.nd rfl (.inl rfl) (pe_op op_mod (pe_callB call_abs (by rfl) n_abs (by decide +kernel) (pa_cons (pe_op op_sub (pv 0) (pv 1)) pa_nil)) pe_int))
 (pss_one (ps_ret (pe_callB (call_min2 rfl) (by rfl) n_min (by decide +kernel) (pa_cons (pv 2) (pa_cons (pe_op op_sub pe_int (pv 2)) pa_nil)))))), ?_⟩
    refine ⟨_, rfl, _, rfl, _, _, rfl, rfl, _, rfl, _, _, rfl, rfl, (by show (0 : Int) < 256; decide), ?_⟩
    refine ⟨_, rfl, _, rfl, _, _, rfl, rfl, _, _, rfl, ?_⟩
    rw [apart_law]
    exact q
theorem sc__law_step : FnScope ["_law_pace"] ["_law_pace"] (defScope s__law_step) := ⟨rfl, rfl, rfl, by decide +kernel, rfl, by decide +kernel, by decide +kernel⟩
def spLstep : Sp := fun vs H Q _ => ∃ (r : Int), vs = [.int r] ∧ okR r ∧ ∀ H', Same H H' → Q (.int (stepI r)) H'
theorem ok__law_step {f : Addr} {fd : FuncData} {k : Nat} (F : Fun K "_law_step" "_law_step" s__law_step f fd) : FnOk P w K mg base CX0 (k + 1) f fd ["_law_pace"] spLstep := by
  have sc := sc__law_step
  refine F.ok sc (fun vs H Q E h => ?_) (fun cdv A outer s H vs Q E hr h => ?_)
  · obtain ⟨r, rfl, _⟩ := h
    rfl
  · obtain ⟨r, rfl, ok, q⟩ := h
    refine ⟨_, (pss_one (ps_ret (pe_ix (ix_listK K rfl) (pe_lst (pa_cons pe_int (pa_cons pe_int (pa_cons pe_int (pa_cons pe_int pa_nil))))) (pe_op op_sub (pv 0) pe_int) (fun _ _ => rfl)))), ?_⟩
    refine ⟨(by show 4 ≤ sizeLine; decide), fun p np => ?_⟩
    have hq := q _ (same_upd (o := .lst [.int 64, .int 32, .int 16, .int 8]) np)
    rcases pts_step ok with ⟨rfl, _, e⟩ | ⟨rfl, _, e⟩ | ⟨rfl, _, e⟩ | ⟨rfl, _, e⟩ <;> rw [e] at hq <;> exact ⟨_, rfl, _, _, rfl, rfl, p, _, _, _, rfl, rfl, SqL.of upd_same, rfl, hq⟩
theorem sc__law_point : FnScope ["_law_figure", "_law_pace", "_law_wide"] ["_law_figure", "_law_pace"] (defScope s__law_point) := ⟨rfl, rfl, rfl, by decide +kernel, rfl, by decide +kernel, by decide +kernel⟩
def spLpoint : Sp := fun vs H Q _ => ∃ (n r : Int), vs = [.int n, .int r] ∧ okR r ∧ ∀ H', Same H H' → Q (.int (pointI n r)) H'
theorem point_eq (n r : Int) : n * stepI r - 128 + stepI r / 2 = pointI n r := by
  unfold pointI
  show _ = stepI r / 2 - 128 + n * stepI r
  omega
theorem ok__law_point {f : Addr} {fd : FuncData} {k : Nat} (F : Fun K "_law_point" "_law_point" s__law_point f fd) (c__law_step : Cal P w K mg base k "_law_step" ["_law_pace"] spLstep) : FnOk P w K mg base CX0 (k + 1) f fd ["_law_figure", "_law_pace"] spLpoint := by
  have sc := sc__law_point
  refine F.ok sc (fun vs H Q E h => ?_) (fun cdv A outer s H vs Q E hr h => ?_)
  · obtain ⟨n, r, rfl, _⟩ := h
    rfl
  · obtain ⟨n, r, rfl, ok, q⟩ := h
    refine ⟨_, (pss_cons (ps_set (i := 2) sc.nd rfl (.inl rfl) (pe_callC c__law_step hr (by rfl) (pa_cons (pv 1) pa_nil)))
 (pss_one (ps_ret (pe_op op_add (pe_op op_sub (pe_op op_mul (pv 0) (pv 2)) pe_int) (pe_op op_fdiv (pv 2) pe_int))))), ?_⟩
    have hs : 0 ≤ stepI r ∧ stepI r < 100 := by rcases pts_step ok with ⟨_, _, e⟩ | ⟨_, _, e⟩ | ⟨_, _, e⟩ | ⟨_, _, e⟩ <;> rw [e] <;> decide
    refine ⟨_, rfl, r, rfl, ok, fun H1 s1 => ?_⟩
    refine ⟨_, rfl, _, rfl, _, _, rfl, rfl, .inr ⟨by omega, by omega⟩, _, _, rfl, rfl, _, rfl, _, _, rfl, rfl, ⟨by decide, by decide⟩, _, _, rfl, rfl, ?_⟩
    show Q (.int (n * stepI r - 128 + stepI r / 2)) H1
    rw [point_eq]
    exact q H1 s1
theorem sc__law_coded : FnScope ["_law_signs", "_law_pace", "_law_found", "_law_older", "_law_newer", "_law_beats_now", "_law_k", "_law_first", "_law_extra"] ["_law_signs", "_law_pace"] (defScope s__law_coded) := ⟨rfl, rfl, rfl, by decide +kernel, rfl, by decide +kernel, by decide +kernel⟩
theorem xor_b {x y : Int} (hx : isB x) (hy : isB y) : Builtin.bitXor x y = (x + y) % 2 := by
  rcases hx with rfl | rfl <;> rcases hy with rfl | rfl <;> decide
def spLcoded (K : PySem.W.Frag) : Sp := fun vs H Q _ => ∃ (a : Addr) (ns : List Int) (r : Nat), vs = [.ref a, .int (r : Int)] ∧ SqL K H a (ns.map V.int) ∧ okR (r : Int) ∧ Bits ns ∧ ns.length % r = 0 ∧ ns.length ≤ 2000 ∧
  ∀ (H' : Hp) (p : Addr), Same H H' → H p = none → H' p = some (.lst ((codeL r ns).map V.int)) → Q (.ref p) H'
theorem beat_at {r n : Nat} {ns : List Int} {i : Nat} (hi : i < n + 2) : ∃ b : Bt, (bts r n ns ++ tl2)[i]? = some b ∧ (i < n → b = bt r ns i) ∧ (¬ i < n → b = (0, 0)) := by
  by_cases h : i < n
  · exact ⟨bt r ns i, by rw [List.getElem?_append_left (by rw [bts_len]; exact h), bts_at h], fun _ => rfl, fun z => absurd h z⟩
  · refine ⟨(0, 0), ?_, fun z => absurd z h, fun _ => rfl⟩
    rw [List.getElem?_append_right (by rw [bts_len]; omega), bts_len]
    have : i - n = 0 ∨ i - n = 1 := by omega
    rcases this with e | e <;> rw [e] <;> rfl
theorem ok__law_coded {f : Addr} {fd : FuncData} {k : Nat} (F : Fun K "_law_coded" "_law_coded" s__law_coded f fd) (n_len : mg "len" = none) (n_range : mg "range" = none) (c__law_worth : Cal P w K mg base k "_law_worth" ["_law_signs"] (spWorth K)) : FnOk P w K mg base CX0 (k + 1) f fd ["_law_signs", "_law_pace"] (spLcoded K) := by
  have sc := sc__law_coded
  refine F.ok sc (fun vs H Q E h => ?_) (fun cdv A outer s H vs Q E hr h => ?_)
  · obtain ⟨a, ns, r, rfl, _⟩ := h
    rfl
  · obtain ⟨a, ns, rn, rfl, hS, ok, hB, z0, hl, q⟩ := h
    refine ⟨_, (pss_cons (ps_set (i := 2) sc.nd rfl (.inl rfl) (pe_lst pa_nil))
 (pss_cons (ps_set (i := 3) sc.nd rfl (.inl rfl) pe_int)
 (pss_cons (ps_set (i := 4) sc.nd rfl (.inl rfl) pe_int)
 (pss_cons (ps_set (i := 5) sc.nd rfl (.inl rfl) (pe_op op_fdiv (pe_callB (call_lenK K rfl) (by rfl) n_len PySem.boot_len (pa_cons (pv 0) pa_nil)) (pv 1)))
 (pss_cons (ps_for PassesOwn.never rfl (pi_range1 (by rfl) n_range (pa_cons (pe_op op_add (pv 5) pe_int) pa_nil)) (pg_name (i := 6) sc.nd rfl (.inl rfl))
  (pss_cons (ps_set (i := 7) sc.nd rfl (.inl rfl) pe_int)
 (pss_cons (ps_set (i := 8) sc.nd rfl (.inl rfl) pe_int)
 (pss_cons (ps_if (pt_cmpR op_lt (pv 6) (pv 5) (nomark _))
  (pss_cons (ps_set (i := 7) sc.nd rfl (.inl rfl) (pe_ix (ix_listK K rfl) (pv 0) (pe_op op_mul (pv 6) (pv 1)) (fun _ _ => rfl)))
 (pss_one (ps_set (i := 8) sc.nd rfl (.inl rfl) (pe_callC c__law_worth hr (by rfl) (pa_cons (pe_slice (sl_listK K rfl) (pv 0) (po_some (pe_op op_add (pe_op op_mul (pv 6) (pv 1)) pe_int)) (po_some (pe_op op_add (pe_op op_mul (pv 6) (pv 1)) (pv 1)))) pa_nil)))))
  pss_nil)
 (pss_cons (ps_expr (pe_bmK K rfl PySem.F.plainAttrs_list PySem.F.slot_list_append PySem.F.type_list_append mt_append (pv 2) (pa_cons (pe_op op_add (pe_op op_add (pe_op op_mul pe_int (pv 8)) (pe_op op_mul pe_int (pe_op op_xor (pv 7) (pv 3)))) (pv 4)) pa_nil)))
 (pss_cons (ps_set (i := 3) sc.nd rfl (.inl rfl) (pv 4))
 (pss_one (ps_set (i := 4) sc.nd rfl (.inl rfl) (pv 7)))))))))
 (pss_one (ps_ret (pv 2)))))))), ?_⟩
    obtain ⟨r1, r4⟩ := id ok
    have hlen : ns.length = rn * (ns.length / rn) := by
      have := Nat.div_add_mod ns.length rn
      omega
    have hdiv : ((ns.map V.int).length : Int) / (rn : Int) = ((ns.length / rn : Nat) : Int) := by rw [List.length_map, Int.natCast_ediv]
    have hNl : ns.length / rn ≤ 2000 := Nat.le_trans (Nat.div_le_self _ _) hl
    refine ⟨Nat.zero_le _, fun po no => ?_⟩
    have s1 := same_upd (o := .lst []) no
    refine ⟨_, rfl, a, _, rfl, .inl (s1.seq hS), _, rfl, _, _, rfl, rfl, ⟨by show (0 : Int) < (rn : Int); omega, by show (rn : Int) < 1073741824; omega⟩, ?_⟩
    refine name_by ?_
    dsimp only
    rw [hdiv]
    generalize ns.length / rn = N at hlen hNl
    refine ⟨_, rfl, _, _, rfl, rfl, _, rfl, by omega, by omega, ?_⟩
    have en : ((N : Int) + 2).toNat = N + 2 := by omega
    rw [en]
    refine for_range (lo := 0) (n := N + 2) (fun i σ H' => ∃ (y6 y7 y8 : Option V), σ = [some (.ref a), some (.int (rn : Int)), some (.ref po), some (.int (stB 0 ((bts rn N ns ++ tl2).take i) / 2)), some (.int (stB 0 ((bts rn N ns ++ tl2).take i) % 2)), some (.int (N : Int)), y6, y7, y8] ∧ Same H H' ∧ H' po = some (.lst ((codeB 0 ((bts rn N ns ++ tl2).take i)).map V.int)))
      ⟨none, none, none, rfl, s1, upd_same⟩ ?_ ?_
    · rintro i σ H2 hi ⟨y6, y7, y8, rfl, s2, eo⟩
      obtain ⟨b, hb, hb1, hb2⟩ := beat_at (r := rn) (ns := ns) hi
      have hbb : isB b.1 := by
        by_cases h : i < N
        · rw [hb1 h]
          exact bt_bit hB i
        · rw [hb2 h]
          exact .inl rfl
      have hst : St4 (stB 0 ((bts rn N ns ++ tl2).take i)) := stB_st st4_0 (fun x hx => by
        have := rowB_bits (r := rn) hB x (by rw [rowB_of (by omega) hlen]; exact List.mem_of_mem_take hx)
        exact this)
      have hcl : (codeB 0 ((bts rn N ns ++ tl2).take i)).length ≤ 3000 := by
        rw [codeB_len, List.length_take]
        have : (bts rn N ns ++ tl2).length = N + 2 := by rw [List.length_append, bts_len]; rfl
        omega
      rw [stB_more hb, codeB_more hb]
      generalize stB 0 ((bts rn N ns ++ tl2).take i) = st at hst ⊢
      generalize codeB 0 ((bts rn N ns ++ tl2).take i) = co at eo hcl ⊢
      refine name_by ?_
      refine const_by ?_
      refine const_by ?_
      dsimp only
      refine if_by (J := fun σ1 H3 => σ1 = [some (.ref a), some (.int (rn : Int)), some (.ref po), some (.int (st / 2)), some (.int (st % 2)), some (.int (N : Int)), some (.int (0 + (i : Int))), some (.int b.1), some (.int b.2)] ∧ Same H2 H3) ?_ (fun rest => ?_)
      · rintro σ1 H3 ⟨rfl, s3⟩
        refine ⟨_, rfl, .inl ⟨rfl, _, SqL.of (s3 _ _ eo)⟩, _, rfl, _, _, rfl, rfl, .inl ⟨by decide, by decide⟩, _, rfl, _, rfl, _, _, rfl, rfl, _, _, rfl, rfl, .inl ⟨by decide, by decide⟩, _, _, rfl, rfl, _, rfl, _, _, rfl, rfl, po, _, _, rfl, rfl, s3 _ _ eo, ?_, ?_⟩
        · rw [List.length_map]
          exact sz4l (by omega)
        refine ⟨_, rfl, ⟨_, rfl, ⟨some (.int (0 + (i : Int))), some (.int b.1), some (.int b.2), ?_, same_mut (s2.trans s3) no, ?_⟩⟩⟩
        · have e1 : mvS st b.1 / 2 = st % 2 := by unfold mvS; rcases hbb with h | h <;> rw [h] <;> omega
          have e2 : mvS st b.1 % 2 = b.1 := by unfold mvS; rcases hbb with h | h <;> rw [h] <;> omega
          rw [e1, e2]
          rfl
        · have hob : isB (st / 2) := by
            rcases st4_cases hst with h | h | h | h <;> rw [h] <;> first | exact .inl rfl | exact .inr rfl
          have e3 : 4 * b.2 + 2 * Builtin.bitXor b.1 (st / 2) + st % 2 = 4 * b.2 + clS st b.1 := by
            rw [xor_b hbb hob]
            unfold clS
            rw [Int.add_comm b.1 (st / 2)]
            omega
          rw [upd_same, List.map_append, ← e3]
          rfl
      · refine ⟨_, rfl, _, rfl, _, _, rfl, rfl, _, rfl, ite2 (fun e => ?_) (fun e => ?_)⟩
        · have e : (0 : Int) + (i : Int) < (N : Int) := of_decide_eq_true e
          have hiN : i < N := by omega
          have hix := idx_le hiN hlen
          have ei : ((0 : Int) + (i : Int)) * (rn : Int) = ((i * rn : Nat) : Int) := by rw [Int.zero_add, Int.natCast_mul]
          have g0 : (ns.map V.int)[i * rn]? = some (.int b.1) := by
            rw [hb1 hiN]
            show _ = some (V.int (ns.getD (i * rn) 0))
            rw [List.getElem?_map, List.getD_eq_getElem?_getD, List.getElem?_eq_getElem (by omega)]
            rfl
          refine ⟨_, rfl, _, rfl, _, rfl, _, _, rfl, rfl, .inr ⟨by omega, by omega⟩, a, _, _, _, rfl, rfl, s2.seq hS, (by show atI _ (((0 : Int) + (i : Int)) * (rn : Int)) = _; rw [ei]; exact atI_nat g0), ?_⟩
          refine ⟨_, rfl, _, rfl, _, rfl, _, _, rfl, rfl, .inr ⟨by omega, by omega⟩, _, _, rfl, rfl, _, rfl, _, rfl, _, rfl, _, _, rfl, rfl, .inr ⟨by omega, by omega⟩, _, rfl, _, _, rfl, rfl, _, rfl, a, _, rfl, s2.seq hS, fun p8 n8 => ?_⟩
          have ec : cutV (ns.map V.int) (some (((0 : Int) + (i : Int)) * (rn : Int) + 1)) (some (((0 : Int) + (i : Int)) * (rn : Int) + (rn : Int))) = ((ns.drop (i * rn + 1)).take (rn - 1)).map V.int := by
            rw [ei]
            have h1 : ((i * rn : Nat) : Int) + 1 = ((i * rn + 1 : Nat) : Int) := rfl
            have h2 : ((i * rn : Nat) : Int) + (rn : Int) = ((i * rn + rn : Nat) : Int) := rfl
            rw [h1, h2, cut_mid _ _ _ (by omega), show i * rn + rn - (i * rn + 1) = rn - 1 by omega, List.map_take, List.map_drop]
          refine ⟨p8, (ns.drop (i * rn + 1)).take (rn - 1), rfl, SqL.of (by rw [upd_same]; exact congrArg (fun x => some (HO.lst x)) ec), ?_⟩
          refine rest _ _ ⟨?_, same_upd n8⟩
          rw [hb1 hiN]
          rfl
        · have e : ¬ (0 : Int) + (i : Int) < (N : Int) := fun h => e (decide_eq_true h)
          refine rest _ _ ⟨?_, Same.refl _⟩
          rw [hb2 (by omega)]
          rfl
    · rintro σ H2 ⟨y6, y7, y8, rfl, s2, eo⟩
      rw [List.take_of_length_le (by rw [List.length_append, bts_len]; exact Nat.le_refl _), ← rowB_of (by omega) hlen] at eo
      exact ⟨_, rfl, q H2 po s2 no eo⟩
theorem sc__law_tones : FnScope ["_law_signs", "_law_pace", "_law_figure"] ["_law_signs", "_law_pace"] (defScope s__law_tones) := ⟨rfl, rfl, rfl, by decide +kernel, rfl, by decide +kernel, by decide +kernel⟩
def tones (r : Nat) (ns : List Int) : List Int := (codeL r ns).map fun c => pointI c (r : Int)
def spTones (K : PySem.W.Frag) : Sp := fun vs H Q _ => ∃ (a : Addr) (ns : List Int) (r : Nat), vs = [.ref a, .int (r : Int)] ∧ SqL K H a (ns.map V.int) ∧ okR (r : Int) ∧ Bits ns ∧ ns.length % r = 0 ∧ ns.length ≤ 2000 ∧
  ∀ (H' : Hp) (p : Addr), Same H H' → H p = none → H' p = some (.lst ((tones r ns).map V.int)) → Q (.ref p) H'
theorem codeL_le {r : Nat} {ns : List Int} (hr : 0 < r) (h : ns.length % r = 0) : (codeL r ns).length ≤ ns.length + 2 := by
  have hl : ns.length = r * (ns.length / r) := by
    have := Nat.div_add_mod ns.length r
    omega
  have := Nat.div_le_self ns.length r
  unfold codeL
  rw [codeB_len, rowB_of hr hl, List.length_append, bts_len]
  show ns.length / r + 2 ≤ _
  omega
theorem ok__law_tones {f : Addr} {fd : FuncData} {k : Nat} (F : Fun K "_law_tones" "_law_tones" s__law_tones f fd) (c__law_point : Cal P w K mg base k "_law_point" ["_law_figure", "_law_pace"] spLpoint) (c__law_coded : Cal P w K mg base k "_law_coded" ["_law_signs", "_law_pace"] (spLcoded K)) : FnOk P w K mg base CX0 (k + 1) f fd ["_law_signs", "_law_pace"] (spTones K) := by
  have sc := sc__law_tones
  refine F.ok sc (fun vs H Q E h => ?_) (fun cdv A outer s H vs Q E hr h => ?_)
  · obtain ⟨a, ns, r, rfl, _⟩ := h
    rfl
  · obtain ⟨a, ns, rn, rfl, hS, ok, hB, z0, hl, q⟩ := h
    refine ⟨_, (pss_one (ps_ret (pe_lc (own := [("_law_figure", 2)]) (g := gName 2) (by rfl) sc.nd (pi_listK K rfl (pe_callC c__law_coded hr (by rfl) (pa_cons (pv 0) (pa_cons (pv 1) pa_nil)))) (blkOk_by (own := [("_law_figure", 2)]) (N := ["_law_signs", "_law_pace", "_law_figure"]) (sc := defScope s__law_tones) (by decide +kernel)) (fun _ _ _ _ _ => (pg_name (i := 2) sc.nd rfl (Or.inl rfl))) (fun _ _ _ _ _ => pts_nil) (fun _ _ _ _ _ => (pe_callC c__law_point hr (by rfl) (pa_cons (pv 2) (pa_cons (pv 1) pa_nil))))))), ?_⟩
    obtain ⟨r1, r4⟩ := id ok
    have hcl := codeL_le (r := rn) (by omega) z0
    refine ⟨_, rfl, _, rfl, a, ns, rn, rfl, hS, ok, hB, z0, hl, fun H1 p1 s1 n1 e1 => ?_⟩
    have eT : tones rn ns = (codeL rn ns).map fun c => pointI c (rn : Int) := rfl
    rw [eT] at q
    generalize codeL rn ns = cs at e1 hcl q
    refine ⟨p1, rfl, ⟨_, SqL.of e1⟩, fun D nD => lc_list (K := K) (a := p1) (xs := cs.map V.int) (fun i H' => Same H1 H' ∧ H' D = some (.lst (((cs.take i).map fun c => pointI c (rn : Int)).map V.int))) ⟨same_upd nD, upd_same⟩ (fun i H' _ h => SqL.of (h.1 _ _ e1)) ?_ ?_⟩
    · rintro i x H2 hx ⟨s2, eD⟩
      obtain ⟨z, hz, rfl⟩ := getI hx
      have hi : i < cs.length := (List.getElem?_eq_some_iff.mp hz).1
      refine ⟨rfl, tYes_by (iteT ?_)⟩
      refine ⟨_, rfl, _, rfl, z, (rn : Int), rfl, ok, fun H3 s3 => ?_⟩
      refine ⟨_, s3 _ _ eD, ?_, same_mut (s2.trans s3) nD, ?_⟩
      · rw [List.length_map, List.length_map, List.length_take]
        exact sz4l (by omega)
      · rw [upd_same, take_more hz, List.map_append, List.map_append]
        rfl
    · rintro H2 ⟨s2, eD⟩
      rw [List.length_map, List.take_length] at eD
      exact q H2 D (s1.trans s2) (s1.free nD) eD
/-- rows of ints at these places -/
def RowsAt (H : Hp) : List Addr → List (List Int) → Prop
  | [], [] => True
  | p :: ps, r :: rs => H p = some (.lst (r.map V.int)) ∧ RowsAt H ps rs
  | _, _ => False
theorem RowsAt.dp {H : Hp} : ∀ {ps : List Addr} {rs : List (List Int)}, RowsAt H ps rs → DpAll K H (ps.map V.ref) (rs.map dI)
  | [], [], _ => .nil
  | p :: ps, r :: rs, h => .cons (dp_ints (SqL.of h.1)) (RowsAt.dp h.2)
theorem RowsAt.len {H : Hp} : ∀ {ps : List Addr} {rs : List (List Int)}, RowsAt H ps rs → ps.length = rs.length
  | [], [], _ => rfl
  | p :: ps, r :: rs, h => congrArg (· + 1) (RowsAt.len h.2)
theorem RowsAt.loc {H H' : Hp} : ∀ {ps : List Addr} {rs : List (List Int)}, (∀ a ∈ ps, ∀ o, H a = some o → H' a = some o) → RowsAt H ps rs → RowsAt H' ps rs
  | [], [], _, _ => trivial
  | p :: ps, r :: rs, k, h => ⟨k p (.head _) _ h.1, RowsAt.loc (fun a ha => k a (.tail _ ha)) h.2⟩
theorem RowsAt.pl {H : Hp} : ∀ {ps : List Addr} {rs : List (List Int)}, RowsAt H ps rs → ∀ a ∈ ps, ∃ o, H a = some o ∧ plain o
  | p :: ps, r :: rs, h, a, ha => by
    rcases List.mem_cons.mp ha with rfl | ha
    · exact ⟨_, h.1, trivial⟩
    · exact RowsAt.pl h.2 a ha
theorem RowsAt.al {H : Hp} {ps : List Addr} {rs : List (List Int)} (h : RowsAt H ps rs) (a : Addr) (ha : a ∈ ps) : H a ≠ none := by
  obtain ⟨o, e, _⟩ := RowsAt.pl h a ha
  rw [e]
  exact fun z => nomatch z
theorem RowsAt.snoc {H : Hp} {p : Addr} {r : List Int} (e : H p = some (.lst (r.map V.int))) : ∀ {ps : List Addr} {rs : List (List Int)}, RowsAt H ps rs → RowsAt H (ps ++ [p]) (rs ++ [r])
  | [], [], _ => ⟨e, trivial⟩
  | q :: ps, s :: rs, h => ⟨h.1, RowsAt.snoc e h.2⟩
theorem RowsAt.at {H : Hp} : ∀ {ps : List Addr} {rs : List (List Int)} {i : Nat} {p : Addr}, RowsAt H ps rs → ps[i]? = some p → ∃ r, rs[i]? = some r ∧ H p = some (.lst (r.map V.int))
  | q :: ps, s :: rs, 0, p, h, e => by cases e; exact ⟨s, rfl, h.1⟩
  | q :: ps, s :: rs, i + 1, p, h, e => RowsAt.at (i := i) h.2 e
/-- a list of rows; what it holds -/
def tRowsG (pl : Addr) (xs : List V) (ps : List Addr) (rs : List (List Int)) : Th := ⟨pl :: ps, fun H => H pl = some (.lst xs) ∧ RowsAt H ps rs ∧ pl ∉ ps, fun H H' k h => ⟨k pl (.head _) _ h.1, RowsAt.loc (fun a ha => k a (.tail _ ha)) h.2.1, h.2.2⟩, fun H h a ha => by
  rcases List.mem_cons.mp ha with rfl | ha
  · exact ⟨_, h.1, trivial⟩
  · exact RowsAt.pl h.2.1 a ha⟩
abbrev tRows (pl : Addr) (ps : List Addr) (rs : List (List Int)) : Th := tRowsG pl (ps.map V.ref) ps rs
def dRows (rs : List (List Int)) : PyData := .list (rs.map dI)
theorem dp_rows {H : Hp} {pl : Addr} {ps : List Addr} {rs : List (List Int)} (h1 : H pl = some (.lst (ps.map V.ref))) (h2 : RowsAt H ps rs) : Dp K H (.ref pl) (dRows rs) := .lst (SqL.of h1) (RowsAt.dp h2)
theorem canLay_rows : ∀ rs : List (List Int), PyData.canLayAll0 (rs.map dI) = true
  | [] => rfl
  | r :: rs => by
    show (PyData.canLayAll0 (r.map PyData.int) && PyData.canLayAll0 (rs.map dI)) = true
    rw [canLay_ints r, canLay_rows rs]
    rfl
theorem depth_rows : ∀ rs : List (List Int), PyData.depthAll (rs.map dI) ≤ 1
  | [] => Nat.zero_le _
  | r :: rs => by
    show max (PyData.depthAll (r.map PyData.int) + 1) (PyData.depthAll (rs.map dI)) ≤ 1
    rw [depth_ints r]
    exact Nat.max_le.mpr ⟨Nat.le_refl _, depth_rows rs⟩
theorem shaped_rows (rs : List (List Int)) : SeqAt.shaped (dRows rs) = true := by
  unfold SeqAt.shaped
  rw [Bool.and_eq_true]
  refine ⟨canLay_rows rs, decide_eq_true ?_⟩
  show PyData.depthAll (rs.map dI) + 1 ≤ 64
  have := depth_rows rs
  omega
theorem dn_rows {rs : List (List Int)} (h : rs.length ≤ 100000) (hr : ∀ r ∈ rs, r.length ≤ 100000) (n : Nat) : Dn (n + 3) (dRows rs) := .inr (.inr (.inr (.inr ⟨_, .inl rfl, by rw [List.length_map]; exact h, fun e he => by
  obtain ⟨r, hm, rfl⟩ := List.mem_map.mp he
  exact .inr (.inr (.inr (.inr ⟨_, .inl rfl, by rw [List.length_map]; exact hr r hm, fun e he => by
    obtain ⟨z, _, rfl⟩ := List.mem_map.mp he
    exact .inr (.inl ⟨z, rfl⟩)⟩)))⟩)))
theorem sc__law_far : FnScope ["_law_bag_here", "_law_figure"] ["_law_bag_here"] (defScope s__law_far) := ⟨rfl, rfl, rfl, by decide +kernel, rfl, by decide +kernel, by decide +kernel⟩
/-- any number -/
def spFar : Sp := fun vs H Q _ => ∃ (b : Addr × Addr), vs = [.ref b.1] ∧ Bag b H ∧ ∀ (H' : Hp) (z : Int), Mv b.1 H H' → Bag b H' → z.natAbs ≤ 1000000000000 → Q (.int z) H'
theorem ok__law_far {f : Addr} {fd : FuncData} {k : Nat} (F : Fun K "_law_far" "_law_far" s__law_far f fd) (c__law_pick : Cal P w K mg base k "_law_pick" ["_law_bag_here", "_law_top"] spPickW) : FnOk P w K mg base CX0 (k + 1) f fd ["_law_bag_here"] spFar := by
  have sc := sc__law_far
  refine F.ok sc (fun vs H Q E h => ?_) (fun cdv A outer s H vs Q E hr h => ?_)
  · obtain ⟨b, rfl, _⟩ := h
    rfl
  · obtain ⟨b, rfl, hB, q⟩ := h
    refine ⟨_, (pss_cons (ps_set (i := 1) sc.nd rfl (.inl rfl) (pe_callC c__law_pick hr (by rfl) (pa_cons (pv 0) (pa_cons (pe_op op_pow pe_int pe_int) pa_nil))))
 (pss_one (ps_ret (pe_ifExp (pt_cmpR op_eq (pe_callC c__law_pick hr (by rfl) (pa_cons (pv 0) (pa_cons pe_int pa_nil))) pe_int (nomark _)) (pv 1) (pe_op op_sub (pe_un un_neg pe_int) (pv 1)))))), ?_⟩
    refine ⟨_, rfl, 10, 12, rfl, rfl, ⟨by decide, by decide, by decide⟩, b, _, rfl, hB, by decide, by decide, fun H1 d mv1 hB1 d0 d1 => ?_⟩
    have d1 : d < 1000000000000 := d1
    refine ⟨_, rfl, b, 2, rfl, hB1, by decide, by decide, fun H2 e mv2 hB2 e0 e1 => ?_⟩
    refine ⟨rfl, _, rfl, ite2 (fun z => ?_) (fun z => ?_)⟩
    · exact ⟨_, rfl, q H2 d (mv1.trans mv2) hB2 (by omega)⟩
    · exact ⟨1, rfl, _, rfl, _, _, rfl, rfl, q H2 _ (mv1.trans mv2) hB2 (by omega)⟩
theorem sc__law_cost : FnScope ["_law_heard", "_law_signs", "_law_pace", "_law_found", "_law_one", "_law_other"] ["_law_heard", "_law_signs", "_law_pace"] (defScope s__law_cost) := ⟨rfl, rfl, rfl, by decide +kernel, rfl, by decide +kernel, by decide +kernel⟩
def spLcost (K : PySem.W.Frag) : Sp := fun vs H Q _ => ∃ (a c : Addr) (hs ns : List Int) (r : Nat), vs = [.ref a, .ref c, .int (r : Int)] ∧ SqL K H a (hs.map V.int) ∧ SqL K H c (ns.map V.int) ∧ okR (r : Int) ∧ Bits ns ∧ ns.length % r = 0 ∧ ns.length ≤ 2000 ∧ hs.length = (codeL r ns).length ∧
  ∀ (H' : Hp), Same H H' → Q (.int (costL r hs ns)) H'
theorem zS_more {r : Int} {hs cs : List Int} {i : Nat} {h c : Int} (e1 : hs[i]? = some h) (e2 : cs[i]? = some c) : zS r (hs.take (i + 1)) (cs.take (i + 1)) = zS r (hs.take i) (cs.take i) + sqA h c r := by
  unfold zS
  have l1 := (List.getElem?_eq_some_iff.mp e1).1
  have l2 := (List.getElem?_eq_some_iff.mp e2).1
  rw [take_more e1, take_more e2, List.zip_append (by rw [List.length_take, List.length_take]; omega), List.map_append, List.sum_append]
  show _ + (sqA h c r + 0) = _
  rw [Int.add_zero]
theorem ok__law_cost {f : Addr} {fd : FuncData} {k : Nat} (F : Fun K "_law_cost" "_law_cost" s__law_cost f fd) (n_zip : mg "zip" = none) (c__law_tones : Cal P w K mg base k "_law_tones" ["_law_signs", "_law_pace"] (spTones K)) (c__law_apart : Cal P w K mg base k "_law_apart" ["_law_one", "_law_other"] spApart) : FnOk P w K mg base CX0 (k + 1) f fd ["_law_heard", "_law_signs", "_law_pace"] (spLcost K) := by
  have sc := sc__law_cost
  refine F.ok sc (fun vs H Q E h => ?_) (fun cdv A outer s H vs Q E hr h => ?_)
  · obtain ⟨a, c, hs, ns, r, rfl, _⟩ := h
    rfl
  · obtain ⟨a, c, hs, ns, rn, rfl, hA, hC, ok, hB, z0, hl, hlen, q⟩ := h
    refine ⟨_, (pss_cons (ps_set (i := 3) sc.nd rfl (.inl rfl) pe_int)
 (pss_cons (ps_for PassesOwn.never rfl (pi_zip (by rfl) n_zip (pa_cons (pv 0) (pa_cons (pe_callC c__law_tones hr (by rfl) (pa_cons (pv 1) (pa_cons (pv 2) pa_nil))) pa_nil))) (pg_tup rfl (pgs_cons (pg_name (i := 4) sc.nd rfl (.inl rfl)) (pgs_cons (pg_name (i := 5) sc.nd rfl (.inl rfl)) pgs_nil)))
  (pss_one (ps_set (i := 3) sc.nd rfl (.inl rfl) (pe_op op_add (pv 3) (pe_op op_mul (pe_callC c__law_apart hr (by rfl) (pa_cons (pv 4) (pa_cons (pv 5) pa_nil))) (pe_callC c__law_apart hr (by rfl) (pa_cons (pv 4) (pa_cons (pv 5) pa_nil))))))))
 (pss_one (ps_ret (pv 3))))), ?_⟩
    refine ⟨_, rfl, _, rfl, _, rfl, c, ns, rn, rfl, hC, ok, hB, z0, hl, fun H1 p1 s1 n1 e1 => ?_⟩
    have eq0 : costL rn hs ns = zS (rn : Int) hs (codeL rn ns) := rfl
    rw [eq0] at q
    unfold tones at e1
    generalize codeL rn ns = cs at e1 hlen q
    refine ⟨a, p1, _, _, rfl, s1.seq hA, SqL.of e1, RZ.for_zipL (xs := hs.map V.int) (ys := (cs.map fun c => pointI c (rn : Int)).map V.int) (by rw [List.length_map, List.length_map, List.length_map, hlen]) (fun i σ H' => ∃ y4 y5, σ = [some (.ref a), some (.ref c), some (.int (rn : Int)), some (.int (zS (rn : Int) (hs.take i) (cs.take i))), y4, y5] ∧ Same H1 H') ⟨none, none, rfl, Same.refl _⟩ (fun i σ H' h => ?_) ?_ ?_⟩
    · obtain ⟨_, _, _, s2⟩ := h
      exact ⟨(s1.trans s2).seq hA, SqL.of (s2 _ _ e1)⟩
    · rintro i x y T σ H2 hx hy ⟨y4, y5, rfl, s2⟩ nT
      obtain ⟨h, hh, rfl⟩ := getI hx
      obtain ⟨t, ht, rfl⟩ := getI hy
      obtain ⟨c2, hc, rfl⟩ : ∃ c2, cs[i]? = some c2 ∧ t = pointI c2 (rn : Int) := by
        rw [List.getElem?_map] at ht
        cases ec : cs[i]? with
        | none => rw [ec] at ht; cases ht
        | some c => rw [ec] at ht; exact ⟨c, rfl, (Option.some.inj ht).symm⟩
      have s3 := s2.trans (same_upd (o := .tup [.int h, .int (pointI c2 (rn : Int))]) nT)
      have hap := apart_le h (pointI c2 (rn : Int))
      refine ⟨T, _, rfl, SqT.of upd_same, rfl, _, _, rfl, _, _, rfl, rfl, ?_⟩
      refine ⟨_, rfl, _, rfl, _, rfl, _, _, rfl, _, rfl, _, rfl, _, _, rfl, _, _, rfl, rfl, .inl ⟨by omega, by omega⟩, _, _, rfl, rfl, ?_⟩
      refine ⟨some (.int h), some (.int (pointI c2 (rn : Int))), ?_, s3⟩
      rw [zS_more hh hc]
      unfold sqA
      rw [sq_mul]
      rfl
    · rintro σ H2 ⟨y4, y5, rfl, s2⟩
      rw [List.length_map, List.take_length, hlen, List.take_length]
      exact ⟨_, rfl, q H2 (s1.trans s2)⟩
theorem sc__law_no_pace : FnScope ["_law_bag_here"] ["_law_bag_here"] (defScope s__law_no_pace) := ⟨rfl, rfl, rfl, by decide +kernel, rfl, by decide +kernel, by decide +kernel⟩
def spNoPace : Sp := fun vs H Q _ => ∃ (b : Addr × Addr), vs = [.ref b.1] ∧ Bag b H ∧ ∀ (H' : Hp) (z : Int), Mv b.1 H H' → Bag b H' → ¬ okR z → Q (.int z) H'
theorem ok__law_no_pace {f : Addr} {fd : FuncData} {k : Nat} (F : Fun K "_law_no_pace" "_law_no_pace" s__law_no_pace f fd) (c__law_of : Cal P w K mg base k "_law_of" ["_law_bag_here", "_law_some"] (spOf K)) : FnOk P w K mg base CX0 (k + 1) f fd ["_law_bag_here"] spNoPace := by
  have sc := sc__law_no_pace
  refine F.ok sc (fun vs H Q E h => ?_) (fun cdv A outer s H vs Q E hr h => ?_)
  · obtain ⟨b, rfl, _⟩ := h
    rfl
  · obtain ⟨b, rfl, hB, q⟩ := h
    refine ⟨_, (pss_one (ps_ret (pe_callC c__law_of hr (by rfl) (pa_cons (pv 0) (pa_cons (pe_lst (pa_cons pe_int (pa_cons pe_int (pa_cons (pe_un un_neg pe_int) (pa_cons (pe_op op_pow pe_int pe_int) pa_nil))))) pa_nil))))), ?_⟩
    refine ⟨_, rfl, 1, rfl, 10, 15, rfl, rfl, ⟨by decide, by decide, by decide⟩, (by show 4 ≤ sizeLine; decide), fun p np => ?_⟩
    have h1 := (SH.nil hB).new (o := .lst [.int 0, .int 5, .int (-1), .int (10 ^ Int.toNat 15)]) np
    refine ⟨b, p, _, rfl, h1.bag, h1.ne (.head _), upd_same, (by show 0 < 4; decide), (by show 4 < 1000; decide), fun H' v mv hB' hv => ?_⟩
    have mv' : Mv b.1 H H' := (Mv.of (same_upd np)).trans mv
    rcases List.mem_cons.mp hv with rfl | hv
    · exact q H' 0 mv' hB' (by unfold okR; decide)
    rcases List.mem_cons.mp hv with rfl | hv
    · exact q H' 5 mv' hB' (by unfold okR; decide)
    rcases List.mem_cons.mp hv with rfl | hv
    · exact q H' (-1) mv' hB' (by unfold okR; decide)
    rw [List.mem_singleton.mp hv]
    exact q H' (10 ^ Int.toNat 15) mv' hB' (by unfold okR; decide)
/-! ### laws with lambdas: what is carried on; refusals compared; numbers on the ring -/
theorem Hw.extX {L : List (Addr × List V)} {T0 : List (Addr × Str)} {Ts : List Th} {H H' : Hp} (h : Hw K L T0 Ts H) (e : LamX.ExtN H H') (t : LamX.Tabs T0 H') : Hw K L T0 Ts H' := ⟨h.hs.extN e t, fun p hp => by
  rcases h.tf p hp with (g | ⟨o, g⟩) | g
  · exact .inl (.inl (e _ _ g (fun ps z => by cases z)))
  · exact .inl (.inr ⟨o, e _ _ g (fun ps z => by cases z)⟩)
  · exact .inr g⟩
theorem same_codeO {H H' : Hp} {c : Addr} {q : Str} (s : Same H H') (h : H c = some (LamX.CodeO c q)) : H' c = some (LamX.CodeO c q) := s _ _ h
theorem dp_s2 {H : Hp} {a : Addr} {x y : Str} (h : H a = some (.tup [.str x, .str y])) : Dp K H (.ref a) (.tuple [.str x, .str y]) := .tup (.inl (.inl h)) (.cons (.str x) (.cons (.str y) .nil))
theorem shaped_s2 {x y : Str} (hx : PyData.canLay0 (.str x) = true) (hy : PyData.canLay0 (.str y) = true) : SeqAt.shaped (.tuple [.str x, .str y]) = true := by
  unfold SeqAt.shaped
  rw [Bool.and_eq_true]
  refine ⟨?_, decide_eq_true (by show max 0 (max 0 0) + 1 ≤ 64; decide)⟩
  show (PyData.canLay0 (.str x) && (PyData.canLay0 (.str y) && true)) = true
  rw [hx, hy]
  rfl
theorem neD_s2 {H : Hp} {a c : Addr} {x y : Str} {Q : VK} (hx : PyData.canLay0 (.str x) = true) (hy : PyData.canLay0 (.str y) = true) (h1 : H a = some (.tup [.str x, .str y])) (h2 : H c = some (.tup [.str x, .str y])) (q : Q (.bl false) H) : rNeD K (.ref a) (.ref c) H Q := by
  refine ⟨_, _, dp_s2 h1, dp_s2 h2, shaped_s2 hx hy, shaped_s2 hx hy, ?_⟩
  rw [SeqAt.eqv_refl _ (SeqAt.canLay_of_shaped (shaped_s2 hx hy))]
  exact q
theorem lay_Refused : PyData.canLay0 (.str "refused") = true := by decide +kernel
theorem lay_BadRate' : PyData.canLay0 (.str "BadRate") = true := by decide +kernel
theorem lay_BadCount' : PyData.canLay0 (.str "BadCount") = true := by decide +kernel
/-- a refusal told, and what was due: != tells False -/
theorem ref_ne {H : Hp} {x y : Str} {Q : VK} (hx : PyData.canLay0 (.str x) = true) (hy : PyData.canLay0 (.str y) = true) {p p' : Addr} (np : H p = none) (np' : upd H p (.tup [.str x, .str y]) p' = none)
    (q : Q (.bl false) (upd (upd H p (.tup [.str x, .str y])) p' (.tup [.str x, .str y]))) : rNeD K (.ref p) (.ref p') (upd (upd H p (.tup [.str x, .str y])) p' (.tup [.str x, .str y])) Q :=
  neD_s2 hx hy (same_upd np' _ _ upd_same) upd_same q
/-! whole rings put on change nothing -/
theorem ncl_mod (x low r : Int) : ncl (x % 256) low r = ncl x low r := by
  unfold ncl
  rw [show (x % 256 - pointI low r) % 256 = (x - pointI low r) % 256 by omega]
theorem sqA_mod (h n r : Int) : sqA (h % 256) n r = sqA h n r := by
  unfold sqA apartI fold
  rw [show (h % 256 - pointI n r + 128) % 256 = (h - pointI n r + 128) % 256 by omega]
abbrev modL (hs : List Int) : List Int := hs.map fun x => x % 256
theorem bestR_mod (x : Int) (cs : List Int) (r : Int) : bestR (x % 256) cs r = bestR x cs r := by
  unfold bestR bestT way
  simp only [ncl_mod]
theorem tailC_mod (r : Int) : ∀ hs, tailC r (modL hs) = tailC r hs
  | [] => rfl
  | h :: hs => by
    show (List.range 4).map (fun s => sqA (h % 256) (clS (s : Nat) 0) r + (tailC r (modL hs)).getD (mvS (s : Nat) 0).toNat 0) = _
    rw [tailC_mod r hs]
    simp only [sqA_mod]
    rfl
theorem dpC_mod (r : Int) (tc : List Int) : ∀ hs, dpC r tc (modL hs) = dpC r tc hs
  | [] => rfl
  | h :: hs => by
    show costsOf (bestR (h % 256) (dpC r tc (modL hs)) r) = _
    rw [dpC_mod r tc hs, bestR_mod]
    rfl
theorem dpB_mod (r : Int) (tc : List Int) : ∀ hs, dpB r tc (modL hs) = dpB r tc hs
  | [] => rfl
  | h :: hs => by
    show bestR (h % 256) (dpC r tc (modL hs)) r :: dpB r tc (modL hs) = _
    rw [dpC_mod r tc hs, bestR_mod, dpB_mod r tc hs]
    rfl
theorem hpRow_mod (r : Nat) (hs : List Int) : hpRow r (modL hs) = hpRow r hs := by
  unfold hpRow
  rw [List.length_map, ← List.map_drop, ← List.map_take, tailC_mod, dpB_mod]
theorem hpCost_mod (r : Nat) (hs : List Int) : hpCost r (modL hs) = hpCost r hs := by
  unfold hpCost
  rw [List.length_map, ← List.map_drop, ← List.map_take, tailC_mod, dpC_mod]
theorem hp_ring {r : Nat} {hs gs : List Int} (e : modL gs = modL hs) : hpRow r gs = hpRow r hs ∧ hpCost r gs = hpCost r hs := by
  rw [← hpRow_mod r gs, ← hpCost_mod r gs, e, hpRow_mod, hpCost_mod]
  exact ⟨rfl, rfl⟩
theorem codeO_upd {H : Hp} {a c : Addr} {o : HO} {xs : List V} {q : Str} (ha : H a = some (.lst xs)) (h : H c = some (LamX.CodeO c q)) : upd H a o c = some (LamX.CodeO c q) := by
  rw [upd_ne (fun z => ?_)]
  · exact h
  · rw [z, ha] at h
    unfold LamX.CodeO at h
    cases h
theorem neD_i2 {H : Hp} {a c : Addr} {ns : List Int} {Q : VK} (h1 : SqL K H a (ns.map V.int)) (h2 : SqL K H c (ns.map V.int)) (q : Q (.bl false) H) : rNeD K (.ref a) (.ref c) H Q := by
  refine ⟨_, _, dp_ints h1, dp_ints h2, shaped_ints ns, shaped_ints ns, ?_⟩
  rw [SeqAt.eqv_refl _ (SeqAt.canLay_of_shaped (shaped_ints ns))]
  exact q
theorem rNe_eq {x y : V} {H : Hp} {Q : VK} (e : x = y) (s : scal y y = true) (q : Q (.bl false) H) : rNe x y H Q := by
  subst e
  refine ⟨s, ?_⟩
  rw [show decide (x = x) = true from decide_eq_true rfl]
  exact q
/-- a row and its cost -/
abbrev dRC (row : List Int) (c : Int) : PyData := .tuple [dI row, .int c]
theorem dp_rc {H : Hp} {p pb : Addr} {row : List Int} {c : Int} (t : SqT K H p [.ref pb, .int c]) (h : SqL K H pb (row.map V.int)) : Dp K H (.ref p) (dRC row c) := .tup t (.cons (dp_ints h) (.cons (.int c) .nil))
theorem dn_rc (row : List Int) (c : Int) (h : row.length ≤ 100000) (n : Nat) : Dn (n + 3) (dRC row c) := .inr (.inr (.inr (.inr ⟨_, .inr rfl, by show 2 ≤ 100000; decide, fun e he => by
  rcases List.mem_cons.mp he with rfl | he
  · exact dn_ints row h n
  · rw [List.mem_singleton.mp he]
    exact .inr (.inl ⟨c, rfl⟩)⟩)))
theorem modL_more {hs gs : List Int} {j : Nat} {x k : Int} (hx : hs[j]? = some x) (e : modL gs = modL (hs.take j)) : modL (gs ++ [x + 256 * k]) = modL (hs.take (j + 1)) := by
  rw [List.take_succ, hx]
  unfold modL at *
  rw [List.map_append, List.map_append, e]
  show _ ++ [(x + 256 * k) % 256] = _ ++ [x % 256]
  rw [show (x + 256 * k) % 256 = x % 256 by omega]
theorem shaped_rc (row : List Int) (c : Int) : SeqAt.shaped (dRC row c) = true := by
  unfold SeqAt.shaped
  rw [Bool.and_eq_true]
  refine ⟨?_, decide_eq_true ?_⟩
  · show (PyData.canLay0 (dI row) && (true && true)) = true
    rw [show PyData.canLay0 (dI row) = true from canLay_ints row]
    rfl
  · show max (PyData.depthAll (row.map PyData.int) + 1) (max 0 0) + 1 ≤ 64
    rw [depth_ints]
    decide
theorem sc_law : FnScope ["_law_script", "_law_bag_here", "_law_turn", "_law_odd", "_law_few", "_law_pace", "_law_acts", "_law_act", "_law_tones_here", "_law_handed", "_law_told", "_law_kept", "_law_rung", "_law_k", "_law_tone"] ["_law_script"] (defScope s_law) := ⟨rfl, rfl, rfl, by decide +kernel, rfl, by decide +kernel, by decide +kernel⟩
theorem ok_law {f c tP gD cN cR cM cL : Addr} {k n : Nat} {oc : Value} {od an : Option Addr} {osl : Array (Option Value)} {kV doc pm ct : Value} {ocD : Value} {odD anD : Option Addr} {oslD : Array (Option Value)} {kVD docD pmD cdD ctD : Value}
    (lk : K.lookup f = some ⟨oc, od, .func (PySem.W.fnOf "law" "law" (defArgs s_law) (defBody s_law) (defScope s_law) .none kV doc pm an (.ref c) ct), osl⟩) (hcd : PySem.W.codeIn K (.ref c) "law" = true)
    (TB : LamX.TabB base mg c tP) (gL : mg "LineError" = some (.ref cL))
    (lD : K.lookup gD = some ⟨ocD, odD, .func (PySem.W.fnOf "_law_tried" "_law_tried" (defArgs s__law_tried) (defBody s__law_tried) (defScope s__law_tried) .none kVD docD pmD anD cdD ctD), oslD⟩) (hcD : PySem.W.codeIn K cdD "_law_tried" = true) (kD : PySem.W.keepIn K (.ref gD) = true) (mD : mg "_law_tried" = some (.ref gD))
    (bD : Binds K (PySem.W.fnOf "_law_tried" "_law_tried" (defArgs s__law_tried) (defBody s__law_tried) (defScope s__law_tried) .none kVD docD pmD anD cdD ctD) ["_law_act"] [])
    (xN : XfC K cN) (noN : PySem.W.findIn K (.ref cN) "word" = some none) (xR : XfC K cR) (noR : PySem.W.findIn K (.ref cR) "word" = some none) (gM : mg "Missing" = some (.ref cM)) (nl : PySem.W.exmOne K (.ref cN) (.ref cL) = some true) (nlR : PySem.W.exmOne K (.ref cR) (.ref cL) = some true)
    (n_len : mg "len" = none) (n_list : mg "list" = none) (n_range : mg "range" = none) (n_isinstance : mg "isinstance" = none) (n_tuple : mg "tuple" = none)
    (cw_heard_path_1_rate : CalW P w K mg base (k + 2) "heard_path" ["heard", "rate"] 1 ["rate"] (fun vs zs => vs ++ zs) (spHP K cN cR)) (clw_heard_path_1_rate : CalW P w K mg base k "heard_path" ["heard", "rate"] 1 ["rate"] (fun vs zs => vs ++ zs) (spHP K cN cR)) (clw_least_distance_0_rate : CalW P w K mg base k "least_distance" ["rate"] 0 ["rate"] (fun vs zs => vs ++ zs) (spLD cR)) (clw_nearest_0_rate : CalW P w K mg base k "nearest" ["rate"] 0 ["rate"] (fun vs zs => vs ++ zs) (spNear cR)) (cd_heard_path : CalD P w K mg base (k + 2) "heard_path" ["heard", "rate"] [.int 1] (spHP K cN cR))
    (c__law_bag : Cal P w K mg base (k + 2) "_law_bag" ["_law_script"] (spBag K)) (c__law_pick : Cal P w K mg base (k + 2) "_law_pick" ["_law_bag_here", "_law_top"] spPick) (c__law_far : Cal P w K mg base (k + 2) "_law_far" ["_law_bag_here"] spFar)
    (c__law_same : Cal P w K mg base (k + 2) "_law_same" ["_law_found", "_law_due"] (spSame K (n + 3))) (c__law_cost : Cal P w K mg base (k + 2) "_law_cost" ["_law_heard", "_law_signs", "_law_pace"] (spLcost K)) (c__law_no_pace : Cal P w K mg base (k + 2) "_law_no_pace" ["_law_bag_here"] spNoPace) :
    FnOk P w K mg base CX0 (k + 3) f (PySem.W.fnOf "law" "law" (defArgs s_law) (defBody s_law) (defScope s_law) .none kV doc pm an (.ref c) ct) ["_law_script"] (spLaw K tP) := by
  have sc := sc_law
  refine okL lk hcd sc (fun vs H Q E h => ?_) (fun A outer s H vs Q E hr h => ?_)
  · obtain ⟨a, ns, rfl, _⟩ := h
    rfl
  · obtain ⟨a, ns, rfl, hS, hT0, q⟩ := h
    have LA__law_tried : LamTo (cxOf CX0 P w K mg base ["_law_script", "_law_bag_here", "_law_turn", "_law_odd", "_law_few", "_law_pace", "_law_acts", "_law_act", "_law_tones_here", "_law_handed", "_law_told", "_law_kept", "_law_rung", "_law_k", "_law_tone"] "law" (defScope s_law) f (.ref c) A outer s H E).nox [(tP, qLam)] "_law_tried" (TTried2 cN "BadCount" cR "BadRate") := fun {params body scope t p lpos pos k} hr L hd hbn hbody =>
      LamX.pe_lamcall (by rfl) mD kD lD hcD bD sc__law_tried rfl (.inl rfl) (tried2_gives xN noN xR noR gL gM nl nlR) TB rfl (List.mem_singleton.mpr rfl) (fun p hp _ => by rw [List.mem_singleton.mp hp]; rfl) hr L hd hbn hbody
    refine ⟨_, (pss_cons (ps_set (i := 1) sc.nd rfl (.inr rfl) (pe_callC c__law_bag hr (by rfl) (pa_cons (pv 0) pa_nil)))
 (pss_cons (ps_for PassesOwn.never rfl (pi_range1 (by rfl) n_range (pa_cons pe_int pa_nil)) (pg_name (i := 2) sc.nd rfl (.inl rfl))
  (pss_cons (ps_set (i := 3) sc.nd rfl (.inr rfl) (pe_callC c__law_no_pace hr (by rfl) (pa_cons (pv 1) pa_nil)))
 (pss_cons (ps_set (i := 4) sc.nd rfl (.inr rfl) (pe_slice (sl_listK K rfl) (pe_lst (pa_cons (pe_callC c__law_far hr (by rfl) (pa_cons (pv 1) pa_nil)) pa_nil)) po_none (po_some (pe_callC c__law_pick hr (by rfl) (pa_cons (pv 1) (pa_cons pe_int pa_nil))))))
 (pss_cons (ps_set (i := 5) sc.nd rfl (.inr rfl) (pe_op op_add pe_int (pe_callC c__law_pick hr (by rfl) (pa_cons (pv 1) (pa_cons pe_int pa_nil)))))
 (by exact pss_lamset2 (X := ((cxOf CX0 P w K mg base ["_law_script", "_law_bag_here", "_law_turn", "_law_odd", "_law_few", "_law_pace", "_law_acts", "_law_act", "_law_tones_here", "_law_handed", "_law_told", "_law_kept", "_law_rung", "_law_k", "_law_tone"] "law" (defScope s_law) f (.ref c) A outer s H E).nox)) (i := 6) (q := qLam) rfl rfl rfl sc.nd rfl (.inl rfl) (T := [(tP, qLam)]) TB rfl (List.mem_singleton.mpr rfl) (fun p hp _ => by cases List.mem_singleton.mp hp; rfl) (LamX.lamS_by (sc := defScope s_law) (by decide +kernel)) rfl (lamD_by (N := ["_law_script", "_law_bag_here", "_law_turn", "_law_odd", "_law_few", "_law_pace", "_law_acts", "_law_act", "_law_tones_here", "_law_handed", "_law_told", "_law_kept", "_law_rung", "_law_k", "_law_tone"]) (sc := defScope s_law) (by decide +kernel)) rfl rfl (fun _ _ => pe_int) (fun f1 c1 f1b c1b tA1 pm1 ct1 u1 doc1 pm1b ct1b pn1 hfr1 hp1 hfr1b hfA1 hp1b hpA1 hs1 =>
 (by exact pss_lamapp (X := (Cx.tr ((cxOf CX0 P w K mg base ["_law_script", "_law_bag_here", "_law_turn", "_law_odd", "_law_few", "_law_pace", "_law_acts", "_law_act", "_law_tones_here", "_law_handed", "_law_told", "_law_kept", "_law_rung", "_law_k", "_law_tone"] "law" (defScope s_law) f (.ref c) A outer s H E).nox) pn1 (Cx.xe ((cxOf CX0 P w K mg base ["_law_script", "_law_bag_here", "_law_turn", "_law_odd", "_law_few", "_law_pace", "_law_acts", "_law_act", "_law_tones_here", "_law_handed", "_law_told", "_law_kept", "_law_rung", "_law_k", "_law_tone"] "law" (defScope s_law) f (.ref c) A outer s H E).nox)))) (i := 6) (q := qLam) rfl rfl rfl (pv 6) (T := [(tP, qLam)]) TB rfl (List.mem_singleton.mpr rfl) (fun p hp _ => by cases List.mem_singleton.mp hp; rfl) (LamX.lamS_by (sc := defScope s_law) (by decide +kernel)) rfl (fun f2 c2 pm2 ct2 pn2 hfr2 hp2 hs2 =>
 (pss_cons (ps_for PassesOwn.never rfl (pi_listK K rfl (pv 6)) (pg_name (i := 7) sc.nd rfl (.inl rfl))
  (pss_one (ps_if (pt_cmpR (op_neDK K rfl hr.units) (pe_or2 (pe_actname (X := (Cx.tr (Cx.tr ((cxOf CX0 P w K mg base ["_law_script", "_law_bag_here", "_law_turn", "_law_odd", "_law_few", "_law_pace", "_law_acts", "_law_act", "_law_tones_here", "_law_handed", "_law_told", "_law_kept", "_law_rung", "_law_k", "_law_tone"] "law" (defScope s_law) f (.ref c) A outer s H E).nox) pn1 (Cx.xe ((cxOf CX0 P w K mg base ["_law_script", "_law_bag_here", "_law_turn", "_law_odd", "_law_few", "_law_pace", "_law_acts", "_law_act", "_law_tones_here", "_law_handed", "_law_told", "_law_kept", "_law_rung", "_law_k", "_law_tone"] "law" (defScope s_law) f (.ref c) A outer s H E).nox))) pn2 (Cx.xe (Cx.tr ((cxOf CX0 P w K mg base ["_law_script", "_law_bag_here", "_law_turn", "_law_odd", "_law_few", "_law_pace", "_law_acts", "_law_act", "_law_tones_here", "_law_handed", "_law_told", "_law_kept", "_law_rung", "_law_k", "_law_tone"] "law" (defScope s_law) f (.ref c) A outer s H E).nox) pn1 (Cx.xe ((cxOf CX0 P w K mg base ["_law_script", "_law_bag_here", "_law_turn", "_law_odd", "_law_few", "_law_pace", "_law_acts", "_law_act", "_law_tones_here", "_law_handed", "_law_told", "_law_kept", "_law_rung", "_law_k", "_law_tone"] "law" (defScope s_law) f (.ref c) A outer s H E).nox)))))) (q := qLam) rfl (hs2 _ hp1) hfr1 (by rfl) mD kD lD hcD bD sc__law_tried rfl (.inl rfl) (tried2_gives (nm1 := "BadCount") (nm2 := "BadRate") xN noN xR noR gL gM nl nlR) hr (LamX.lamS_by (sc := defScope s_law) (by decide +kernel)) (fun _ _ _ _ _ => rfl) (fun A outer s H E f c2 hr => (pe_callW clw_heard_path_1_rate hr (passes_call (takes_of rfl rfl rfl rfl) (fun _ _ _ _ h => h)) (by rfl) (pa_cons (pv 4) pa_nil) (pk_cons (pv 3) pk_nil))) (pv 7)) (pe_or2 (pe_actname3 (X := (Cx.tr (Cx.tr ((cxOf CX0 P w K mg base ["_law_script", "_law_bag_here", "_law_turn", "_law_odd", "_law_few", "_law_pace", "_law_acts", "_law_act", "_law_tones_here", "_law_handed", "_law_told", "_law_kept", "_law_rung", "_law_k", "_law_tone"] "law" (defScope s_law) f (.ref c) A outer s H E).nox) pn1 (Cx.xe ((cxOf CX0 P w K mg base ["_law_script", "_law_bag_here", "_law_turn", "_law_odd", "_law_few", "_law_pace", "_law_acts", "_law_act", "_law_tones_here", "_law_handed", "_law_told", "_law_kept", "_law_rung", "_law_k", "_law_tone"] "law" (defScope s_law) f (.ref c) A outer s H E).nox))) pn2 (Cx.xe (Cx.tr ((cxOf CX0 P w K mg base ["_law_script", "_law_bag_here", "_law_turn", "_law_odd", "_law_few", "_law_pace", "_law_acts", "_law_act", "_law_tones_here", "_law_handed", "_law_told", "_law_kept", "_law_rung", "_law_k", "_law_tone"] "law" (defScope s_law) f (.ref c) A outer s H E).nox) pn1 (Cx.xe ((cxOf CX0 P w K mg base ["_law_script", "_law_bag_here", "_law_turn", "_law_odd", "_law_few", "_law_pace", "_law_acts", "_law_act", "_law_tones_here", "_law_handed", "_law_told", "_law_kept", "_law_rung", "_law_k", "_law_tone"] "law" (defScope s_law) f (.ref c) A outer s H E).nox)))))) (q := qLam) rfl (hs2 _ hp1b) (hs2 _ hpA1) hfr1b hfA1 (by rfl) mD kD lD hcD bD sc__law_tried rfl (.inl rfl) (tried2_gives (nm1 := "BadCount") (nm2 := "BadRate") xN noN xR noR gL gM nl nlR) hr (lamD_by (N := ["_law_script", "_law_bag_here", "_law_turn", "_law_odd", "_law_few", "_law_pace", "_law_acts", "_law_act", "_law_tones_here", "_law_handed", "_law_told", "_law_kept", "_law_rung", "_law_k", "_law_tone"]) (sc := defScope s_law) (by decide +kernel)) (fun _ _ _ _ _ _ _ _ _ e => BindsTo.of_defaults rfl e rfl rfl rfl) (by rfl) (fun A outer s H E f c2 hr => (pe_callW0 clw_least_distance_0_rate hr (passes_call (takes_of rfl rfl rfl rfl) (fun _ _ _ _ h => h)) (by rfl) (pk_cons (pv 3) pk_nil))) (pv 7)) (pe_actname (X := (Cx.tr (Cx.tr ((cxOf CX0 P w K mg base ["_law_script", "_law_bag_here", "_law_turn", "_law_odd", "_law_few", "_law_pace", "_law_acts", "_law_act", "_law_tones_here", "_law_handed", "_law_told", "_law_kept", "_law_rung", "_law_k", "_law_tone"] "law" (defScope s_law) f (.ref c) A outer s H E).nox) pn1 (Cx.xe ((cxOf CX0 P w K mg base ["_law_script", "_law_bag_here", "_law_turn", "_law_odd", "_law_few", "_law_pace", "_law_acts", "_law_act", "_law_tones_here", "_law_handed", "_law_told", "_law_kept", "_law_rung", "_law_k", "_law_tone"] "law" (defScope s_law) f (.ref c) A outer s H E).nox))) pn2 (Cx.xe (Cx.tr ((cxOf CX0 P w K mg base ["_law_script", "_law_bag_here", "_law_turn", "_law_odd", "_law_few", "_law_pace", "_law_acts", "_law_act", "_law_tones_here", "_law_handed", "_law_told", "_law_kept", "_law_rung", "_law_k", "_law_tone"] "law" (defScope s_law) f (.ref c) A outer s H E).nox) pn1 (Cx.xe ((cxOf CX0 P w K mg base ["_law_script", "_law_bag_here", "_law_turn", "_law_odd", "_law_few", "_law_pace", "_law_acts", "_law_act", "_law_tones_here", "_law_handed", "_law_told", "_law_kept", "_law_rung", "_law_k", "_law_tone"] "law" (defScope s_law) f (.ref c) A outer s H E).nox)))))) (q := qLam) rfl hp2 hfr2 (by rfl) mD kD lD hcD bD sc__law_tried rfl (.inl rfl) (tried2_gives (nm1 := "BadCount") (nm2 := "BadRate") xN noN xR noR gL gM nl nlR) hr (LamX.lamS_by (sc := defScope s_law) (by decide +kernel)) (fun _ _ _ _ _ => rfl) (fun A outer s H E f c2 hr => (pe_callW0 clw_nearest_0_rate hr (passes_call (takes_of rfl rfl rfl rfl) (fun _ _ _ _ h => h)) (by rfl) (pk_cons (pv 3) pk_nil))) (pv 7)))) (pe_tup (pa_cons pe_str (pa_cons pe_str pa_nil))) (nomark _))
  (pss_one (ps_ret pe_bl))
  pss_nil)))
 (pss_cons (ps_if (pt_cmpR (op_neDK K rfl hr.units) (LamX.pe_lamcall (X := (Cx.tr (Cx.tr ((cxOf CX0 P w K mg base ["_law_script", "_law_bag_here", "_law_turn", "_law_odd", "_law_few", "_law_pace", "_law_acts", "_law_act", "_law_tones_here", "_law_handed", "_law_told", "_law_kept", "_law_rung", "_law_k", "_law_tone"] "law" (defScope s_law) f (.ref c) A outer s H E).nox) pn1 (Cx.xe ((cxOf CX0 P w K mg base ["_law_script", "_law_bag_here", "_law_turn", "_law_odd", "_law_few", "_law_pace", "_law_acts", "_law_act", "_law_tones_here", "_law_handed", "_law_told", "_law_kept", "_law_rung", "_law_k", "_law_tone"] "law" (defScope s_law) f (.ref c) A outer s H E).nox))) pn2 (Cx.xe (Cx.tr ((cxOf CX0 P w K mg base ["_law_script", "_law_bag_here", "_law_turn", "_law_odd", "_law_few", "_law_pace", "_law_acts", "_law_act", "_law_tones_here", "_law_handed", "_law_told", "_law_kept", "_law_rung", "_law_k", "_law_tone"] "law" (defScope s_law) f (.ref c) A outer s H E).nox) pn1 (Cx.xe ((cxOf CX0 P w K mg base ["_law_script", "_law_bag_here", "_law_turn", "_law_odd", "_law_few", "_law_pace", "_law_acts", "_law_act", "_law_tones_here", "_law_handed", "_law_told", "_law_kept", "_law_rung", "_law_k", "_law_tone"] "law" (defScope s_law) f (.ref c) A outer s H E).nox)))))) (T := [(tP, qLam)]) (by rfl) mD kD lD hcD bD sc__law_tried rfl (.inl rfl) (tried2_gives (nm1 := "BadCount") (nm2 := "BadRate") xN noN xR noR gL gM nl nlR) TB rfl (List.mem_singleton.mpr rfl) (fun p hp _ => by rw [List.mem_singleton.mp hp]; rfl) hr (LamX.lamS_by (sc := defScope s_law) (by decide +kernel)) rfl (fun _ _ _ _ _ => rfl) (fun A outer s H E f c2 hr => (pe_callW clw_heard_path_1_rate hr (passes_call (takes_of rfl rfl rfl rfl) (fun _ _ _ _ h => h)) (by rfl) (pa_cons (pv 4) pa_nil) (pk_cons (pv 5) pk_nil)))) (pe_tup (pa_cons pe_str (pa_cons pe_str pa_nil))) (nomark _))
  (pss_one (ps_ret pe_bl))
  pss_nil)
 (pss_cons (ps_setLc (i := 8) (own := [("_law_k", 13)]) (g := gName 13) (by rfl) sc.nd rfl rfl (sw_true rfl rfl rfl (by decide +kernel)) (pi_range1 (by rfl) n_range (pa_cons (pe_op op_add pe_int (pe_callC c__law_pick hr (by rfl) (pa_cons (pv 1) (pa_cons pe_int pa_nil)))) pa_nil)) (blkOk_by (own := [("_law_k", 13)]) (N := ["_law_script", "_law_bag_here", "_law_turn", "_law_odd", "_law_few", "_law_pace", "_law_acts", "_law_act", "_law_tones_here", "_law_handed", "_law_told", "_law_kept", "_law_rung", "_law_k", "_law_tone"]) (sc := defScope s_law) (by decide +kernel)) (fun _ _ _ _ _ => (pg_name (i := 13) sc.nd rfl (Or.inl rfl))) (fun _ _ _ _ _ => pts_nil) (fun _ _ _ _ _ => (pe_callC c__law_far hr (by rfl) (pa_cons (pv 1) pa_nil))))
 (pss_cons (ps_set (i := 9) sc.nd rfl (.inl rfl) (pe_callTy (call_listK K rfl) (by rfl) n_list (by decide +kernel) (pa_cons (pv 8) pa_nil)))
 (pss_cons (ps_set (i := 10) sc.nd rfl (.inl rfl) (pe_callWF cw_heard_path_1_rate hr (by rfl) (pa_cons (pv 9) pa_nil) (pk_cons (pv 5) pk_nil)))
 (pss_cons (ps_if (PW.pt (pw_or (pt_not (pt_val (pe_callB (call_isiK1 K rfl) (by rfl) n_isinstance (by decide +kernel) (pa_cons (pv 10) (pa_cons (pe_bltn (v := .ty "tuple") (by rfl) n_tuple (by decide +kernel) rfl) pa_nil))))) (pw_or (pt_cmpR (op_neDK K rfl hr.units) (pv 9) (pv 8) (nomark _)) (pw_or1 (pt_not (pt_val (pe_callB (call_isiK1 K rfl) (by rfl) n_isinstance (by decide +kernel) (pa_cons (pe_ix (ix_tupK K rfl) (pv 10) pe_int (fun _ _ => rfl)) (pa_cons (pe_bltn (v := .ty "list") (by rfl) n_list (by decide +kernel) rfl) pa_nil)))))))))
  (pss_one (ps_ret pe_bl))
  pss_nil)
 (pss_cons (ps_if (PW.pt (pw_or (pt_cmpR op_ne (pe_callB (call_lenK K rfl) (by rfl) n_len PySem.boot_len (pa_cons (pe_ix (ix_tupK K rfl) (pv 10) pe_int (fun _ _ => rfl)) pa_nil)) (pe_op op_mul (pv 5) (pe_op op_sub (pe_callB (call_lenK K rfl) (by rfl) n_len PySem.boot_len (pa_cons (pv 8) pa_nil)) pe_int)) (nomark _)) (pw_or1 (pt_not (pt_val (pe_callC c__law_same hr (by rfl) (pa_cons (pe_ix (ix_tupK K rfl) (pv 10) pe_int (fun _ _ => rfl)) (pa_cons (pe_callC c__law_cost hr (by rfl) (pa_cons (pv 8) (pa_cons (pe_ix (ix_tupK K rfl) (pv 10) pe_int (fun _ _ => rfl)) (pa_cons (pv 5) pa_nil)))) pa_nil))))))))
  (pss_one (ps_ret pe_bl))
  pss_nil)
 (pss_cons (ps_set (i := 11) sc.nd rfl (.inl rfl) (pe_callTy (call_listK K rfl) (by rfl) n_list (by decide +kernel) (pa_cons (pe_ix (ix_tupK K rfl) (pv 10) pe_int (fun _ _ => rfl)) pa_nil)))
 (pss_cons (ps_expr (pe_bmK K rfl PySem.F.plainAttrs_list PySem.F.slot_list_append PySem.F.type_list_append mt_append (pe_ix (ix_tupK K rfl) (pv 10) pe_int (fun _ _ => rfl)) (pa_cons pe_int pa_nil)))
 (pss_cons (ps_setLc (i := 12) (own := [("_law_tone", 14)]) (g := gName 14) (by rfl) sc.nd rfl rfl (sw_true rfl rfl rfl (by decide +kernel)) (pi_listK K rfl (pv 8)) (blkOk_by (own := [("_law_tone", 14)]) (N := ["_law_script", "_law_bag_here", "_law_turn", "_law_odd", "_law_few", "_law_pace", "_law_acts", "_law_act", "_law_tones_here", "_law_handed", "_law_told", "_law_kept", "_law_rung", "_law_k", "_law_tone"]) (sc := defScope s_law) (by decide +kernel)) (fun _ _ _ _ _ => (pg_name (i := 14) sc.nd rfl (Or.inl rfl))) (fun _ _ _ _ _ => pts_nil) (fun _ _ _ _ _ => (pe_op op_add (pv 14) (pe_op op_mul pe_int (pe_op op_sub (pe_callC c__law_pick hr (by rfl) (pa_cons (pv 1) (pa_cons pe_int pa_nil))) pe_int)))))
 (pss_one (ps_if (pt_not (pt_val (pe_callC c__law_same hr (by rfl) (pa_cons (pe_callWF cw_heard_path_1_rate hr (by rfl) (pa_cons (pv 12) pa_nil) (pk_cons (pv 5) pk_nil)) (pa_cons (pe_tup (pa_cons (pv 11) (pa_cons (pe_ix (ix_tupK K rfl) (pv 10) pe_int (fun _ _ => rfl)) pa_nil))) pa_nil)))))
  (pss_one (ps_ret pe_bl))
  pss_nil))))))))))))))))))))
 (pss_one (ps_ret (pe_cmpR (op_eqDK K rfl hr.units) (pe_callDF cd_heard_path hr (by rfl) (pa_cons (pe_lst (pa_cons (pe_un un_neg pe_int) (pa_cons (pe_un un_neg pe_int) pa_nil))) pa_nil)) (pe_tup (pa_cons (pe_lst pa_nil) (pa_cons pe_int pa_nil))) (nomark _)))))), ?_⟩
    have hT : LamX.Tabs [(tP, qLam)] H := fun p hp => by rw [List.mem_singleton.mp hp]; exact LamX.TabS.nil hT0
    rw [start1]
    dsimp only [List.map]
    refine ⟨_, rfl, a, ns, rfl, hS, fun H1 b s1 nb hB => ?_⟩
    have h1 : Hw K [] [(tP, qLam)] [tB b] H1 := Hw.of ((Hs.nil (hT.ext s1)).cons hB (fun j y hj => by cases hj))
    clear s1 nb hS hB hT hT0
    refine name_by ?_
    try dsimp only
    refine ⟨3, rfl, by decide, by decide, for_range (lo := 0) (n := 3) (fun i σ H' => ∃ y2 y3 y4 y5 y6 y7 y8 y9 y10 y11 y12 y13 y14, σ = [some (.ref a), some (.ref b.1), y2, y3, y4, y5, y6, y7, y8, y9, y10, y11, y12, y13, y14] ∧ Hw K [] [(tP, qLam)] [tB b] H') ⟨none, none, none, none, none, none, none, none, none, none, none, none, none, rfl, h1⟩ ?_ ?_⟩
    · clear h1
      rintro i σ H1 hi ⟨y2, y3, y4, y5, y6, y7, y8, y9, y10, y11, y12, y13, y14, rfl, h1⟩
      refine name_by ?_
      try dsimp only
      refine ⟨_, rfl, b, rfl, h1.bag, fun H2 od mv2 hB2 nod => ?_⟩
      have h2 := h1.mv mv2 hB2
      refine name_by ?_
      try dsimp only
      -- few, pace
      refine ⟨_, rfl, b, rfl, h2.bag, fun H3 z mv3 hB3 hz => ⟨(by show 1 ≤ sizeLine; decide), fun p3 np3 => ?_⟩⟩
      have h3 := (h2.mv mv3 hB3).newU (o := .lst [.int z]) np3
      generalize upd H3 p3 (.lst [.int z]) = H3b at h3 ⊢
      refine ⟨_, rfl, b, 2, rfl, h3.bag, by decide, by decide, fun H4 d4 mv4 hB4 d40 d41 => ?_⟩
      have h4 := h3.mv mv4 hB4
      refine ⟨_, rfl, p3, _, rfl, SqL.of (h4.at 1 rfl), fun pf npf => ?_⟩
      obtain ⟨fw, efw, lfw⟩ : ∃ fw : List Int, cutV [V.int z] none (some d4) = fw.map V.int ∧ fw.length ≤ 1 := by
        obtain ⟨m, rfl⟩ : ∃ m : Nat, d4 = (m : Int) := ⟨d4.toNat, by omega⟩
        refine ⟨[z].take m, ?_, ?_⟩
        · rw [show ([V.int z] : List V) = [z].map V.int from rfl, cut_to_n, List.map_take]
        · rw [List.length_take]
          exact Nat.min_le_right _ _
      rw [efw]
      have h5 : Hw K [] [(tP, qLam)] [tB b, tL pf (fw.map V.int)] _ := (h4.newU (o := .lst (fw.map V.int)) npf).sel [0, 1] (by decide)
      generalize upd H4 pf (.lst (fw.map V.int)) = H5 at h5 ⊢
      clear h1 h2 h3 h4 mv2 hB2 mv3 hB3 np3 mv4 hB4 npf efw hz
      refine name_by ?_
      try dsimp only
      refine ⟨_, rfl, b, 4, rfl, h5.bag, by decide, by decide, fun H6 d6 mv6 hB6 d60 d61 => ⟨_, _, rfl, rfl, ?_⟩⟩
      have h6 := h5.mv mv6 hB6
      obtain ⟨rn, ern⟩ : ∃ rn : Nat, 1 + d6 = (rn : Int) := ⟨(1 + d6).toNat, by omega⟩
      have okp : okR (rn : Int) := ⟨by omega, by omega⟩
      obtain ⟨r1, r4⟩ := id okp
      clear h5 mv6 hB6
      refine name_by ?_
      try dsimp only
      rw [ern]
      -- the lambdas
      refine ⟨h6.hs.tab, fun f1 c1 f2 c2 H7 H8 ex7 tb7 _ _ ex8 tb8 _ _ hc1 hc2 pa npa => ?_⟩
      have h8 := ((h6.extX ex7 tb7).extX ex8 tb8).newU (o := .lst [.ref f1, .ref f2]) npa
      have hc1 := same_codeO (same_upd (o := .lst [.ref f1, .ref f2]) npa) hc1
      have hc2 := same_codeO (same_upd (o := .lst [.ref f1, .ref f2]) npa) hc2
      generalize upd H8 pa (.lst [.ref f1, .ref f2]) = H8b at h8 hc1 hc2 ⊢
      refine ⟨h8.hs.tab, pa, _, rfl, h8.at 1 rfl, (by show 2 < sizeLine; decide), fun f3 c3 H9 ex9 tb9 _ hc3 => ?_⟩
      have h9 := h8.extX ex9 tb9
      have hc1 := codeO_upd (o := .lst [.ref f1, .ref f2, .ref f3]) (h9.at 1 rfl) (ex9 _ _ hc1 (fun ps => LamX.codeO_ne ps))
      have hc2 := codeO_upd (o := .lst [.ref f1, .ref f2, .ref f3]) (h9.at 1 rfl) (ex9 _ _ hc2 (fun ps => LamX.codeO_ne ps))
      have hc3 := codeO_upd (o := .lst [.ref f1, .ref f2, .ref f3]) (h9.at 1 rfl) hc3
      have h10 : Hw K [] [(tP, qLam)] [tB b, tL pa [.ref f1, .ref f2, .ref f3], tL pf (fw.map V.int)] (upd H9 pa (.lst [.ref f1, .ref f2, .ref f3])) := h9.put (ys := [.ref f1, .ref f2, .ref f3]) 1 rfl
      dsimp only [List.append_eq, List.cons_append, List.nil_append]
      generalize upd H9 pa (.lst [.ref f1, .ref f2, .ref f3]) = H10 at h10 hc1 hc2 hc3 ⊢
      clear h6 h8 h9 ex7 tb7 ex8 tb8 ex9 tb9 npa
      try dsimp only [List.set]
      refine ⟨_, rfl, pa, rfl, ⟨_, SqL.of (h10.at 1 rfl)⟩, for_list (K := K) (a := pa) (xs := [.ref f1, .ref f2, .ref f3]) (fun j σ H' => ∃ y7, σ = [some (.ref a), some (.ref b.1), some (.int (0 + (i : Int))), some (.int od), some (.ref pf), some (.int (rn : Int)), some (.ref pa), y7, y8, y9, y10, y11, y12, y13, y14] ∧ Hw K [] [(tP, qLam)] [tB b, tL pa [.ref f1, .ref f2, .ref f3], tL pf (fw.map V.int)] H' ∧ H' c1 = some (LamX.CodeO c1 qLam) ∧ H' c2 = some (LamX.CodeO c2 qLam) ∧ H' c3 = some (LamX.CodeO c3 qLam)) ⟨_, rfl, h10, hc1, hc2, hc3⟩ (fun j σ H' _ h => by
        obtain ⟨_, _, h, _⟩ := h
        exact SqL.of (h.at 1 rfl)) ?_ ?_⟩
      · clear h10 hc1 hc2 hc3
        rintro j xv σ H11 hx ⟨y7, rfl, h11, hc1, hc2, hc3⟩
        have stp : ∀ (H12 : Hp) (dd p p' : Addr), Same H11 H12 → H12 p = none → upd H12 p (.tup [.str "refused", .str "BadRate"]) p' = none → Hw K [] [(tP, qLam)] [tB b, tL pa [.ref f1, .ref f2, .ref f3], tL pf (fw.map V.int)] (upd (upd H12 p (.tup [.str "refused", .str "BadRate"])) p' (.tup [.str "refused", .str "BadRate"])) ∧ (upd (upd H12 p (.tup [.str "refused", .str "BadRate"])) p' (.tup [.str "refused", .str "BadRate"])) c1 = some (LamX.CodeO c1 qLam) ∧ (upd (upd H12 p (.tup [.str "refused", .str "BadRate"])) p' (.tup [.str "refused", .str "BadRate"])) c2 = some (LamX.CodeO c2 qLam) ∧ (upd (upd H12 p (.tup [.str "refused", .str "BadRate"])) p' (.tup [.str "refused", .str "BadRate"])) c3 = some (LamX.CodeO c3 qLam) := fun H12 dd p p' s n n' => by
          have s2 := (s.trans (same_upd (o := .tup [.str "refused", .str "BadRate"]) n)).trans (same_upd (o := .tup [.str "refused", .str "BadRate"]) n')
          exact ⟨h11.same s2, same_codeO s2 hc1, same_codeO s2 hc2, same_codeO s2 hc3⟩
        refine name_by ?_
        try dsimp only
        have hj : j < 3 := (List.getElem?_eq_some_iff.mp hx).1
        obtain rfl | rfl | rfl : j = 0 ∨ j = 1 ∨ j = 2 := by omega
        · cases hx
          refine .inl ⟨rfl, hc1, ?_⟩
          refine ⟨_, rfl, _, rfl, rfl, rfl, pf, fw, od, rfl, SqL.of (h11.at 2 rfl), by omega, (fun ok => absurd ok nod), (fun ok => absurd ok nod), (fun _ H12 dd s12 nd12 ed12 => ⟨dd, _, rfl, ed12, .inr ⟨rfl, rfl, fun p13 np13 => ⟨(by show 2 ≤ sizeLine; decide), fun p14 np14 => ref_ne lay_Refused lay_BadRate' np13 np14 ⟨_, rfl, iteF ?_⟩⟩⟩⟩)⟩
          exact ⟨_, rfl, stp H12 dd p13 p14 s12 np13 np14⟩
        · cases hx
          refine .inr (.inl ⟨rfl, hc2, ?_⟩)
          refine ⟨_, rfl, rfl, rfl, od, rfl, (fun ok => absurd ok nod), (fun _ H12 dd s12 nd12 ed12 => ⟨dd, _, rfl, ed12, .inr ⟨rfl, rfl, fun p13 np13 => ⟨(by show 2 ≤ sizeLine; decide), fun p14 np14 => ref_ne lay_Refused lay_BadRate' np13 np14 ⟨_, rfl, iteF ?_⟩⟩⟩⟩)⟩
          exact ⟨_, rfl, stp H12 dd p13 p14 s12 np13 np14⟩
        · cases hx
          refine .inr (.inr ⟨rfl, hc3, ?_⟩)
          refine ⟨_, rfl, rfl, rfl, od, rfl, (fun ok => absurd ok nod), (fun _ H12 dd s12 nd12 ed12 => ⟨dd, _, rfl, ed12, .inr ⟨rfl, rfl, fun p13 np13 => ⟨(by show 2 ≤ sizeLine; decide), fun p14 np14 => ref_ne lay_Refused lay_BadRate' np13 np14 ⟨_, rfl, iteF ?_⟩⟩⟩⟩)⟩
          exact ⟨_, rfl, stp H12 dd p13 p14 s12 np13 np14⟩
      · clear h10 hc1 hc2 hc3
        rintro σ H11 ⟨y7, rfl, h11, _, _, _⟩
        try dsimp only
        refine ⟨h11.hs.tab, fun H12 ex12 tb12 => ?_⟩
        have h12 := h11.extX ex12 tb12
        refine ⟨_, rfl, _, rfl, rfl, rfl, pf, fw, (rn : Int), rfl, SqL.of (h12.at 2 rfl), by omega, (fun _ two => by omega), (fun _ _ H13 dd s13 nd13 ed13 => ⟨dd, _, rfl, ed13, .inl ⟨rfl, rfl, fun p14 np14 => ⟨(by show 2 ≤ sizeLine; decide), fun p15 np15 => ref_ne lay_Refused lay_BadCount' np14 np15 ⟨_, rfl, iteF ?_⟩⟩⟩⟩), (fun no => absurd okp no)⟩
        have h15 : Hw K [] [(tP, qLam)] [tB b] (upd (upd H13 p14 (.tup [.str "refused", .str "BadCount"])) p15 (.tup [.str "refused", .str "BadCount"])) := (((h12.same s13).same (same_upd (o := .tup [.str "refused", .str "BadCount"]) np14)).same (same_upd (o := .tup [.str "refused", .str "BadCount"]) np15)).sel [0] (by decide)
        generalize upd (upd H13 p14 (.tup [.str "refused", .str "BadCount"])) p15 (.tup [.str "refused", .str "BadCount"]) = H15 at h15 ⊢
        clear h11 h12 ex12 tb12 s13 nd13 ed13 np14 np15
        unfold tNext
        try dsimp only
        -- the numbers
        refine ⟨_, rfl, b, 10, rfl, h15.bag, by decide, by decide, fun H16 d16 mv16 hB16 d160 d161 => ⟨_, _, rfl, rfl, 2 + d16, rfl, by omega, by omega, fun D nD => ?_⟩⟩
        have h16 := h15.mv mv16 hB16
        clear h15 mv16 hB16
        refine lc_range (lo := 0) (n := (2 + d16).toNat) (fun j H' => ∃ hs : List Int, hs.length = j ∧ Hw K [] [(tP, qLam)] [tB b, tL D (hs.map V.int)] H') ⟨[], rfl, h16.newU nD⟩ ?_ ?_
        · rintro j H17 hj ⟨hs, ehs, h17⟩
          refine ⟨rfl, tYes_by (iteT ⟨_, rfl, b, rfl, h17.bag, fun H18 z mv18 hB18 _ => ⟨_, (h17.mv mv18 hB18).at 1 rfl, ?_, hs ++ [z], by rw [List.length_append, ehs]; rfl, ?_⟩⟩)⟩
          · rw [List.length_map]
            exact sz4l (by omega)
          · rw [List.map_append]
            exact (h17.mv mv18 hB18).put (ys := _) 1 rfl
        clear h16 nD
        rintro H17 ⟨hs, ehs, h17⟩
        refine name_by ?_
        try dsimp only
        refine ⟨_, rfl, D, _, rfl, .inl (SqL.of (h17.at 1 rfl)), fun p18 np18 => ?_⟩
        have h18 := h17.newU (o := .lst (hs.map V.int)) np18
        generalize upd H17 p18 (.lst (hs.map V.int)) = H18 at h18 ⊢
        refine name_by ?_
        try dsimp only
        refine ⟨_, rfl, _, rfl, rfl, rfl, p18, hs, (rn : Int), rfl, SqL.of (h18.at 1 rfl), by omega, (fun _ _ H19 p19 pb19 s19 np19 npb19 ep19 epb19 => ?_), (fun _ bad => by omega), (fun no => absurd okp no)⟩
        rw [Int.toNat_natCast] at ep19 epb19
        obtain ⟨hpb, hpl, hpc, _⟩ := hp_opt (r := rn) (hs := hs) okp (by omega)
        obtain ⟨row, erow⟩ : ∃ row, row = hpRow rn hs := ⟨_, rfl⟩
        obtain ⟨cst, ecst⟩ : ∃ cst, cst = hpCost rn hs := ⟨_, rfl⟩
        rw [← erow] at hpb hpl hpc epb19
        rw [← ecst] at hpc ep19
        have lrow : row.length ≤ 100 := by rw [hpl]; exact Nat.le_trans (Nat.mul_le_mul (show rn ≤ 4 by omega) (show hs.length - 2 ≤ 20 by omega)) (by decide)
        have h19 : Hw K [(p19, [.ref pb19, .int cst])] [(tP, qLam)] [tB b, tL pb19 (row.map V.int), tL p18 (hs.map V.int), tL D (hs.map V.int)] H19 := ((h18.newH s19 npb19 epb19).know (SqT.of ep19)).sel [1, 0, 2, 3] (by decide)
        clear h17 h18 np18 s19 np19 npb19 ep19 epb19
        refine name_by ?_
        try dsimp only
        have kT : PySem.W.kitOne K (.type "tuple") (.type "tuple") = some true := kit_ty (by decide +kernel)
        have kL : PySem.W.kitOne K (.type "list") (.type "list") = some true := kit_ty (by decide +kernel)
        have tyT : TyX K H19 (.ref p19) (.type "tuple") := ty_dp (dp_rc (h19.tup 0 rfl) (SqL.of (h19.at 1 rfl)))
        have tyL : TyX K H19 (.ref pb19) (.type "list") := ty_dp (dp_ints (SqL.of (h19.at 1 rfl)))
        refine ⟨_, rfl, _, _, _, _, true, rfl, .ty "tuple", tyT, kT, _, rfl, ?_⟩
        refine iteF ?_
        refine ⟨_, rfl, _, rfl, neD_i2 (SqL.of (h19.at 2 rfl)) (SqL.of (h19.at 3 rfl)) ⟨_, rfl, iteF ?_⟩⟩
        refine ⟨_, rfl, p19, _, _, _, rfl, rfl, h19.tup 0 rfl, rfl, _, _, _, _, true, rfl, .ty "list", tyL, kL, _, rfl, ?_⟩
        refine iteF ?_
        try dsimp only
        clear tyT tyL
        have elen : ((row.length : Nat) : Int) = (rn : Int) * (((hs.length : Nat) : Int) - 2) := by
          rw [hpl, Int.natCast_mul]
          congr 1
          omega
        refine ⟨_, rfl, p19, _, _, _, rfl, rfl, h19.tup 0 rfl, rfl, pb19, _, rfl, .inl (SqL.of (h19.at 1 rfl)), _, rfl, _, rfl, D, _, rfl, .inl (SqL.of (h19.at 3 rfl)), _, _, rfl, rfl, _, _, rfl, rfl, .inl ⟨by omega, by omega⟩, rNe_eq (by rw [List.length_map, List.length_map, elen]) rfl ⟨_, rfl, iteF ?_⟩⟩
        have hmod : row.length % rn = 0 := by rw [hpl]; exact Nat.mul_mod_right _ _
        refine ⟨_, rfl, p19, _, _, _, rfl, rfl, h19.tup 0 rfl, rfl, _, rfl, _, rfl, p19, _, _, _, rfl, rfl, h19.tup 0 rfl, rfl, _, rfl, D, pb19, hs, row, rn, rfl, SqL.of (h19.at 3 rfl), SqL.of (h19.at 1 rfl), okp, hpb, hmod, by omega, ?_, fun H20 s20 => ?_⟩
        · rw [codeL_len (by omega) hpl]
          omega
        refine ⟨_, _, .int cst, rfl, .int cst, dp_ii hpc, dn_i cst (n + 2), shaped_i cst, fun H21 s21 => ⟨_, rfl, iteF ?_⟩⟩
        have h21 := h19.same (s20.trans s21)
        clear h19 s20 s21
        try unfold tNext
        try dsimp only
        -- kept, spoilt
        refine ⟨_, rfl, p19, _, _, _, rfl, rfl, h21.tup 0 rfl, rfl, pb19, _, rfl, .inl (SqL.of (h21.at 1 rfl)), fun p22 np22 => ?_⟩
        have h22 := h21.newU (o := .lst (row.map V.int)) np22
        generalize upd H21 p22 (.lst (row.map V.int)) = H22 at h22 ⊢
        refine name_by ?_
        try dsimp only
        refine ⟨_, rfl, p19, _, _, _, rfl, rfl, h22.tup 0 rfl, rfl, .inl ⟨rfl, _, SqL.of (h22.at 2 rfl)⟩, pb19, _, _, rfl, rfl, h22.at 2 rfl, (by rw [List.length_map]; exact sz4l (by omega)), ?_⟩
        have h23 : Hw K [(p19, [.ref pb19, .int cst])] [(tP, qLam)] [tB b, tL p22 (row.map V.int), tL D (hs.map V.int)] (upd H22 pb19 (.lst (row.map V.int ++ [.int 8]))) := (h22.put (ys := (row.map V.int ++ [V.int 8] : List V)) 2 rfl).sel [0, 1, 4] (by decide)
        generalize upd H22 pb19 (.lst (row.map V.int ++ [.int 8])) = H23 at h23 ⊢
        clear h21 h22 np22
        try dsimp only
        -- rings
        refine ⟨_, rfl, D, rfl, ⟨_, SqL.of (h23.at 2 rfl)⟩, fun G nG => ?_⟩
        refine lc_list (xs := hs.map V.int) (fun j H' => ∃ gs : List Int, gs.length = j ∧ modL gs = modL (hs.take j) ∧ Hw K [(p19, [.ref pb19, .int cst])] [(tP, qLam)] [tB b, tL G (gs.map V.int), tL p22 (row.map V.int), tL D (hs.map V.int)] H') ⟨[], rfl, rfl, h23.newU nG⟩ ?_ ?_ ?_
        · rintro j H' _ ⟨_, _, _, h⟩
          exact SqL.of (h.at 3 rfl)
        · clear h23 nG
          rintro j xv H24 hxv ⟨gs, egs, mgs, h24⟩
          obtain ⟨x, hx, rfl⟩ := getI hxv
          have hj : j < hs.length := (List.getElem?_eq_some_iff.mp hx).1
          refine ⟨rfl, tYes_by (iteT ⟨_, rfl, _, rfl, b, 7, rfl, h24.bag, by decide, by decide, fun H25 d25 mv25 hB25 d250 d251 => ⟨_, _, rfl, rfl, _, _, rfl, rfl, .inl ⟨by decide, by decide⟩, _, _, rfl, rfl, ?_⟩⟩)⟩
          have h25 := h24.mv mv25 hB25
          refine ⟨_, h25.at 1 rfl, ?_, gs ++ [x + 256 * (d25 - 3)], by rw [List.length_append, egs]; rfl, modL_more hx mgs, ?_⟩
          · rw [List.length_map]
            exact sz4l (by omega)
          · rw [List.map_append]
            exact h25.put (ys := _) 1 rfl
        · clear h23 nG
          rintro H24 ⟨gs, egs, mgs, h24⟩
          rw [List.length_map, List.take_of_length_le (Nat.le_refl _)] at mgs
          rw [List.length_map] at egs
          obtain ⟨er, ec⟩ := hp_ring (r := rn) mgs
          refine name_by ?_
          try dsimp only
          refine ⟨_, rfl, _, rfl, rfl, rfl, G, gs, (rn : Int), rfl, SqL.of (h24.at 1 rfl), by omega, (fun _ _ H25 p25 pb25 s25 np25 npb25 ep25 epb25 => ?_), (fun _ bad => by omega), (fun no => absurd okp no)⟩
          rw [Int.toNat_natCast, ec, ← ecst] at ep25
          rw [Int.toNat_natCast, er, ← erow] at epb25
          have h25 := ((h24.newH s25 npb25 epb25).know (SqT.of ep25))
          refine ⟨_, rfl, _, rfl, p19, _, _, _, rfl, rfl, h25.tup 1 rfl, rfl, (by show 2 ≤ sizeLine; decide), fun p26 np26 => ?_⟩
          have h26 := h25.newT (xs := [.ref p22, .int cst]) np26
          generalize upd H25 p26 (.tup [.ref p22, .int cst]) = H26 at h26 ⊢
          refine ⟨_, _, dRC row cst, rfl, dp_rc (h26.tup 1 rfl) (SqL.of (h26.at 0 rfl)), dp_rc (h26.tup 0 rfl) (SqL.of (h26.at 3 rfl)), dn_rc row cst (by omega) n, shaped_rc row cst, fun H27 s27 => ⟨_, rfl, iteF ?_⟩⟩
          have h27 : Hw K [] [(tP, qLam)] [tB b] H27 := (((h26.sel [1] (by decide)).selT (L' := []) (fun q hq => nomatch hq)).same s27)
          exact ⟨_, _, _, _, _, _, _, _, _, _, _, _, _, rfl, h27⟩
    · rintro σ H1 ⟨y2, y3, y4, y5, y6, y7, y8, y9, y10, y11, y12, y13, y14, rfl, h1⟩
      try dsimp only
      refine ⟨_, rfl, _, rfl, (by show 2 ≤ sizeLine; decide), fun p2 np2 => ?_⟩
      refine ⟨p2, [-96, -96], 1, rfl, SqL.of upd_same, by decide, (fun _ _ H3 p3 pb3 s3 _ _ ep3 epb3 => ?_), (fun _ bad => absurd bad (by decide)), (fun no => absurd ⟨by decide, by decide⟩ no)⟩
      rw [show hpCost (1 : Int).toNat [-96, -96] = 0 by decide +kernel] at ep3
      rw [show hpRow (1 : Int).toNat [-96, -96] = [] by decide +kernel] at epb3
      refine ⟨Nat.zero_le _, fun p4 np4 => ⟨(by show 2 ≤ sizeLine; decide), fun p5 np5 => ?_⟩⟩
      have s5 : Same H3 (upd (upd H3 p4 (.lst [])) p5 (.tup [.ref p4, .int 0])) := (same_upd np4).trans (same_upd np5)
      refine ⟨_, _, dp_rc (row := []) (c := 0) (same_t s5 (SqT.of ep3)) (SqL.of (s5 _ _ epb3)), dp_rc (row := []) (c := 0) (SqT.of upd_same) (SqL.of (same_upd np5 _ _ upd_same)), shaped_rc [] 0, shaped_rc [] 0, ?_⟩
      rw [SeqAt.eqv_refl _ (SeqAt.canLay_of_shaped (shaped_rc [] 0))]
      exact q _
end
/-! ### the end -/
theorem all_mk {l : PySem.W.OpenLaw} {w : World} {K : PySem.W.Frag} {h : Heap} {mg : Str → Option Value} {fa f0 f1 f2 f3 f4 f5 f6 f7 f8 f9 f10 f11 f12 f13 f14 f15 f16 f17 f18 f19 f20 f21 f22 f23 f24 f25 f26 f27 f28 f29 f30 f31 f32 f33 f34 : Addr} (X : K.In h) (G : h.Ns mainGlobals mg) (hfa : mg "law" = some (.ref fa)) (own : LamX.OwnTab K fa h)
    {oc0 : Value} {od0 an0 : Option Addr} {sl0 : Array (Option Value)} {kV0 dc0 pm0 cd0 ct0 : Value}
    {oc1 : Value} {od1 an1 : Option Addr} {sl1 : Array (Option Value)} {kV1 dc1 pm1 cd1 ct1 : Value}
    {oc2 : Value} {od2 an2 : Option Addr} {sl2 : Array (Option Value)} {kV2 dc2 pm2 cd2 ct2 : Value}
    {oc3 : Value} {od3 an3 : Option Addr} {sl3 : Array (Option Value)} {kV3 dc3 pm3 cd3 ct3 : Value}
    {oc4 : Value} {od4 an4 : Option Addr} {sl4 : Array (Option Value)} {kV4 dc4 pm4 cd4 ct4 : Value}
    {oc5 : Value} {od5 an5 : Option Addr} {sl5 : Array (Option Value)} {kV5 dc5 pm5 cd5 ct5 : Value}
    {oc6 : Value} {od6 an6 : Option Addr} {sl6 : Array (Option Value)} {kV6 dc6 pm6 cd6 ct6 : Value}
    {oc7 : Value} {od7 an7 : Option Addr} {sl7 : Array (Option Value)} {kV7 dc7 pm7 cd7 ct7 : Value}
    {oc8 : Value} {od8 an8 : Option Addr} {sl8 : Array (Option Value)} { dc8 pm8 cd8 ct8 : Value}
    {D8 : Addr} {tD8 : Tok}
    {oc9 : Value} {od9 an9 : Option Addr} {sl9 : Array (Option Value)} {kV9 dc9 pm9 cd9 ct9 : Value}
    {oc10 : Value} {od10 an10 : Option Addr} {sl10 : Array (Option Value)} {kV10 dc10 pm10 cd10 ct10 : Value}
    {oc11 : Value} {od11 an11 : Option Addr} {sl11 : Array (Option Value)} { dc11 pm11 cd11 ct11 : Value}
    {D11 : Addr} {tD11 : Tok}
    {oc12 : Value} {od12 an12 : Option Addr} {sl12 : Array (Option Value)} {kV12 dc12 pm12 cd12 ct12 : Value}
    {oc13 : Value} {od13 an13 : Option Addr} {sl13 : Array (Option Value)} {kV13 dc13 pm13 cd13 ct13 : Value}
    {oc14 : Value} {od14 an14 : Option Addr} {sl14 : Array (Option Value)} {kV14 dc14 pm14 cd14 ct14 : Value}
    {oc15 : Value} {od15 an15 : Option Addr} {sl15 : Array (Option Value)} {kV15 dc15 pm15 cd15 ct15 : Value}
    {oc16 : Value} {od16 an16 : Option Addr} {sl16 : Array (Option Value)} {kV16 dc16 pm16 cd16 ct16 : Value}
    {oc17 : Value} {od17 an17 : Option Addr} {sl17 : Array (Option Value)} { dc17 pm17 cd17 ct17 : Value}
    {D17 : Addr} {tD17 : Tok}
    {oc18 : Value} {od18 an18 : Option Addr} {sl18 : Array (Option Value)} { dc18 pm18 cd18 ct18 : Value}
    {D18 : Addr} {tD18 : Tok}
    {oc19 : Value} {od19 an19 : Option Addr} {sl19 : Array (Option Value)} { dc19 pm19 cd19 ct19 : Value}
    {D19 : Addr} {tD19 : Tok}
    {oc20 : Value} {od20 an20 : Option Addr} {sl20 : Array (Option Value)} {kV20 dc20 pm20 cd20 ct20 : Value}
    {oc21 : Value} {od21 an21 : Option Addr} {sl21 : Array (Option Value)} {kV21 dc21 pm21 cd21 ct21 : Value}
    {oc22 : Value} {od22 an22 : Option Addr} {sl22 : Array (Option Value)} {kV22 dc22 pm22 cd22 ct22 : Value}
    {oc23 : Value} {od23 an23 : Option Addr} {sl23 : Array (Option Value)} {kV23 dc23 pm23 cd23 ct23 : Value}
    {oc24 : Value} {od24 an24 : Option Addr} {sl24 : Array (Option Value)} {kV24 dc24 pm24 cd24 ct24 : Value}
    {oc25 : Value} {od25 an25 : Option Addr} {sl25 : Array (Option Value)} {kV25 dc25 pm25 cd25 ct25 : Value}
    {oc26 : Value} {od26 an26 : Option Addr} {sl26 : Array (Option Value)} {kV26 dc26 pm26 cd26 ct26 : Value}
    {oc27 : Value} {od27 an27 : Option Addr} {sl27 : Array (Option Value)} {kV27 dc27 pm27 cd27 ct27 : Value}
    {oc28 : Value} {od28 an28 : Option Addr} {sl28 : Array (Option Value)} {kV28 dc28 pm28 cd28 ct28 : Value}
    {oc29 : Value} {od29 an29 : Option Addr} {sl29 : Array (Option Value)} {kV29 dc29 pm29 cd29 ct29 : Value}
    {oc30 : Value} {od30 an30 : Option Addr} {sl30 : Array (Option Value)} {kV30 dc30 pm30 cd30 ct30 : Value}
    {oc31 : Value} {od31 an31 : Option Addr} {sl31 : Array (Option Value)} {kV31 dc31 pm31 cd31 ct31 : Value}
    {oc32 : Value} {od32 an32 : Option Addr} {sl32 : Array (Option Value)} {kV32 dc32 pm32 cd32 ct32 : Value}
    {oc33 : Value} {od33 an33 : Option Addr} {sl33 : Array (Option Value)} {kV33 dc33 pm33 cd33 ct33 : Value}
    {oc34 : Value} {od34 an34 : Option Addr} {sl34 : Array (Option Value)} {kV34 dc34 pm34  ct34 : Value}
    {cL_ tP : Addr} {eT : Value} {ddT : Option Addr} {vsT : Array Value} {slT : Array (Option Value)}
    {cLE fLE dLE : Addr} {ocLE : Value} {odLE anLE : Option Addr} {slLE : Array (Option Value)} {kVLE dcLE pmLE cdLE ctLE : Value} {oD : Option Addr} {mD : Nat} {slD : Array (Option Value)} {tLe1 tLe2 : Tok}
    {xBadBit : Addr}
    {xBadCount : Addr}
    {xBadRate : Addr}
    {xMissing : Addr}
    {fIBadBit : Addr} {nmBadBit qBadBit : Str} {NBadBit : Addr} {bsBadBit bmBadBit : List Value} {snBadBit : List Str} {subBadBit : List Value} {abBadBit : Bool} {colBadBit : Option Bool} {ddBadBit : Option Addr} {kaBadBit kbBadBit kcBadBit kdBadBit keBadBit : Option Value}
    {ocBadBit : Value} {odBadBit anBadBit : Option Addr} {slBadBit : Array (Option Value)} {kVBadBit dcBadBit pmBadBit cdBadBit ctBadBit : Value}
    {fIBadCount : Addr} {nmBadCount qBadCount : Str} {NBadCount : Addr} {bsBadCount bmBadCount : List Value} {snBadCount : List Str} {subBadCount : List Value} {abBadCount : Bool} {colBadCount : Option Bool} {ddBadCount : Option Addr} {kaBadCount kbBadCount kcBadCount kdBadCount keBadCount : Option Value}
    {ocBadCount : Value} {odBadCount anBadCount : Option Addr} {slBadCount : Array (Option Value)} {kVBadCount dcBadCount pmBadCount cdBadCount ctBadCount : Value}
    {fIBadRate : Addr} {nmBadRate qBadRate : Str} {NBadRate : Addr} {bsBadRate bmBadRate : List Value} {snBadRate : List Str} {subBadRate : List Value} {abBadRate : Bool} {colBadRate : Option Bool} {ddBadRate : Option Addr} {kaBadRate kbBadRate kcBadRate kdBadRate keBadRate : Option Value}
    {ocBadRate : Value} {odBadRate anBadRate : Option Addr} {slBadRate : Array (Option Value)} {kVBadRate dcBadRate pmBadRate cdBadRate ctBadRate : Value}
    {t_MOST_BITS : Tok}
    {t_TAIL : Tok}
    {t_STATES : Tok}
    {t_RING : Tok}
    {a_RATES : Addr} {o_RATES : Option Addr} {m_RATES : Nat} {sl_RATES : Array (Option Value)} {t_RATES0 t_RATES1 t_RATES2 t_RATES3 : Tok}
    {t_FEWEST_POINTS : Tok}
    (a0 : PySem.W.nsIn K mainGlobals "check_bits" = some (some (.ref f0)))
    (l0 : K.lookup f0 = some ⟨oc0, od0, .func (PySem.W.fnOf "check_bits" "check_bits" (defArgs s_check_bits) (defBody s_check_bits) (defScope s_check_bits) .none kV0 dc0 pm0 an0 cd0 ct0), sl0⟩)
    (c0 : PySem.W.codeIn K cd0 "check_bits" = true)
    (k0 : PySem.W.keepIn K (.ref f0) = true)
    (a1 : PySem.W.nsIn K mainGlobals "bits_number" = some (some (.ref f1)))
    (l1 : K.lookup f1 = some ⟨oc1, od1, .func (PySem.W.fnOf "bits_number" "bits_number" (defArgs s_bits_number) (defBody s_bits_number) (defScope s_bits_number) .none kV1 dc1 pm1 an1 cd1 ct1), sl1⟩)
    (c1 : PySem.W.codeIn K cd1 "bits_number" = true)
    (k1 : PySem.W.keepIn K (.ref f1) = true)
    (a2 : PySem.W.nsIn K mainGlobals "number_bits" = some (some (.ref f2)))
    (l2 : K.lookup f2 = some ⟨oc2, od2, .func (PySem.W.fnOf "number_bits" "number_bits" (defArgs s_number_bits) (defBody s_number_bits) (defScope s_number_bits) .none kV2 dc2 pm2 an2 cd2 ct2), sl2⟩)
    (c2 : PySem.W.codeIn K cd2 "number_bits" = true)
    (k2 : PySem.W.keepIn K (.ref f2) = true)
    (a3 : PySem.W.nsIn K mainGlobals "check_rate" = some (some (.ref f3)))
    (l3 : K.lookup f3 = some ⟨oc3, od3, .func (PySem.W.fnOf "check_rate" "check_rate" (defArgs s_check_rate) (defBody s_check_rate) (defScope s_check_rate) .none kV3 dc3 pm3 an3 cd3 ct3), sl3⟩)
    (c3 : PySem.W.codeIn K cd3 "check_rate" = true)
    (k3 : PySem.W.keepIn K (.ref f3) = true)
    (a4 : PySem.W.nsIn K mainGlobals "folded" = some (some (.ref f4)))
    (l4 : K.lookup f4 = some ⟨oc4, od4, .func (PySem.W.fnOf "folded" "folded" (defArgs s_folded) (defBody s_folded) (defScope s_folded) .none kV4 dc4 pm4 an4 cd4 ct4), sl4⟩)
    (c4 : PySem.W.codeIn K cd4 "folded" = true)
    (k4 : PySem.W.keepIn K (.ref f4) = true)
    (a5 : PySem.W.nsIn K mainGlobals "apart" = some (some (.ref f5)))
    (l5 : K.lookup f5 = some ⟨oc5, od5, .func (PySem.W.fnOf "apart" "apart" (defArgs s_apart) (defBody s_apart) (defScope s_apart) .none kV5 dc5 pm5 an5 cd5 ct5), sl5⟩)
    (c5 : PySem.W.codeIn K cd5 "apart" = true)
    (k5 : PySem.W.keepIn K (.ref f5) = true)
    (a6 : PySem.W.nsIn K mainGlobals "points_at" = some (some (.ref f6)))
    (l6 : K.lookup f6 = some ⟨oc6, od6, .func (PySem.W.fnOf "points_at" "points_at" (defArgs s_points_at) (defBody s_points_at) (defScope s_points_at) .none kV6 dc6 pm6 an6 cd6 ct6), sl6⟩)
    (c6 : PySem.W.codeIn K cd6 "points_at" = true)
    (k6 : PySem.W.keepIn K (.ref f6) = true)
    (a7 : PySem.W.nsIn K mainGlobals "step" = some (some (.ref f7)))
    (l7 : K.lookup f7 = some ⟨oc7, od7, .func (PySem.W.fnOf "step" "step" (defArgs s_step) (defBody s_step) (defScope s_step) .none kV7 dc7 pm7 an7 cd7 ct7), sl7⟩)
    (c7 : PySem.W.codeIn K cd7 "step" = true)
    (k7 : PySem.W.keepIn K (.ref f7) = true)
    (a8 : PySem.W.nsIn K mainGlobals "point" = some (some (.ref f8)))
    (l8 : K.lookup f8 = some ⟨oc8, od8, .func (PySem.W.fnOf "point" "point" (defArgs s_point) (defBody s_point) (defScope s_point) .none (.ref D8) dc8 pm8 an8 cd8 ct8), sl8⟩)
    (v8 : PySem.W.nsIn K D8 "rate" = some (some (.int 1 tD8)))
    (c8 : PySem.W.codeIn K cd8 "point" = true)
    (k8 : PySem.W.keepIn K (.ref f8) = true)
    (a9 : PySem.W.nsIn K mainGlobals "moved" = some (some (.ref f9)))
    (l9 : K.lookup f9 = some ⟨oc9, od9, .func (PySem.W.fnOf "moved" "moved" (defArgs s_moved) (defBody s_moved) (defScope s_moved) .none kV9 dc9 pm9 an9 cd9 ct9), sl9⟩)
    (c9 : PySem.W.codeIn K cd9 "moved" = true)
    (k9 : PySem.W.keepIn K (.ref f9) = true)
    (a10 : PySem.W.nsIn K mainGlobals "class_of" = some (some (.ref f10)))
    (l10 : K.lookup f10 = some ⟨oc10, od10, .func (PySem.W.fnOf "class_of" "class_of" (defArgs s_class_of) (defBody s_class_of) (defScope s_class_of) .none kV10 dc10 pm10 an10 cd10 ct10), sl10⟩)
    (c10 : PySem.W.codeIn K cd10 "class_of" = true)
    (k10 : PySem.W.keepIn K (.ref f10) = true)
    (a11 : PySem.W.nsIn K mainGlobals "coded" = some (some (.ref f11)))
    (l11 : K.lookup f11 = some ⟨oc11, od11, .func (PySem.W.fnOf "coded" "coded" (defArgs s_coded) (defBody s_coded) (defScope s_coded) .none (.ref D11) dc11 pm11 an11 cd11 ct11), sl11⟩)
    (v11 : PySem.W.nsIn K D11 "rate" = some (some (.int 1 tD11)))
    (c11 : PySem.W.codeIn K cd11 "coded" = true)
    (k11 : PySem.W.keepIn K (.ref f11) = true)
    (a12 : PySem.W.nsIn K mainGlobals "nearest_of_class" = some (some (.ref f12)))
    (l12 : K.lookup f12 = some ⟨oc12, od12, .func (PySem.W.fnOf "nearest_of_class" "nearest_of_class" (defArgs s_nearest_of_class) (defBody s_nearest_of_class) (defScope s_nearest_of_class) .none kV12 dc12 pm12 an12 cd12 ct12), sl12⟩)
    (c12 : PySem.W.codeIn K cd12 "nearest_of_class" = true)
    (k12 : PySem.W.keepIn K (.ref f12) = true)
    (a13 : PySem.W.nsIn K mainGlobals "onward" = some (some (.ref f13)))
    (l13 : K.lookup f13 = some ⟨oc13, od13, .func (PySem.W.fnOf "onward" "onward" (defArgs s_onward) (defBody s_onward) (defScope s_onward) .none kV13 dc13 pm13 an13 cd13 ct13), sl13⟩)
    (c13 : PySem.W.codeIn K cd13 "onward" = true)
    (k13 : PySem.W.keepIn K (.ref f13) = true)
    (a14 : PySem.W.nsIn K mainGlobals "best_of_beat" = some (some (.ref f14)))
    (l14 : K.lookup f14 = some ⟨oc14, od14, .func (PySem.W.fnOf "best_of_beat" "best_of_beat" (defArgs s_best_of_beat) (defBody s_best_of_beat) (defScope s_best_of_beat) .none kV14 dc14 pm14 an14 cd14 ct14), sl14⟩)
    (c14 : PySem.W.codeIn K cd14 "best_of_beat" = true)
    (k14 : PySem.W.keepIn K (.ref f14) = true)
    (a15 : PySem.W.nsIn K mainGlobals "tail_costs" = some (some (.ref f15)))
    (l15 : K.lookup f15 = some ⟨oc15, od15, .func (PySem.W.fnOf "tail_costs" "tail_costs" (defArgs s_tail_costs) (defBody s_tail_costs) (defScope s_tail_costs) .none kV15 dc15 pm15 an15 cd15 ct15), sl15⟩)
    (c15 : PySem.W.codeIn K cd15 "tail_costs" = true)
    (k15 : PySem.W.keepIn K (.ref f15) = true)
    (a16 : PySem.W.nsIn K mainGlobals "bits_along" = some (some (.ref f16)))
    (l16 : K.lookup f16 = some ⟨oc16, od16, .func (PySem.W.fnOf "bits_along" "bits_along" (defArgs s_bits_along) (defBody s_bits_along) (defScope s_bits_along) .none kV16 dc16 pm16 an16 cd16 ct16), sl16⟩)
    (c16 : PySem.W.codeIn K cd16 "bits_along" = true)
    (k16 : PySem.W.keepIn K (.ref f16) = true)
    (a17 : PySem.W.nsIn K mainGlobals "heard_path" = some (some (.ref f17)))
    (l17 : K.lookup f17 = some ⟨oc17, od17, .func (PySem.W.fnOf "heard_path" "heard_path" (defArgs s_heard_path) (defBody s_heard_path) (defScope s_heard_path) .none (.ref D17) dc17 pm17 an17 cd17 ct17), sl17⟩)
    (v17 : PySem.W.nsIn K D17 "rate" = some (some (.int 1 tD17)))
    (c17 : PySem.W.codeIn K cd17 "heard_path" = true)
    (k17 : PySem.W.keepIn K (.ref f17) = true)
    (a18 : PySem.W.nsIn K mainGlobals "nearest" = some (some (.ref f18)))
    (l18 : K.lookup f18 = some ⟨oc18, od18, .func (PySem.W.fnOf "nearest" "nearest" (defArgs s_nearest) (defBody s_nearest) (defScope s_nearest) .none (.ref D18) dc18 pm18 an18 cd18 ct18), sl18⟩)
    (v18 : PySem.W.nsIn K D18 "rate" = some (some (.int 1 tD18)))
    (c18 : PySem.W.codeIn K cd18 "nearest" = true)
    (k18 : PySem.W.keepIn K (.ref f18) = true)
    (a19 : PySem.W.nsIn K mainGlobals "least_distance" = some (some (.ref f19)))
    (l19 : K.lookup f19 = some ⟨oc19, od19, .func (PySem.W.fnOf "least_distance" "least_distance" (defArgs s_least_distance) (defBody s_least_distance) (defScope s_least_distance) .none (.ref D19) dc19 pm19 an19 cd19 ct19), sl19⟩)
    (v19 : PySem.W.nsIn K D19 "rate" = some (some (.int 1 tD19)))
    (c19 : PySem.W.codeIn K cd19 "least_distance" = true)
    (k19 : PySem.W.keepIn K (.ref f19) = true)
    (a20 : PySem.W.nsIn K mainGlobals "_law_bag" = some (some (.ref f20)))
    (l20 : K.lookup f20 = some ⟨oc20, od20, .func (PySem.W.fnOf "_law_bag" "_law_bag" (defArgs s__law_bag) (defBody s__law_bag) (defScope s__law_bag) .none kV20 dc20 pm20 an20 cd20 ct20), sl20⟩)
    (c20 : PySem.W.codeIn K cd20 "_law_bag" = true)
    (k20 : PySem.W.keepIn K (.ref f20) = true)
    (a21 : PySem.W.nsIn K mainGlobals "_law_pick" = some (some (.ref f21)))
    (l21 : K.lookup f21 = some ⟨oc21, od21, .func (PySem.W.fnOf "_law_pick" "_law_pick" (defArgs s__law_pick) (defBody s__law_pick) (defScope s__law_pick) .none kV21 dc21 pm21 an21 cd21 ct21), sl21⟩)
    (c21 : PySem.W.codeIn K cd21 "_law_pick" = true)
    (k21 : PySem.W.keepIn K (.ref f21) = true)
    (a22 : PySem.W.nsIn K mainGlobals "_law_same" = some (some (.ref f22)))
    (l22 : K.lookup f22 = some ⟨oc22, od22, .func (PySem.W.fnOf "_law_same" "_law_same" (defArgs s__law_same) (defBody s__law_same) (defScope s__law_same) .none kV22 dc22 pm22 an22 cd22 ct22), sl22⟩)
    (c22 : PySem.W.codeIn K cd22 "_law_same" = true)
    (k22 : PySem.W.keepIn K (.ref f22) = true)
    (a23 : PySem.W.nsIn K mainGlobals "_law_worth" = some (some (.ref f23)))
    (l23 : K.lookup f23 = some ⟨oc23, od23, .func (PySem.W.fnOf "_law_worth" "_law_worth" (defArgs s__law_worth) (defBody s__law_worth) (defScope s__law_worth) .none kV23 dc23 pm23 an23 cd23 ct23), sl23⟩)
    (c23 : PySem.W.codeIn K cd23 "_law_worth" = true)
    (k23 : PySem.W.keepIn K (.ref f23) = true)
    (a24 : PySem.W.nsIn K mainGlobals "_law_of" = some (some (.ref f24)))
    (l24 : K.lookup f24 = some ⟨oc24, od24, .func (PySem.W.fnOf "_law_of" "_law_of" (defArgs s__law_of) (defBody s__law_of) (defScope s__law_of) .none kV24 dc24 pm24 an24 cd24 ct24), sl24⟩)
    (c24 : PySem.W.codeIn K cd24 "_law_of" = true)
    (k24 : PySem.W.keepIn K (.ref f24) = true)
    (a25 : PySem.W.nsIn K mainGlobals "_law_tried" = some (some (.ref f25)))
    (l25 : K.lookup f25 = some ⟨oc25, od25, .func (PySem.W.fnOf "_law_tried" "_law_tried" (defArgs s__law_tried) (defBody s__law_tried) (defScope s__law_tried) .none kV25 dc25 pm25 an25 cd25 ct25), sl25⟩)
    (c25 : PySem.W.codeIn K cd25 "_law_tried" = true)
    (k25 : PySem.W.keepIn K (.ref f25) = true)
    (a26 : PySem.W.nsIn K mainGlobals "_law_apart" = some (some (.ref f26)))
    (l26 : K.lookup f26 = some ⟨oc26, od26, .func (PySem.W.fnOf "_law_apart" "_law_apart" (defArgs s__law_apart) (defBody s__law_apart) (defScope s__law_apart) .none kV26 dc26 pm26 an26 cd26 ct26), sl26⟩)
    (c26 : PySem.W.codeIn K cd26 "_law_apart" = true)
    (k26 : PySem.W.keepIn K (.ref f26) = true)
    (a27 : PySem.W.nsIn K mainGlobals "_law_step" = some (some (.ref f27)))
    (l27 : K.lookup f27 = some ⟨oc27, od27, .func (PySem.W.fnOf "_law_step" "_law_step" (defArgs s__law_step) (defBody s__law_step) (defScope s__law_step) .none kV27 dc27 pm27 an27 cd27 ct27), sl27⟩)
    (c27 : PySem.W.codeIn K cd27 "_law_step" = true)
    (k27 : PySem.W.keepIn K (.ref f27) = true)
    (a28 : PySem.W.nsIn K mainGlobals "_law_point" = some (some (.ref f28)))
    (l28 : K.lookup f28 = some ⟨oc28, od28, .func (PySem.W.fnOf "_law_point" "_law_point" (defArgs s__law_point) (defBody s__law_point) (defScope s__law_point) .none kV28 dc28 pm28 an28 cd28 ct28), sl28⟩)
    (c28 : PySem.W.codeIn K cd28 "_law_point" = true)
    (k28 : PySem.W.keepIn K (.ref f28) = true)
    (a29 : PySem.W.nsIn K mainGlobals "_law_coded" = some (some (.ref f29)))
    (l29 : K.lookup f29 = some ⟨oc29, od29, .func (PySem.W.fnOf "_law_coded" "_law_coded" (defArgs s__law_coded) (defBody s__law_coded) (defScope s__law_coded) .none kV29 dc29 pm29 an29 cd29 ct29), sl29⟩)
    (c29 : PySem.W.codeIn K cd29 "_law_coded" = true)
    (k29 : PySem.W.keepIn K (.ref f29) = true)
    (a30 : PySem.W.nsIn K mainGlobals "_law_tones" = some (some (.ref f30)))
    (l30 : K.lookup f30 = some ⟨oc30, od30, .func (PySem.W.fnOf "_law_tones" "_law_tones" (defArgs s__law_tones) (defBody s__law_tones) (defScope s__law_tones) .none kV30 dc30 pm30 an30 cd30 ct30), sl30⟩)
    (c30 : PySem.W.codeIn K cd30 "_law_tones" = true)
    (k30 : PySem.W.keepIn K (.ref f30) = true)
    (a31 : PySem.W.nsIn K mainGlobals "_law_cost" = some (some (.ref f31)))
    (l31 : K.lookup f31 = some ⟨oc31, od31, .func (PySem.W.fnOf "_law_cost" "_law_cost" (defArgs s__law_cost) (defBody s__law_cost) (defScope s__law_cost) .none kV31 dc31 pm31 an31 cd31 ct31), sl31⟩)
    (c31 : PySem.W.codeIn K cd31 "_law_cost" = true)
    (k31 : PySem.W.keepIn K (.ref f31) = true)
    (a32 : PySem.W.nsIn K mainGlobals "_law_no_pace" = some (some (.ref f32)))
    (l32 : K.lookup f32 = some ⟨oc32, od32, .func (PySem.W.fnOf "_law_no_pace" "_law_no_pace" (defArgs s__law_no_pace) (defBody s__law_no_pace) (defScope s__law_no_pace) .none kV32 dc32 pm32 an32 cd32 ct32), sl32⟩)
    (c32 : PySem.W.codeIn K cd32 "_law_no_pace" = true)
    (k32 : PySem.W.keepIn K (.ref f32) = true)
    (a33 : PySem.W.nsIn K mainGlobals "_law_far" = some (some (.ref f33)))
    (l33 : K.lookup f33 = some ⟨oc33, od33, .func (PySem.W.fnOf "_law_far" "_law_far" (defArgs s__law_far) (defBody s__law_far) (defScope s__law_far) .none kV33 dc33 pm33 an33 cd33 ct33), sl33⟩)
    (c33 : PySem.W.codeIn K cd33 "_law_far" = true)
    (k33 : PySem.W.keepIn K (.ref f33) = true)
    (a34 : PySem.W.nsIn K mainGlobals "law" = some (some (.ref f34)))
    (l34 : K.lookup f34 = some ⟨oc34, od34, .func (PySem.W.fnOf "law" "law" (defArgs s_law) (defBody s_law) (defScope s_law) .none kV34 dc34 pm34 an34 (.ref cL_) ct34), sl34⟩)
    (c34 : PySem.W.codeIn K (.ref cL_) "law" = true)
    (k34 : PySem.W.keepIn K (.ref f34) = true)
    (t1 : K.lookup cL_ = some ⟨eT, ddT, .fields vsT, slT⟩)
    (t2 : (vsT[11]? : Option Value) = some (.ref tP))
    (t3 : PySem.W.codeHdIn K cL_ tP = true)
    (t4 : K.lookup tP = none)
    (e1 : PySem.W.nsIn K mainGlobals "LineError" = some (some (.ref cLE)))
    (e2 : PySem.W.specialIn K (.ref cLE) "__getattribute__" = some (some (.builtin "type.__getattribute__")))
    (e3 : PySem.W.typeIn K (.ref cLE) = some (.type "type"))
    (e4 : PySem.W.readsIn K cLE (.type "type") = true)
    (e5 : PySem.W.findCls K (.ref cLE) (.type "type") "__init__" = some (.val (.ref fLE)))
    (e6 : PySem.W.keepIn K (.ref fLE) = true)
    (e7 : K.lookup fLE = some ⟨ocLE, odLE, .func (PySem.W.fnOf "__init__" "LineError.__init__" (defArgs i_LineError) (defBody i_LineError) (defScope i_LineError) (.ref dLE) kVLE dcLE pmLE anLE cdLE ctLE), slLE⟩)
    (e8 : PySem.W.codeIn K cdLE "LineError.__init__" = true)
    (e9 : K.lookup dLE = some ⟨.type "tuple", oD, .seq #[.str "LineError" tLe1, .str "refused" tLe2] mD, slD⟩)
    (e10 : PySem.W.findCls K (.type "ValueError") (.type "type") "__init__" = some (.val (.builtin "ValueError.__init__")))
    (z_ValueError : PySem.W.nsIn K mainGlobals "ValueError" = some none)
    (gBadBit : PySem.W.nsIn K mainGlobals "BadBit" = some (some (.ref xBadBit)))
    (gaBadBit : PySem.W.findIn K (.ref xBadBit) "__getattribute__" = some (some (.builtin "BaseException.__getattribute__")))
    (ggBadBit : PySem.W.findIn K (.ref xBadBit) "__getattr__" = some none)
    (exBadBit : PySem.W.subIn K (.ref xBadBit) (.type "BaseException") = some true)
    (hdBadBit : PySem.W.hasDictIn K xBadBit = true)
    (noBadBit : PySem.W.findIn K (.ref xBadBit) "at" = some none)
    (gBadCount : PySem.W.nsIn K mainGlobals "BadCount" = some (some (.ref xBadCount)))
    (gaBadCount : PySem.W.findIn K (.ref xBadCount) "__getattribute__" = some (some (.builtin "BaseException.__getattribute__")))
    (ggBadCount : PySem.W.findIn K (.ref xBadCount) "__getattr__" = some none)
    (exBadCount : PySem.W.subIn K (.ref xBadCount) (.type "BaseException") = some true)
    (hdBadCount : PySem.W.hasDictIn K xBadCount = true)
    (gBadRate : PySem.W.nsIn K mainGlobals "BadRate" = some (some (.ref xBadRate)))
    (gaBadRate : PySem.W.findIn K (.ref xBadRate) "__getattribute__" = some (some (.builtin "BaseException.__getattribute__")))
    (ggBadRate : PySem.W.findIn K (.ref xBadRate) "__getattr__" = some none)
    (exBadRate : PySem.W.subIn K (.ref xBadRate) (.type "BaseException") = some true)
    (hdBadRate : PySem.W.hasDictIn K xBadRate = true)
    (gMissing : PySem.W.nsIn K mainGlobals "Missing" = some (some (.ref xMissing)))
    (mBLineBadCount : PySem.W.exmOne K (.ref xBadCount) (.ref cLE) = some true)
    (mBLineBadRate : PySem.W.exmOne K (.ref xBadRate) (.ref cLE) = some true)
    (o1BadBit : K.lookup xBadBit = some (excClassObj nmBadBit qBadBit xBadBit NBadBit bsBadBit bmBadBit true snBadBit subBadBit abBadBit colBadBit ddBadBit kaBadBit kbBadBit kcBadBit kdBadBit keBadBit "ValueError.__new__"))
    (o2BadBit : PySem.HandSPX.refsVE bmBadBit = true)
    (o3BadBit : PySem.W.findIn K (.ref xBadBit) "__setattr__" = some (some (.builtin "object.__setattr__")))
    (o4BadBit : PySem.W.typeIn K (.ref xBadBit) = some (.type "type"))
    (o5BadBit : PySem.W.keepIn K (.ref xBadBit) = true)
    (o6BadBit : PySem.W.findIn K (.ref xBadBit) "__init__" = some (some (.ref fIBadBit)))
    (o7BadBit : PySem.W.typeIn K (.ref fIBadBit) = some (.type "function"))
    (o8BadBit : K.lookup fIBadBit = some ⟨ocBadBit, odBadBit, .func (PySem.W.fnOf "__init__" "BadBit.__init__" (defArgs i_BadBit) (defBody i_BadBit) (defScope i_BadBit) .none kVBadBit dcBadBit pmBadBit anBadBit cdBadBit ctBadBit), slBadBit⟩)
    (o9BadBit : PySem.W.codeIn K cdBadBit "BadBit.__init__" = true)
    (p1BadBit : PySem.W.keepIn K (.ref fIBadBit) = true)
    (p2BadBit : PySem.W.findIn K (.ref xBadBit) "word" = some none)
    (o1BadCount : K.lookup xBadCount = some (excClassObj nmBadCount qBadCount xBadCount NBadCount bsBadCount bmBadCount true snBadCount subBadCount abBadCount colBadCount ddBadCount kaBadCount kbBadCount kcBadCount kdBadCount keBadCount "ValueError.__new__"))
    (o2BadCount : PySem.HandSPX.refsVE bmBadCount = true)
    (o3BadCount : PySem.W.findIn K (.ref xBadCount) "__setattr__" = some (some (.builtin "object.__setattr__")))
    (o4BadCount : PySem.W.typeIn K (.ref xBadCount) = some (.type "type"))
    (o5BadCount : PySem.W.keepIn K (.ref xBadCount) = true)
    (o6BadCount : PySem.W.findIn K (.ref xBadCount) "__init__" = some (some (.ref fIBadCount)))
    (o7BadCount : PySem.W.typeIn K (.ref fIBadCount) = some (.type "function"))
    (o8BadCount : K.lookup fIBadCount = some ⟨ocBadCount, odBadCount, .func (PySem.W.fnOf "__init__" "BadCount.__init__" (defArgs i_BadCount) (defBody i_BadCount) (defScope i_BadCount) .none kVBadCount dcBadCount pmBadCount anBadCount cdBadCount ctBadCount), slBadCount⟩)
    (o9BadCount : PySem.W.codeIn K cdBadCount "BadCount.__init__" = true)
    (p1BadCount : PySem.W.keepIn K (.ref fIBadCount) = true)
    (p2BadCount : PySem.W.findIn K (.ref xBadCount) "word" = some none)
    (o1BadRate : K.lookup xBadRate = some (excClassObj nmBadRate qBadRate xBadRate NBadRate bsBadRate bmBadRate true snBadRate subBadRate abBadRate colBadRate ddBadRate kaBadRate kbBadRate kcBadRate kdBadRate keBadRate "ValueError.__new__"))
    (o2BadRate : PySem.HandSPX.refsVE bmBadRate = true)
    (o3BadRate : PySem.W.findIn K (.ref xBadRate) "__setattr__" = some (some (.builtin "object.__setattr__")))
    (o4BadRate : PySem.W.typeIn K (.ref xBadRate) = some (.type "type"))
    (o5BadRate : PySem.W.keepIn K (.ref xBadRate) = true)
    (o6BadRate : PySem.W.findIn K (.ref xBadRate) "__init__" = some (some (.ref fIBadRate)))
    (o7BadRate : PySem.W.typeIn K (.ref fIBadRate) = some (.type "function"))
    (o8BadRate : K.lookup fIBadRate = some ⟨ocBadRate, odBadRate, .func (PySem.W.fnOf "__init__" "BadRate.__init__" (defArgs i_BadRate) (defBody i_BadRate) (defScope i_BadRate) .none kVBadRate dcBadRate pmBadRate anBadRate cdBadRate ctBadRate), slBadRate⟩)
    (o9BadRate : PySem.W.codeIn K cdBadRate "BadRate.__init__" = true)
    (p1BadRate : PySem.W.keepIn K (.ref fIBadRate) = true)
    (p2BadRate : PySem.W.findIn K (.ref xBadRate) "word" = some none)
    (z_enumerate : PySem.W.nsIn K mainGlobals "enumerate" = some none)
    (z_len : PySem.W.nsIn K mainGlobals "len" = some none)
    (z_range : PySem.W.nsIn K mainGlobals "range" = some none)
    (z_abs : PySem.W.nsIn K mainGlobals "abs" = some none)
    (z_list : PySem.W.nsIn K mainGlobals "list" = some none)
    (z_min : PySem.W.nsIn K mainGlobals "min" = some none)
    (z_reversed : PySem.W.nsIn K mainGlobals "reversed" = some none)
    (z_sum : PySem.W.nsIn K mainGlobals "sum" = some none)
    (z_zip : PySem.W.nsIn K mainGlobals "zip" = some none)
    (z_all : PySem.W.nsIn K mainGlobals "all" = some none)
    (z_bool : PySem.W.nsIn K mainGlobals "bool" = some none)
    (z_int : PySem.W.nsIn K mainGlobals "int" = some none)
    (z_isinstance : PySem.W.nsIn K mainGlobals "isinstance" = some none)
    (z_str : PySem.W.nsIn K mainGlobals "str" = some none)
    (z_tuple : PySem.W.nsIn K mainGlobals "tuple" = some none)
    (q_MOST_BITS : PySem.W.nsIn K mainGlobals "MOST_BITS" = some (some (.int 64 t_MOST_BITS)))
    (q_TAIL : PySem.W.nsIn K mainGlobals "TAIL" = some (some (.int 2 t_TAIL)))
    (q_STATES : PySem.W.nsIn K mainGlobals "STATES" = some (some (.int 4 t_STATES)))
    (q_RING : PySem.W.nsIn K mainGlobals "RING" = some (some (.int 256 t_RING)))
    (q_RATES : PySem.W.nsIn K mainGlobals "RATES" = some (some (.ref a_RATES)))
    (w_RATES : K.lookup a_RATES = some ⟨.type "tuple", o_RATES, .seq #[.int 1 t_RATES0, .int 2 t_RATES1, .int 3 t_RATES2, .int 4 t_RATES3] m_RATES, sl_RATES⟩)
    (q_FEWEST_POINTS : PySem.W.nsIn K mainGlobals "FEWEST_POINTS" = some (some (.int 4 t_FEWEST_POINTS))) :
    LamX.LawAtS l w K CX0 14 63 "_law_script" mg fa h := by
  have e := hfa.symm.trans (PySem.W.mg_of X G a34)
  cases e
  have F0 := fun_mk (st := s_check_bits) l0 c0 k0
  have b0 := F0.binds (ps := ["bits"]) fun _ _ _ _ _ _ us hl => match us, hl with | [_], _ => rfl
  have F1 := fun_mk (st := s_bits_number) l1 c1 k1
  have b1 := F1.binds (ps := ["bits"]) fun _ _ _ _ _ _ us hl => match us, hl with | [_], _ => rfl
  have F2 := fun_mk (st := s_number_bits) l2 c2 k2
  have b2 := F2.binds (ps := ["number", "many"]) fun _ _ _ _ _ _ us hl => match us, hl with | [_, _], _ => rfl
  have F3 := fun_mk (st := s_check_rate) l3 c3 k3
  have b3 := F3.binds (ps := ["rate"]) fun _ _ _ _ _ _ us hl => match us, hl with | [_], _ => rfl
  have F4 := fun_mk (st := s_folded) l4 c4 k4
  have b4 := F4.binds (ps := ["number"]) fun _ _ _ _ _ _ us hl => match us, hl with | [_], _ => rfl
  have F5 := fun_mk (st := s_apart) l5 c5 k5
  have b5 := F5.binds (ps := ["one", "other"]) fun _ _ _ _ _ _ us hl => match us, hl with | [_, _], _ => rfl
  have F6 := fun_mk (st := s_points_at) l6 c6 k6
  have b6 := F6.binds (ps := ["rate"]) fun _ _ _ _ _ _ us hl => match us, hl with | [_], _ => rfl
  have F7 := fun_mk (st := s_step) l7 c7 k7
  have b7 := F7.binds (ps := ["rate"]) fun _ _ _ _ _ _ us hl => match us, hl with | [_], _ => rfl
  have F8 := funD_one (x := "point") (qual := "point") (params := defArgs s_point) (body := defBody s_point) (scope := defScope s_point) (y := "rate") (v := .int 1) l8 c8 k8 v8 ⟨_, rfl⟩
  have F9 := fun_mk (st := s_moved) l9 c9 k9
  have b9 := F9.binds (ps := ["state", "first"]) fun _ _ _ _ _ _ us hl => match us, hl with | [_, _], _ => rfl
  have F10 := fun_mk (st := s_class_of) l10 c10 k10
  have b10 := F10.binds (ps := ["state", "first"]) fun _ _ _ _ _ _ us hl => match us, hl with | [_, _], _ => rfl
  have F11 := funD_one (x := "coded") (qual := "coded") (params := defArgs s_coded) (body := defBody s_coded) (scope := defScope s_coded) (y := "rate") (v := .int 1) l11 c11 k11 v11 ⟨_, rfl⟩
  have F12 := fun_mk (st := s_nearest_of_class) l12 c12 k12
  have b12 := F12.binds (ps := ["number", "low", "rate"]) fun _ _ _ _ _ _ us hl => match us, hl with | [_, _, _], _ => rfl
  have F13 := fun_mk (st := s_onward) l13 c13 k13
  have b13 := F13.binds (ps := ["state", "first", "classes", "costs"]) fun _ _ _ _ _ _ us hl => match us, hl with | [_, _, _, _], _ => rfl
  have F14 := fun_mk (st := s_best_of_beat) l14 c14 k14
  have b14 := F14.binds (ps := ["number", "costs", "rate"]) fun _ _ _ _ _ _ us hl => match us, hl with | [_, _, _], _ => rfl
  have F15 := fun_mk (st := s_tail_costs) l15 c15 k15
  have b15 := F15.binds (ps := ["heard", "rate"]) fun _ _ _ _ _ _ us hl => match us, hl with | [_, _], _ => rfl
  have F16 := fun_mk (st := s_bits_along) l16 c16 k16
  have b16 := F16.binds (ps := ["beats", "rate"]) fun _ _ _ _ _ _ us hl => match us, hl with | [_, _], _ => rfl
  have F17 := funD_one (x := "heard_path") (qual := "heard_path") (params := defArgs s_heard_path) (body := defBody s_heard_path) (scope := defScope s_heard_path) (y := "rate") (v := .int 1) l17 c17 k17 v17 ⟨_, rfl⟩
  have F18 := funD_one (x := "nearest") (qual := "nearest") (params := defArgs s_nearest) (body := defBody s_nearest) (scope := defScope s_nearest) (y := "rate") (v := .int 1) l18 c18 k18 v18 ⟨_, rfl⟩
  have F19 := funD_one (x := "least_distance") (qual := "least_distance") (params := defArgs s_least_distance) (body := defBody s_least_distance) (scope := defScope s_least_distance) (y := "rate") (v := .int 1) l19 c19 k19 v19 ⟨_, rfl⟩
  have F20 := fun_mk (st := s__law_bag) l20 c20 k20
  have b20 := F20.binds (ps := ["_law_script"]) fun _ _ _ _ _ _ us hl => match us, hl with | [_], _ => rfl
  have F21 := fun_mk (st := s__law_pick) l21 c21 k21
  have b21 := F21.binds (ps := ["_law_bag_here", "_law_top"]) fun _ _ _ _ _ _ us hl => match us, hl with | [_, _], _ => rfl
  have F22 := fun_mk (st := s__law_same) l22 c22 k22
  have b22 := F22.binds (ps := ["_law_found", "_law_due"]) fun _ _ _ _ _ _ us hl => match us, hl with | [_, _], _ => rfl
  have F23 := fun_mk (st := s__law_worth) l23 c23 k23
  have b23 := F23.binds (ps := ["_law_signs"]) fun _ _ _ _ _ _ us hl => match us, hl with | [_], _ => rfl
  have F24 := fun_mk (st := s__law_of) l24 c24 k24
  have b24 := F24.binds (ps := ["_law_bag_here", "_law_some"]) fun _ _ _ _ _ _ us hl => match us, hl with | [_, _], _ => rfl
  have F25 := fun_mk (st := s__law_tried) l25 c25 k25
  have b25 := F25.binds (ps := ["_law_act"]) fun _ _ _ _ _ _ us hl => match us, hl with | [_], _ => rfl
  have F26 := fun_mk (st := s__law_apart) l26 c26 k26
  have b26 := F26.binds (ps := ["_law_one", "_law_other"]) fun _ _ _ _ _ _ us hl => match us, hl with | [_, _], _ => rfl
  have F27 := fun_mk (st := s__law_step) l27 c27 k27
  have b27 := F27.binds (ps := ["_law_pace"]) fun _ _ _ _ _ _ us hl => match us, hl with | [_], _ => rfl
  have F28 := fun_mk (st := s__law_point) l28 c28 k28
  have b28 := F28.binds (ps := ["_law_figure", "_law_pace"]) fun _ _ _ _ _ _ us hl => match us, hl with | [_, _], _ => rfl
  have F29 := fun_mk (st := s__law_coded) l29 c29 k29
  have b29 := F29.binds (ps := ["_law_signs", "_law_pace"]) fun _ _ _ _ _ _ us hl => match us, hl with | [_, _], _ => rfl
  have F30 := fun_mk (st := s__law_tones) l30 c30 k30
  have b30 := F30.binds (ps := ["_law_signs", "_law_pace"]) fun _ _ _ _ _ _ us hl => match us, hl with | [_, _], _ => rfl
  have F31 := fun_mk (st := s__law_cost) l31 c31 k31
  have b31 := F31.binds (ps := ["_law_heard", "_law_signs", "_law_pace"]) fun _ _ _ _ _ _ us hl => match us, hl with | [_, _, _], _ => rfl
  have F32 := fun_mk (st := s__law_no_pace) l32 c32 k32
  have b32 := F32.binds (ps := ["_law_bag_here"]) fun _ _ _ _ _ _ us hl => match us, hl with | [_], _ => rfl
  have F33 := fun_mk (st := s__law_far) l33 c33 k33
  have b33 := F33.binds (ps := ["_law_bag_here"]) fun _ _ _ _ _ _ us hl => match us, hl with | [_], _ => rfl
  have F34 := fun_mk (st := s_law) l34 c34 k34
  have b34 := F34.binds (ps := ["_law_script"]) fun _ _ _ _ _ _ us hl => match us, hl with | [_], _ => rfl
  have h_RATES : ∀ H, SqT K H a_RATES [.int 1, .int 2, .int 3, .int 4] := fun H => .inr ⟨_, _, _, w_RATES, rfl, rfl, (by show 4 ≤ sizeLine; decide), .cons ⟨_, rfl⟩ (.cons ⟨_, rfl⟩ (.cons ⟨_, rfl⟩ (.cons ⟨_, rfl⟩ (.nil))))⟩
  have FD : FunD K "__init__" "LineError.__init__" (defArgs i_LineError) (defBody i_LineError) (defScope i_LineError) [.str "LineError", .str "refused"] [] fLE (PySem.W.fnOf "__init__" "LineError.__init__" (defArgs i_LineError) (defBody i_LineError) (defScope i_LineError) (.ref dLE) kVLE dcLE pmLE anLE cdLE ctLE) := ⟨⟨_, _, _, _, _, _, _, _, _, _, rfl, e7, e8, .inr ⟨by simp, dLE, _, _, _, rfl, e9, rfl, .cons ⟨_, rfl⟩ (.cons ⟨_, rfl⟩ .nil)⟩, .inl rfl⟩, e6⟩
  have bLE : Binds K (PySem.W.fnOf "__init__" "LineError.__init__" (defArgs i_LineError) (defBody i_LineError) (defScope i_LineError) (.ref dLE) kVLE dcLE pmLE anLE cdLE ctLE) ["self", "word", "text"] [] := by
    obtain ⟨ds, r, hb⟩ := FD.binds1 (ps := ["self", "word", "text"]) 3 2 (by simp) rfl (fun T kV doc pm an cdv ct us its hu hi => match us, its, hu, hi with | [_, _, _], [_, _], _, _ => ⟨_, rfl, rfl⟩)
    cases r
    exact hb
  have TL : ClsFn K mg "LineError" "__init__" cLE fLE := ⟨PySem.W.mg_of X G e1, e2, e3, e4, e5, rfl, e6⟩
  have OBadBit : OexC K xBadBit := ⟨⟨_, _, _, _, _, _, _, _, _, _, _, _, _, _, _, o1BadBit, o2BadBit⟩, o3BadBit, exBadBit, o4BadBit, o5BadBit⟩
  have FIBadBit := fun_mk (st := i_BadBit) o8BadBit o9BadBit p1BadBit
  have bIBadBit := FIBadBit.binds (ps := ["self", "at"]) fun _ _ _ _ _ _ us hl => match us, hl with | [_, _], _ => rfl
  have OBadCount : OexC K xBadCount := ⟨⟨_, _, _, _, _, _, _, _, _, _, _, _, _, _, _, o1BadCount, o2BadCount⟩, o3BadCount, exBadCount, o4BadCount, o5BadCount⟩
  have FIBadCount := fun_mk (st := i_BadCount) o8BadCount o9BadCount p1BadCount
  have bIBadCount := FIBadCount.binds (ps := ["self"]) fun _ _ _ _ _ _ us hl => match us, hl with | [_], _ => rfl
  have OBadRate : OexC K xBadRate := ⟨⟨_, _, _, _, _, _, _, _, _, _, _, _, _, _, _, o1BadRate, o2BadRate⟩, o3BadRate, exBadRate, o4BadRate, o5BadRate⟩
  have FIBadRate := fun_mk (st := i_BadRate) o8BadRate o9BadRate p1BadRate
  have bIBadRate := FIBadRate.binds (ps := ["self"]) fun _ _ _ _ _ _ us hl => match us, hl with | [_], _ => rfl
  refine ⟨PySem.W.fnOf "law" "law" (defArgs s_law) (defBody s_law) (defScope s_law) .none kV34 dc34 pm34 an34 (.ref cL_) ct34, [(cL_, tP)], spLaw K tP, ?_, ?_, ?_, fun s v => .of_eq rfl, ?_, fun base _ _ hTB => ?_⟩
  · intro p hp
    rw [List.mem_singleton.mp hp]
    exact own cL_ tP _ _ _ _ _ _ l34 rfl rfl t1 t2
  · intro p hp
    rw [List.mem_singleton.mp hp]
    exact t4
  · intro p hp
    rw [List.mem_singleton.mp hp]
    exact PySem.W.codeHd_of_K X t3
  · intro H a ns _ _ hH hS
    exact ⟨a, ns, rfl, hS, hH _ (List.mem_singleton.mpr rfl), fun _ => rfl⟩
  have OKL := ok_i_LineError (P := l.prog) (w := w) (base := base) (mg := mg) (k := 0) FD (PySem.W.mg_none_of X G z_ValueError) e10
  have X_BadBit : XcOk l.prog w K mg base 2 "BadBit" xBadBit (spIni K xBadBit "BadBit" "at") := ⟨fIBadBit, _, _, OBadBit, o6BadBit, o7BadBit, ok_i_BadBit FIBadBit TL OKL bLE OBadBit p2BadBit noBadBit, bIBadBit, PySem.W.mg_of X G gBadBit⟩
  have X_BadCount : XcOk l.prog w K mg base 2 "BadCount" xBadCount (spIni0 K xBadCount "BadCount") := ⟨fIBadCount, _, _, OBadCount, o6BadCount, o7BadCount, ok_i_BadCount FIBadCount TL OKL bLE OBadCount p2BadCount, bIBadCount, PySem.W.mg_of X G gBadCount⟩
  have X_BadRate : XcOk l.prog w K mg base 2 "BadRate" xBadRate (spIni0 K xBadRate "BadRate") := ⟨fIBadRate, _, _, OBadRate, o6BadRate, o7BadRate, ok_i_BadRate FIBadRate TL OKL bLE OBadRate p2BadRate, bIBadRate, PySem.W.mg_of X G gBadRate⟩
  have TB := hTB _ (List.mem_singleton.mpr rfl)
  have C_check_bits : CalX l.prog w K mg base 4 "check_bits" ["bits"] (spCheckX K xBadBit) := ⟨f0, _, ok_check_bits F0 (PySem.W.mg_none_of X G z_enumerate) (X_BadBit.mono (by decide)), PySem.W.mg_of X G a0, k0, b0⟩
  have C_bits_number : CalX l.prog w K mg base 5 "bits_number" ["bits"] (spBnX K xBadBit xBadCount) := ⟨f1, _, ok_bits_number F1 (PySem.W.mg_none_of X G z_len) (PySem.W.mg_of X G q_MOST_BITS) (X_BadCount.mono (by decide)) (C_check_bits.mono (by decide)), PySem.W.mg_of X G a1, k1, b1⟩
  have C_number_bits : CalX l.prog w K mg base 4 "number_bits" ["number", "many"] (spNbX xBadCount) := ⟨f2, _, ok_number_bits F2 (PySem.W.mg_none_of X G z_range) (PySem.W.mg_of X G q_MOST_BITS) (X_BadCount.mono (by decide)), PySem.W.mg_of X G a2, k2, b2⟩
  have C_check_rate : CalX l.prog w K mg base 4 "check_rate" ["rate"] (spCR xBadRate) := ⟨f3, _, ok_check_rate F3 (PySem.W.mg_of X G q_RATES) h_RATES (X_BadRate.mono (by decide)), PySem.W.mg_of X G a3, k3, b3⟩
  have C_folded : Cal l.prog w K mg base 1 "folded" ["number"] (spFolded) := ⟨f4, _, ok_folded F4 (PySem.W.mg_of X G q_RING), PySem.W.mg_of X G a4, k4, b4⟩
  have C_apart : Cal l.prog w K mg base 2 "apart" ["one", "other"] (spApart) := ⟨f5, _, ok_apart F5 (PySem.W.mg_none_of X G z_abs) (C_folded.mono (by decide)), PySem.W.mg_of X G a5, k5, b5⟩
  have C_points_at : CalX l.prog w K mg base 5 "points_at" ["rate"] (spPA xBadRate) := ⟨f6, _, ok_points_at F6 (PySem.W.mg_of X G q_FEWEST_POINTS) (C_check_rate.mono (by decide)), PySem.W.mg_of X G a6, k6, b6⟩
  have C_step : CalX l.prog w K mg base 6 "step" ["rate"] (spStep xBadRate) := ⟨f7, _, ok_step F7 (PySem.W.mg_of X G q_RING) (C_points_at.mono (by decide)), PySem.W.mg_of X G a7, k7, b7⟩
  have O_8 : FnOk l.prog w K mg base (L2.CX l.prog w) 7 f8 _ ["number", "rate"] (spPoint xBadCount xBadRate) := ok_point F8 (PySem.W.mg_of X G q_RING) (X_BadCount.mono (by decide)) (C_points_at.mono (by decide)) (C_step.mono (by decide))
  have C_w_point_1_rate : CalW l.prog w K mg base 7 "point" ["number", "rate"] 1 ["rate"] (fun vs zs => vs ++ zs) (spPoint xBadCount xBadRate) := by
    obtain ⟨g, hg⟩ := kbn_app (ps := ["number", "rate"]) F8 1 ["rate"] (by intro z; cases z) fun _ _ _ _ _ _ us ws h1 h2 => match us, ws, h1, h2 with | [_], [_], _, _ => rfl
    exact ⟨f8, _, g, O_8, PySem.W.mg_of X G a8, k8, hg⟩
  have C_moved : Cal l.prog w K mg base 1 "moved" ["state", "first"] (spMovedS) := ⟨f9, _, ok_moved F9 , PySem.W.mg_of X G a9, k9, b9⟩
  have C_class_of : Cal l.prog w K mg base 1 "class_of" ["state", "first"] (spClass) := ⟨f10, _, ok_class_of F10 , PySem.W.mg_of X G a10, k10, b10⟩
  have O_11 : FnOk l.prog w K mg base (L2.CX l.prog w) 6 f11 _ ["bits", "rate"] (spCoded K xBadBit xBadCount xBadRate) := ok_coded F11 (PySem.W.mg_none_of X G z_len) (PySem.W.mg_none_of X G z_list) (PySem.W.mg_none_of X G z_range) (PySem.W.mg_of X G q_TAIL) (X_BadCount.mono (by decide)) (C_check_rate.mono (by decide)) (C_check_bits.mono (by decide)) (C_bits_number.mono (by decide)) (C_class_of.mono (by decide)) (C_moved.mono (by decide))
  have C_w_coded_1_rate : CalW l.prog w K mg base 6 "coded" ["bits", "rate"] 1 ["rate"] (fun vs zs => vs ++ zs) (spCoded K xBadBit xBadCount xBadRate) := by
    obtain ⟨g, hg⟩ := kbn_app (ps := ["bits", "rate"]) F11 1 ["rate"] (by intro z; cases z) fun _ _ _ _ _ _ us ws h1 h2 => match us, ws, h1, h2 with | [_], [_], _, _ => rfl
    exact ⟨f11, _, g, O_11, PySem.W.mg_of X G a11, k11, hg⟩
  have C_nearest_of_class : Cal l.prog w K mg base 8 "nearest_of_class" ["number", "low", "rate"] (spNC) := ⟨f12, _, ok_nearest_of_class F12 (PySem.W.mg_none_of X G z_min) (PySem.W.mg_of X G q_RING) (C_step.mono (by decide)) (C_w_point_1_rate.mono (by decide)), PySem.W.mg_of X G a12, k12, b12⟩
  have C_onward : Cal l.prog w K mg base 2 "onward" ["state", "first", "classes", "costs"] (spOn K) := ⟨f13, _, ok_onward F13 (C_class_of.mono (by decide)) (C_moved.mono (by decide)), PySem.W.mg_of X G a13, k13, b13⟩
  have C_best_of_beat : Cal l.prog w K mg base 9 "best_of_beat" ["number", "costs", "rate"] (spBB K) := ⟨f14, _, ok_best_of_beat F14 (PySem.W.mg_none_of X G z_min) (PySem.W.mg_none_of X G z_range) (PySem.W.mg_of X G q_STATES) (C_nearest_of_class.mono (by decide)) (C_onward.mono (by decide)), PySem.W.mg_of X G a14, k14, b14⟩
  have C_tail_costs : Cal l.prog w K mg base 8 "tail_costs" ["heard", "rate"] (spTC K) := ⟨f15, _, ok_tail_costs F15 (PySem.W.mg_none_of X G z_range) (PySem.W.mg_none_of X G z_reversed) (PySem.W.mg_of X G q_STATES) (C_apart.mono (by decide)) (C_w_point_1_rate.mono (by decide)) (C_class_of.mono (by decide)) (C_moved.mono (by decide)), PySem.W.mg_of X G a15, k15, b15⟩
  have C_bits_along : Cal l.prog w K mg base 5 "bits_along" ["beats", "rate"] (spBA K) := ⟨f16, _, ok_bits_along F16 (C_number_bits.mono (by decide)) (C_moved.mono (by decide)), PySem.W.mg_of X G a16, k16, b16⟩
  have O_17 : FnOk l.prog w K mg base (L2.CX l.prog w) 11 f17 _ ["heard", "rate"] (spHP K xBadCount xBadRate) := ok_heard_path F17 (PySem.W.mg_none_of X G z_len) (PySem.W.mg_none_of X G z_reversed) (PySem.W.mg_of X G q_TAIL) (X_BadCount.mono (by decide)) (C_check_rate.mono (by decide)) (C_tail_costs.mono (by decide)) (C_best_of_beat.mono (by decide)) (C_bits_along.mono (by decide))
  have C_w_heard_path_1_rate : CalW l.prog w K mg base 11 "heard_path" ["heard", "rate"] 1 ["rate"] (fun vs zs => vs ++ zs) (spHP K xBadCount xBadRate) := by
    obtain ⟨g, hg⟩ := kbn_app (ps := ["heard", "rate"]) F17 1 ["rate"] (by intro z; cases z) fun _ _ _ _ _ _ us ws h1 h2 => match us, ws, h1, h2 with | [_], [_], _, _ => rfl
    exact ⟨f17, _, g, O_17, PySem.W.mg_of X G a17, k17, hg⟩
  have C_d_heard_path : CalD l.prog w K mg base 11 "heard_path" ["heard", "rate"] [.int 1] (spHP K xBadCount xBadRate) := by
    obtain ⟨ds, hv, hb⟩ := dfl_one (ps := ["heard", "rate"]) F17 1 rfl fun _ _ _ _ _ _ us u h1 => match us, h1 with | [_], _ => ⟨_, _, _, _, _, _, rfl, rfl, rfl⟩
    exact ⟨f17, _, ds, O_17, PySem.W.mg_of X G a17, k17, hb, hv⟩
  have O_18 : FnOk l.prog w K mg base (L2.CX l.prog w) 5 f18 _ ["rate"] (spNear xBadRate) := ok_nearest F18 (C_check_rate.mono (by decide))
  have C_w_nearest_0_rate : CalW l.prog w K mg base 5 "nearest" ["rate"] 0 ["rate"] (fun vs zs => vs ++ zs) (spNear xBadRate) := by
    obtain ⟨g, hg⟩ := kbn_app (ps := ["rate"]) F18 0 ["rate"] (by intro z; cases z) fun _ _ _ _ _ _ us ws h1 h2 => match us, ws, h1, h2 with | [], [_], _, _ => rfl
    exact ⟨f18, _, g, O_18, PySem.W.mg_of X G a18, k18, hg⟩
  have O_19 : FnOk l.prog w K mg base (L2.CX l.prog w) 8 f19 _ ["rate"] (spLD xBadRate) := ok_least_distance F19 (PySem.W.mg_none_of X G z_sum) (PySem.W.mg_none_of X G z_zip) (C_apart.mono (by decide)) (C_w_point_1_rate.mono (by decide)) (C_w_coded_1_rate.mono (by decide)) (C_w_nearest_0_rate.mono (by decide))
  have C_w_least_distance_0_rate : CalW l.prog w K mg base 8 "least_distance" ["rate"] 0 ["rate"] (fun vs zs => vs ++ zs) (spLD xBadRate) := by
    obtain ⟨g, hg⟩ := kbn_app (ps := ["rate"]) F19 0 ["rate"] (by intro z; cases z) fun _ _ _ _ _ _ us ws h1 h2 => match us, ws, h1, h2 with | [], [_], _, _ => rfl
    exact ⟨f19, _, g, O_19, PySem.W.mg_of X G a19, k19, hg⟩
  have C__law_bag : Cal l.prog w K mg base 1 "_law_bag" ["_law_script"] (spBag K) := ⟨f20, _, ok__law_bag F20 (PySem.W.mg_none_of X G z_len) (PySem.W.mg_none_of X G z_list), PySem.W.mg_of X G a20, k20, b20⟩
  have C__law_pick : Cal l.prog w K mg base 1 "_law_pick" ["_law_bag_here", "_law_top"] (spPick) := ⟨f21, _, ok__law_pick F21 (PySem.W.mg_none_of X G z_len), PySem.W.mg_of X G a21, k21, b21⟩
  have C__law_pickW : Cal l.prog w K mg base 1 "_law_pick" ["_law_bag_here", "_law_top"] (spPickW) := ⟨f21, _, ok__law_pickW F21 (PySem.W.mg_none_of X G z_len), PySem.W.mg_of X G a21, k21, b21⟩
  have C__law_same : Cal l.prog w K mg base 3 "_law_same" ["_law_found", "_law_due"] (spSame K 3) := ⟨f22, _, ok__law_same F22 (PySem.W.mg_of X G a22) b22 (PySem.W.mg_none_of X G z_len) (PySem.W.mg_none_of X G z_all) (PySem.W.mg_none_of X G z_bool) (PySem.W.mg_none_of X G z_int) (PySem.W.mg_none_of X G z_isinstance) (PySem.W.mg_none_of X G z_list) (PySem.W.mg_none_of X G z_range) (PySem.W.mg_none_of X G z_str) (PySem.W.mg_none_of X G z_tuple) 3, PySem.W.mg_of X G a22, k22, b22⟩
  have C__law_worth : Cal l.prog w K mg base 1 "_law_worth" ["_law_signs"] (spWorth K) := ⟨f23, _, ok__law_worth F23 , PySem.W.mg_of X G a23, k23, b23⟩
  have C__law_of : Cal l.prog w K mg base 2 "_law_of" ["_law_bag_here", "_law_some"] (spOf K) := ⟨f24, _, ok__law_of F24 (PySem.W.mg_none_of X G z_len) (C__law_pick.mono (by decide)), PySem.W.mg_of X G a24, k24, b24⟩
  have C__law_apart : Cal l.prog w K mg base 1 "_law_apart" ["_law_one", "_law_other"] (spApart) := ⟨f26, _, ok__law_apart F26 (PySem.W.mg_none_of X G z_abs) (PySem.W.mg_none_of X G z_min), PySem.W.mg_of X G a26, k26, b26⟩
  have C__law_step : Cal l.prog w K mg base 1 "_law_step" ["_law_pace"] (spLstep) := ⟨f27, _, ok__law_step F27 , PySem.W.mg_of X G a27, k27, b27⟩
  have C__law_point : Cal l.prog w K mg base 2 "_law_point" ["_law_figure", "_law_pace"] (spLpoint) := ⟨f28, _, ok__law_point F28 (C__law_step.mono (by decide)), PySem.W.mg_of X G a28, k28, b28⟩
  have C__law_coded : Cal l.prog w K mg base 2 "_law_coded" ["_law_signs", "_law_pace"] (spLcoded K) := ⟨f29, _, ok__law_coded F29 (PySem.W.mg_none_of X G z_len) (PySem.W.mg_none_of X G z_range) (C__law_worth.mono (by decide)), PySem.W.mg_of X G a29, k29, b29⟩
  have C__law_tones : Cal l.prog w K mg base 3 "_law_tones" ["_law_signs", "_law_pace"] (spTones K) := ⟨f30, _, ok__law_tones F30 (C__law_point.mono (by decide)) (C__law_coded.mono (by decide)), PySem.W.mg_of X G a30, k30, b30⟩
  have C__law_cost : Cal l.prog w K mg base 4 "_law_cost" ["_law_heard", "_law_signs", "_law_pace"] (spLcost K) := ⟨f31, _, ok__law_cost F31 (PySem.W.mg_none_of X G z_zip) (C__law_tones.mono (by decide)) (C__law_apart.mono (by decide)), PySem.W.mg_of X G a31, k31, b31⟩
  have C__law_no_pace : Cal l.prog w K mg base 3 "_law_no_pace" ["_law_bag_here"] (spNoPace) := ⟨f32, _, ok__law_no_pace F32 (C__law_of.mono (by decide)), PySem.W.mg_of X G a32, k32, b32⟩
  have C__law_far : Cal l.prog w K mg base 2 "_law_far" ["_law_bag_here"] (spFar) := ⟨f33, _, ok__law_far F33 (C__law_pickW.mono (by decide)), PySem.W.mg_of X G a33, k33, b33⟩
  exact ok_law l34 c34 TB (PySem.W.mg_of X G e1) l25 c25 k25 (PySem.W.mg_of X G a25) b25 ⟨gaBadCount, ggBadCount, exBadCount, hdBadCount⟩ p2BadCount ⟨gaBadRate, ggBadRate, exBadRate, hdBadRate⟩ p2BadRate (PySem.W.mg_of X G gMissing) mBLineBadCount mBLineBadRate (PySem.W.mg_none_of X G z_len) (PySem.W.mg_none_of X G z_list) (PySem.W.mg_none_of X G z_range) (PySem.W.mg_none_of X G z_isinstance) (PySem.W.mg_none_of X G z_tuple) (C_w_heard_path_1_rate.mono (by decide)) (C_w_heard_path_1_rate.mono (by decide)) (C_w_least_distance_0_rate.mono (by decide)) (C_w_nearest_0_rate.mono (by decide)) (C_d_heard_path.mono (by decide)) (C__law_bag.mono (by decide)) (C__law_pick.mono (by decide)) (C__law_far.mono (by decide)) (C__law_same.mono (by decide)) (C__law_cost.mono (by decide)) (C__law_no_pace.mono (by decide))
end WB
open PySem PySem.W PyProof.Rows
set_option maxRecDepth 100000 in
set_option maxHeartbeats 0 in
theorem PySem.Challenge.cw_warbleline_k24_hearing_refused_holds : PySem.Challenge.rw_warbleline_k24_hearing_refused.Holds := by
  w_on; o_law; k_head; (case hw => w_witness2)
  k_fill
  refine LamX.walk_ofOwn (l := PySem.Challenge.rw_warbleline_k24_hearing_refused) (n := 63) (k := 14) (x := "_law_script") (CX := fun _ => L2.CX0) rfl (by decide) rfl ⟨rfl, by decide, by decide⟩ (by decide +kernel) (fun w h Y => PySem.W.km_in_of Y) ?F (fun _ _ _ _ _ h => h)
  case F =>
    intro w mg fa h Y KX G hmg own
    refine' WB.all_mk KX G hmg own ?a0 ?l0 ?c0 ?k0 ?a1 ?l1 ?c1 ?k1 ?a2 ?l2 ?c2 ?k2 ?a3 ?l3 ?c3 ?k3 ?a4 ?l4 ?c4 ?k4 ?a5 ?l5 ?c5 ?k5 ?a6 ?l6 ?c6 ?k6 ?a7 ?l7 ?c7 ?k7 ?a8 ?l8 ?v8 ?c8 ?k8 ?a9 ?l9 ?c9 ?k9 ?a10 ?l10 ?c10 ?k10 ?a11 ?l11 ?v11 ?c11 ?k11 ?a12 ?l12 ?c12 ?k12 ?a13 ?l13 ?c13 ?k13 ?a14 ?l14 ?c14 ?k14 ?a15 ?l15 ?c15 ?k15 ?a16 ?l16 ?c16 ?k16 ?a17 ?l17 ?v17 ?c17 ?k17 ?a18 ?l18 ?v18 ?c18 ?k18 ?a19 ?l19 ?v19 ?c19 ?k19 ?a20 ?l20 ?c20 ?k20 ?a21 ?l21 ?c21 ?k21 ?a22 ?l22 ?c22 ?k22 ?a23 ?l23 ?c23 ?k23 ?a24 ?l24 ?c24 ?k24 ?a25 ?l25 ?c25 ?k25 ?a26 ?l26 ?c26 ?k26 ?a27 ?l27 ?c27 ?k27 ?a28 ?l28 ?c28 ?k28 ?a29 ?l29 ?c29 ?k29 ?a30 ?l30 ?c30 ?k30 ?a31 ?l31 ?c31 ?k31 ?a32 ?l32 ?c32 ?k32 ?a33 ?l33 ?c33 ?k33 ?a34 ?l34 ?c34 ?k34 ?t1 ?t2 ?t3 ?t4 ?e1 ?e2 ?e3 ?e4 ?e5 ?e6 ?e7 ?e8 ?e9 ?e10 ?z_ValueError ?gBadBit ?gaBadBit ?ggBadBit ?exBadBit ?hdBadBit ?noBadBit ?gBadCount ?gaBadCount ?ggBadCount ?exBadCount ?hdBadCount ?gBadRate ?gaBadRate ?ggBadRate ?exBadRate ?hdBadRate ?gMissing ?mBLineBadCount ?mBLineBadRate ?o1BadBit ?o2BadBit ?o3BadBit ?o4BadBit ?o5BadBit ?o6BadBit ?o7BadBit ?o8BadBit ?o9BadBit ?p1BadBit ?p2BadBit ?o1BadCount ?o2BadCount ?o3BadCount ?o4BadCount ?o5BadCount ?o6BadCount ?o7BadCount ?o8BadCount ?o9BadCount ?p1BadCount ?p2BadCount ?o1BadRate ?o2BadRate ?o3BadRate ?o4BadRate ?o5BadRate ?o6BadRate ?o7BadRate ?o8BadRate ?o9BadRate ?p1BadRate ?p2BadRate ?z_enumerate ?z_len ?z_range ?z_abs ?z_list ?z_min ?z_reversed ?z_sum ?z_zip ?z_all ?z_bool ?z_int ?z_isinstance ?z_str ?z_tuple ?q_MOST_BITS ?q_TAIL ?q_STATES ?q_RING ?q_RATES ?w_RATES ?q_FEWEST_POINTS
    (case a0 => k_is)
    (case l0 => k_is)
    (case c0 => k_is)
    (case k0 => k_is)
    (case a1 => k_is)
    (case l1 => k_is)
    (case c1 => k_is)
    (case k1 => k_is)
    (case a2 => k_is)
    (case l2 => k_is)
    (case c2 => k_is)
    (case k2 => k_is)
    (case a3 => k_is)
    (case l3 => k_is)
    (case c3 => k_is)
    (case k3 => k_is)
    (case a4 => k_is)
    (case l4 => k_is)
    (case c4 => k_is)
    (case k4 => k_is)
    (case a5 => k_is)
    (case l5 => k_is)
    (case c5 => k_is)
    (case k5 => k_is)
    (case a6 => k_is)
    (case l6 => k_is)
    (case c6 => k_is)
    (case k6 => k_is)
    (case a7 => k_is)
    (case l7 => k_is)
    (case c7 => k_is)
    (case k7 => k_is)
    (case a8 => k_is)
    (case l8 => k_is)
    (case v8 => k_is)
    (case c8 => k_is)
    (case k8 => k_is)
    (case a9 => k_is)
    (case l9 => k_is)
    (case c9 => k_is)
    (case k9 => k_is)
    (case a10 => k_is)
    (case l10 => k_is)
    (case c10 => k_is)
    (case k10 => k_is)
    (case a11 => k_is)
    (case l11 => k_is)
    (case v11 => k_is)
    (case c11 => k_is)
    (case k11 => k_is)
    (case a12 => k_is)
    (case l12 => k_is)
    (case c12 => k_is)
    (case k12 => k_is)
    (case a13 => k_is)
    (case l13 => k_is)
    (case c13 => k_is)
    (case k13 => k_is)
    (case a14 => k_is)
    (case l14 => k_is)
    (case c14 => k_is)
    (case k14 => k_is)
    (case a15 => k_is)
    (case l15 => k_is)
    (case c15 => k_is)
    (case k15 => k_is)
    (case a16 => k_is)
    (case l16 => k_is)
    (case c16 => k_is)
    (case k16 => k_is)
    (case a17 => k_is)
    (case l17 => k_is)
    (case v17 => k_is)
    (case c17 => k_is)
    (case k17 => k_is)
    (case a18 => k_is)
    (case l18 => k_is)
    (case v18 => k_is)
    (case c18 => k_is)
    (case k18 => k_is)
    (case a19 => k_is)
    (case l19 => k_is)
    (case v19 => k_is)
    (case c19 => k_is)
    (case k19 => k_is)
    (case a20 => k_is)
    (case l20 => k_is)
    (case c20 => k_is)
    (case k20 => k_is)
    (case a21 => k_is)
    (case l21 => k_is)
    (case c21 => k_is)
    (case k21 => k_is)
    (case a22 => k_is)
    (case l22 => k_is)
    (case c22 => k_is)
    (case k22 => k_is)
    (case a23 => k_is)
    (case l23 => k_is)
    (case c23 => k_is)
    (case k23 => k_is)
    (case a24 => k_is)
    (case l24 => k_is)
    (case c24 => k_is)
    (case k24 => k_is)
    (case a25 => k_is)
    (case l25 => k_is)
    (case c25 => k_is)
    (case k25 => k_is)
    (case a26 => k_is)
    (case l26 => k_is)
    (case c26 => k_is)
    (case k26 => k_is)
    (case a27 => k_is)
    (case l27 => k_is)
    (case c27 => k_is)
    (case k27 => k_is)
    (case a28 => k_is)
    (case l28 => k_is)
    (case c28 => k_is)
    (case k28 => k_is)
    (case a29 => k_is)
    (case l29 => k_is)
    (case c29 => k_is)
    (case k29 => k_is)
    (case a30 => k_is)
    (case l30 => k_is)
    (case c30 => k_is)
    (case k30 => k_is)
    (case a31 => k_is)
    (case l31 => k_is)
    (case c31 => k_is)
    (case k31 => k_is)
    (case a32 => k_is)
    (case l32 => k_is)
    (case c32 => k_is)
    (case k32 => k_is)
    (case a33 => k_is)
    (case l33 => k_is)
    (case c33 => k_is)
    (case k33 => k_is)
    (case a34 => k_is)
    (case l34 => k_is)
    (case c34 => k_is)
    (case k34 => k_is)
    (case t1 => k_is)
    (case t2 => first | rfl | k_is)
    (case t3 => kernel_rfl)
    (case t4 => kernel_rfl)
    (case e1 => k_is)
    (case e2 => k_is)
    (case e3 => k_is)
    (case e4 => k_is)
    (case e5 => k_is)
    (case e6 => k_is)
    (case e7 => k_is)
    (case e8 => k_is)
    (case e9 => k_is)
    (case e10 => k_is)
    (case z_ValueError => k_is)
    (case gBadBit => k_is)
    (case gaBadBit => k_is)
    (case ggBadBit => k_is)
    (case exBadBit => k_is)
    (case hdBadBit => k_is)
    (case noBadBit => k_is)
    (case gBadCount => k_is)
    (case gaBadCount => k_is)
    (case ggBadCount => k_is)
    (case exBadCount => k_is)
    (case hdBadCount => k_is)
    (case gBadRate => k_is)
    (case gaBadRate => k_is)
    (case ggBadRate => k_is)
    (case exBadRate => k_is)
    (case hdBadRate => k_is)
    (case gMissing => k_is)
    (case mBLineBadCount => kernel_rfl)
    (case mBLineBadRate => kernel_rfl)
    (case o1BadBit => k_is)
    (case o2BadBit => decide +kernel)
    (case o3BadBit => k_is)
    (case o4BadBit => k_is)
    (case o5BadBit => k_is)
    (case o6BadBit => k_is)
    (case o7BadBit => k_is)
    (case o8BadBit => k_is)
    (case o9BadBit => k_is)
    (case p1BadBit => k_is)
    (case p2BadBit => k_is)
    (case o1BadCount => k_is)
    (case o2BadCount => decide +kernel)
    (case o3BadCount => k_is)
    (case o4BadCount => k_is)
    (case o5BadCount => k_is)
    (case o6BadCount => k_is)
    (case o7BadCount => k_is)
    (case o8BadCount => k_is)
    (case o9BadCount => k_is)
    (case p1BadCount => k_is)
    (case p2BadCount => k_is)
    (case o1BadRate => k_is)
    (case o2BadRate => decide +kernel)
    (case o3BadRate => k_is)
    (case o4BadRate => k_is)
    (case o5BadRate => k_is)
    (case o6BadRate => k_is)
    (case o7BadRate => k_is)
    (case o8BadRate => k_is)
    (case o9BadRate => k_is)
    (case p1BadRate => k_is)
    (case p2BadRate => k_is)
    (case z_enumerate => k_is)
    (case z_len => k_is)
    (case z_range => k_is)
    (case z_abs => k_is)
    (case z_list => k_is)
    (case z_min => k_is)
    (case z_reversed => k_is)
    (case z_sum => k_is)
    (case z_zip => k_is)
    (case z_all => k_is)
    (case z_bool => k_is)
    (case z_int => k_is)
    (case z_isinstance => k_is)
    (case z_str => k_is)
    (case z_tuple => k_is)
    (case q_MOST_BITS => k_is)
    (case q_TAIL => k_is)
    (case q_STATES => k_is)
    (case q_RING => k_is)
    (case q_RATES => k_is)
    (case w_RATES => k_is)
    (case q_FEWEST_POINTS => k_is)
