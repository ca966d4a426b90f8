import PyProof.Rows.All
import Wide.All
import OpenK.AllK
import Wide.FinOn
import HandS.Base
import HandS.Call
import HandS.List
import HandS.Comp
import HandS.Ends
import HandS.Iter
import HandS.Text
import HandS.Words
import HandS.WordsList
import HandS.IsInst
import HandS.More
import HandS.Wide
import HandS.Style
import HandS.EndBits
import HandS.Exc
import HandS.ExcOwn
import HandS.ExcInit
import HandS.ExcField
import HandS.TryOnly
import HandS.WordsExc
import HandS.FStr
import HandS.Defaults
import HandS.Lambda
import HandS.EndTab
import HandS.Dict
import HandS.Conv
import HandS.Zip
import HandS.MakeKwOnly
import HandS.Deep
import KE.DatumOrd
import HandS.Rev
import PyProof.Rows.RowBridgeK
import HandS.SetFor
import HandS.Walk
import HandS.TupAny
import KE.GoesZip
import KE.GoesMore
import KE.GoesEnum
import HandS.EndOwn
import PySem.Challenge.RW_warbleline_k48_keys_guarded
set_option Elab.async false
set_option linter.all false
set_option maxRecDepth 100000
set_option maxHeartbeats 2000000
namespace WB
open PySem PySem.Spec PyProof.Rows L2
/-! ### a def that may be called by its name, letting nothing out -/
def Cal (P : Program) (w : World) (K : PySem.W.Frag) (mg : Str → Option Value) (base : Heap) (k : Nat) (nm : Str) (ps : List Str) (sp : Sp) : Prop :=
  ∃ (f : Addr) (fd : FuncData), FnOk P w K mg base CX0 k f fd ps sp ∧ mg nm = some (.ref f) ∧ PySem.W.keepIn K (.ref f) = true ∧ Binds K fd ps []
theorem Cal.mono {P : Program} {w : World} {K : PySem.W.Frag} {mg : Str → Option Value} {base : Heap} {j k : Nat} {nm : Str} {ps : List Str} {sp : Sp} (c : Cal P w K mg base j nm ps sp) (h : j ≤ k) : Cal P w K mg base k nm ps sp := by
  obtain ⟨f, fd, a, b, d, e⟩ := c
  exact ⟨f, fd, a.mono h, b, d, e⟩
section
variable {X : Cx} {k : Nat} {nm : Str} {ps : List Str} {sp : Sp} {e : Expr} {es : List Expr} {t : TA} {p pos : Pos}
theorem pe_callC (c : Cal X.prog X.w X.K X.mg X.base k nm ps sp) (hr : Room k X.A) (hg : Gl X nm) (ha : PA X (e :: es) t) (hdb : (nm == ("__debug__" : Str)) = false := by decide)
    (he : starEach (e :: es) X.env = (false, eval e X.env) :: starEach es X.env := by rfl) (hpl : (backTo pos (starEach es X.env)).any (·.1) = false := by rfl) :
    PE X (.Call (.Name nm p) (e :: es) [] pos) (tCall sp [] E0 t) := by
  obtain ⟨f, fd, a, b, d, g⟩ := c
  exact pe_call a hr hg b d g .nil pass0 ha hdb he hpl
theorem pe_callC0 (c : Cal X.prog X.w X.K X.mg X.base k nm ps sp) (hr : Room k X.A) (hg : Gl X nm) (hdb : (nm == ("__debug__" : Str)) = false := by decide) :
    PE X (.Call (.Name nm p) [] [] pos) (tCall sp [] E0 tNil) := by
  obtain ⟨f, fd, a, b, d, g⟩ := c
  exact pe_call0 a hr hg b d g .nil pass0 hdb
end
/-! ### rules with the written part by its name (a comprehension's block has the same one) -/
section
variable {X : Cx} (K : PySem.W.Frag)
theorem ix_listK (h : X.K = K) : IxR X (rIxL K) := by subst h; exact ix_list
theorem ix_tupK (h : X.K = K) : IxR X (rIxT K) := by subst h; exact ix_tup
theorem ix_seqK (h : X.K = K) : IxR X (rIx K) := by subst h; exact ix_seq
def rLenK (K : PySem.W.Frag) : List V → Hp → VK → Prop := fun xs H Q => ∃ p ys, xs = [.ref p] ∧ (SqL K H p ys ∨ SqT K H p ys) ∧ Q (.int ys.length) H
theorem call_lenK (h : X.K = K) : CallR X (.builtin "len") (rLenK K) := by subst h; exact call_len_seq
def rListK (K : PySem.W.Frag) : List V → Hp → VK → Prop := fun xs H Q => ∃ p ys, xs = [.ref p] ∧ (SqL K H p ys ∨ SqT K H p ys) ∧ ∀ l, H l = none → Q (.ref l) (upd H l (.lst ys))
theorem call_listK (h : X.K = K) : CallR X (.type "list") (rListK K) := by subst h; exact call_list_of
theorem call_isiK1 (h : X.K = K) : CallR X (.builtin "isinstance") (rIsi K) := by subst h; exact call_isi
theorem call_isiTK (h : X.K = K) : CallR X (.builtin "isinstance") (rIsiT K) := by subst h; exact call_isiT
theorem op_inK (h : X.K = K) : OpR X (compareOp .In) (rIn K false) := by subst h; exact op_in_seq
theorem op_notInK (h : X.K = K) : OpR X (compareOp .NotIn) (rIn K true) := by subst h; exact op_notIn_seq
theorem op_eqDK (h : X.K = K) (hu : X.A.units + 64 < cLine) : OpR X (compareOp .Eq) (rEqD K) := by subst h; exact op_eqD hu
theorem op_neDK (h : X.K = K) (hu : X.A.units + 64 < cLine) : OpR X (compareOp .NotEq) (rNeD K) := by subst h; exact op_neD hu
theorem sl_listK (h : X.K = K) : SlR X (rSlL K) := by subst h; exact sl_list
theorem cr_allK (h : X.K = K) (hc : X.calm = true) : CallR X (.builtin "all") (rAll K) := by subst h; exact cr_all hc
variable {o e : Expr} {es : List Expr} {to : TE} {t : TA} {name : Str} {apos cpos : Pos} {T id : String} {r : V → List V → Hp → VK → Prop}
theorem pe_bm0K (h : X.K = K) (pa : PlainAttrs T) (slot : Slot T name id) (hty : typeOf (.builtin id) = pure (.type "method_descriptor")) (hm : MtR X id r) (ho : PE X o to)
    (hbase : attributeBase o name X.env (eval o X.env) = eval o X.env := by rfl) (hline : (apos.endLine == cpos.line) = true := by rfl) : PE X (.Call (.Attribute o name apos) [] [] cpos) (tBM0 K T r to) := by
  subst h; exact pe_bm0 pa slot hty hm ho hbase hline
theorem pe_bmK (h : X.K = K) (pa : PlainAttrs T) (slot : Slot T name id) (hty : typeOf (.builtin id) = pure (.type "method_descriptor")) (hm : MtR X id r) (ho : PE X o to) (ha : PA X (e :: es) t)
    (hbase : attributeBase o name X.env (eval o X.env) = eval o X.env := by rfl)
    (hfew : ((backTo cpos (starEach (e :: es) X.env)).all (fun x => !x.1) && (backToKw cpos (keywordEach [] X.env)).all (fun x => x.1.isSome)
      && decide ((e :: es).length + ([] : List Keyword).length + (if ([] : List Keyword).isEmpty then 0 else 1) < 30)) = true := by rfl)
    (hline : (apos.endLine == cpos.line) = true := by rfl) (hs : starEach (e :: es) X.env = (false, eval e X.env) :: starEach es X.env := by rfl) (hplain : (backTo cpos (starEach es X.env)).any (·.1) = false := by rfl) :
    PE X (.Call (.Attribute o name apos) (e :: es) [] cpos) (tBM K T r to t) := by
  subst h; exact pe_bm pa slot hty hm ho ha hbase hfew hline hs hplain
variable {tg l : Expr} {tl : TE}
theorem pi_listK (h : X.K = K) (hl : PE X l tl) : PI X tg l (iList K tl) := by subst h; exact pi_list hl
theorem pi_tupK (h : X.K = K) (hl : PE X l tl) : PI X tg l (iTup K tl) := by subst h; exact pi_tup hl
end
/-- behind a statement: what its ways have in common -/
theorem seq_by {t u : TS} {D : Ends} {σ : L2.St} {H : Hp} (J : L2.St → Hp → Prop) (h2 : ∀ σ1 H1, J σ1 H1 → u D σ1 H1) (h1 : (∀ σ1 H1, J σ1 H1 → u D σ1 H1) → t { D with nx := u D } σ H) : tSeq t u D σ H := h1 h2
theorem if_by {c : TT} {t1 t2 u : TS} {D : Ends} {σ : L2.St} {H : Hp} (J : L2.St → Hp → Prop) (h2 : ∀ σ1 H1, J σ1 H1 → u D σ1 H1) (h1 : (∀ σ1 H1, J σ1 H1 → u D σ1 H1) → tIfS c t1 t2 { D with nx := u D } σ H) : tSeq (tIfS c t1 t2) u D σ H := h1 h2
theorem asg_by {te : TE} {i : Nat} {u : TS} {D : Ends} {σ : L2.St} {H : Hp} (J : V → Hp → Prop) (h2 : ∀ v H1, J v H1 → u D (σ.set i (some v)) H1) (h1 : (∀ v H1, J v H1 → u D (σ.set i (some v)) H1) → te σ H (fun x H1 => gName i x σ H1 (u D))) : tSeq (tAsg te (gName i)) u D σ H := h1 h2
theorem name_by {i : Nat} {v : V} {σ : L2.St} {H : Hp} {Q : L2.St → Hp → Prop} (h : Q (σ.set i (some v)) H) : gName i v σ H Q := h
/-! ### heaps -/
theorem same_upd {H : Hp} {p : Addr} {o : HO} (h : H p = none) : Same H (upd H p o) := fun b x e => by
  rw [upd_ne (ne_of_none e h)]
  exact e
/-- an object that was not there ahead may change -/
theorem same_mut {H H' : Hp} {p : Addr} {o : HO} (e : Same H H') (h : H p = none) : Same H (upd H' p o) := fun b x q => by
  rw [upd_ne (ne_of_none q h)]
  exact e b x q
/-- all but what stands at b stays -/
def Mv (b : Addr) (H H' : Hp) : Prop := ∀ a o, a ≠ b → H a = some o → H' a = some o
theorem Mv.refl (b : Addr) (H : Hp) : Mv b H H := fun _ _ _ h => h
theorem Mv.trans {b : Addr} {H H1 H2 : Hp} (x : Mv b H H1) (y : Mv b H1 H2) : Mv b H H2 := fun a o n h => y a o n (x a o n h)
theorem Mv.of {b : Addr} {H H' : Hp} (s : Same H H') : Mv b H H' := fun a o _ h => s a o h
theorem Mv.upd {b : Addr} {H H' : Hp} {o : HO} (x : Mv b H H') : Mv b H (upd H' b o) := fun a u n h => by
  rw [upd_ne n]
  exact x a u n h
theorem Mv.none {b p : Addr} {H H' : Hp} (x : Mv b H H') (n : p ≠ b) (h : H' p = none) : H p = none := by
  cases q : H p with
  | none => rfl
  | some o =>
    rw [x p o n q] at h
    cases h
/-! ### the bag: b.1 the bag, b.2 its numbers -/
def bagL (s : Addr) (i r x c : Int) : List V := [.ref s, .int i, .int r, .int x, .int c]
def Bag (b : Addr × Addr) (H : Hp) : Prop := ∃ (ns : List Int) (i r x c : Int), H b.1 = some (.lst (bagL b.2 i r x c)) ∧ H b.2 = some (.lst (ns.map V.int)) ∧ b.2 ≠ b.1 ∧ 0 ≤ i ∧ 0 ≤ x ∧ x < 2147483648
theorem Bag.same {b : Addr × Addr} {H H' : Hp} (g : Bag b H) (s : Same H H') : Bag b H' := by
  obtain ⟨ns, i, r, x, c, h1, h2, h3, h4, h5, h6⟩ := g
  exact ⟨ns, i, r, x, c, s _ _ h1, s _ _ h2, h3, h4, h5, h6⟩
theorem Bag.ne {b : Addr × Addr} {p : Addr} {H : Hp} (g : Bag b H) (h : H p = none) : p ≠ b.1 := by
  obtain ⟨ns, i, r, x, c, h1, _⟩ := g
  exact fun z => by rw [z, h1] at h; cases h
theorem Bag.ne2 {b : Addr × Addr} {p : Addr} {H : Hp} (g : Bag b H) (h : H p = none) : p ≠ b.2 := by
  obtain ⟨ns, i, r, x, c, _, h1, _⟩ := g
  exact fun z => by rw [z, h1] at h; cases h
theorem Bag.upd {b : Addr × Addr} {p : Addr} {o : HO} {H : Hp} (g : Bag b H) (h1 : p ≠ b.1) (h2 : p ≠ b.2) : Bag b (L2.upd H p o) := by
  obtain ⟨ns, i, r, x, c, e1, e2, h3⟩ := g
  exact ⟨ns, i, r, x, c, by rw [upd_ne h1.symm]; exact e1, by rw [upd_ne h2.symm]; exact e2, h3⟩
/-- a draw: its bag, its bound -/
def spPick : Sp := fun vs H Q _ => ∃ (b : Addr × Addr) (top : Int), vs = [.ref b.1, .int top] ∧ Bag b H ∧ 0 < top ∧ top < 1073741824 ∧ ∀ (H' : Hp) (d : Int), Mv b.1 H H' → Bag b H' → 0 ≤ d → d < top → Q (.int d) H'
/-- the bag of a script -/
def spBag (K : PySem.W.Frag) : Sp := fun vs H Q _ => ∃ (a : Addr) (ns : List Int), vs = [.ref a] ∧ SqL K H a (ns.map V.int) ∧ ∀ (H' : Hp) (b : Addr × Addr), Same H H' → H b.1 = none → Bag b H' → Q (.ref b.1) H'
/-- one of the list's things -/
def spOf (K : PySem.W.Frag) : Sp := fun vs H Q _ => ∃ (b : Addr × Addr) (l : Addr) (xs : List V), vs = [.ref b.1, .ref l] ∧ Bag b H ∧ l ≠ b.1 ∧ H l = some (.lst xs) ∧ 0 < xs.length ∧ xs.length < 1000 ∧ ∀ (H' : Hp) (v : V), Mv b.1 H H' → Bag b H' → v ∈ xs → Q v H'
section
variable {K : PySem.W.Frag}
def tyN : PyData → String
  | .none => "NoneType"
  | .bool _ => "bool"
  | .int _ => "int"
  | .str _ => "str"
  | .list _ => "list"
  | .tuple _ => "tuple"
  | .dict _ => "dict"
theorem ty_dp {H : Hp} {x : V} {d : PyData} (h : Dp K H x d) : TyX K H x (.type (tyN d)) := by
  cases h with
  | non => exact .base .non
  | bl b => exact .base (.bl b)
  | int i => exact .base (.int i)
  | str x => exact .base (.str x)
  | lst hs _ =>
    rcases hs with (h | ⟨o, h⟩) | ⟨o, its, n, h1, h2, _⟩
    · exact .base (.lst h)
    · exact .base (.frz h)
    · exact .kList h1 h2
  | tup hs _ =>
    rcases hs with (h | ⟨o, h⟩) | ⟨o, its, n, h1, h2, _⟩
    · exact .base (.tup h)
    · exact .fTuple h
    · exact .kTuple h1 h2
theorem same_t {H H' : Hp} {a : Addr} {xs : List V} (e : Same H H') (h : SqT K H a xs) : SqT K H' a xs := by
  rcases h with (h | ⟨o, h⟩) | h
  · exact .inl (.inl (e _ _ h))
  · exact .inl (.inr ⟨o, e _ _ h⟩)
  · exact .inr h
mutual
theorem dp_same {H H' : Hp} (e : Same H H') : ∀ {d : PyData} {x : V}, Dp K H x d → Dp K H' x d
  | _, _, .non => .non
  | _, _, .bl b => .bl b
  | _, _, .int i => .int i
  | _, _, .str s => .str s
  | _, _, .lst hs ha => .lst (e.seq hs) (dpa_same e ha)
  | _, _, .tup hs ha => .tup (same_t e hs) (dpa_same e ha)
theorem dpa_same {H H' : Hp} (e : Same H H') : ∀ {ds : List PyData} {xs : List V}, DpAll K H xs ds → DpAll K H' xs ds
  | _, _, .nil => .nil
  | _, _, .cons h t => .cons (dp_same e h) (dpa_same e t)
end
theorem dpa_len {H : Hp} : ∀ {xs : List V} {ds : List PyData}, DpAll K H xs ds → xs.length = ds.length
  | _, _, .nil => rfl
  | _, _, .cons _ t => congrArg (· + 1) (dpa_len t)
theorem dpa_get {H : Hp} : ∀ {xs : List V} {ds : List PyData} {i : Nat} {d : PyData}, DpAll K H xs ds → ds[i]? = some d → ∃ x, xs[i]? = some x ∧ Dp K H x d
  | _, _, _, _, .nil, e => by simp at e
  | _, _, 0, _, .cons h _, e => by simp at e; subst e; exact ⟨_, rfl, h⟩
  | _, _, i + 1, d, .cons _ t, e => by
    obtain ⟨x, h1, h2⟩ := dpa_get (i := i) (d := d) t (by simpa using e)
    exact ⟨x, by simpa using h1, h2⟩
/-- data of at most so many levels -/
def Dn : Nat → PyData → Prop
  | 0, _ => False
  | n + 1, d => (∃ b, d = .bool b) ∨ (∃ i, d = .int i) ∨ (∃ s, d = .str s) ∨ d = .none ∨ ∃ ds, (d = .list ds ∨ d = .tuple ds) ∧ ds.length ≤ 100000 ∧ ∀ e ∈ ds, Dn n e
def spSame (K : PySem.W.Frag) (n : Nat) : Sp := fun vs H Q _ => ∃ (x y : V) (d : PyData), vs = [x, y] ∧ Dp K H x d ∧ Dp K H y d ∧ Dn n d ∧ SeqAt.shaped d = true ∧ ∀ H', Same H H' → Q (.bl true) H'
theorem tYes_by {σ : L2.St} {H : Hp} {Q : Bool → Hp → Prop} (h : Q true H) : tYes σ H Q := h
theorem canLay_mem : ∀ {ds : List PyData} {e : PyData}, e ∈ ds → PyData.canLayAll0 ds = true → PyData.canLay0 e = true
  | d :: ds, e, hm, h => by
    have h : (PyData.canLay0 d && PyData.canLayAll0 ds) = true := h
    rw [Bool.and_eq_true] at h
    rcases List.mem_cons.mp hm with rfl | hm
    · exact h.1
    · exact canLay_mem hm h.2
theorem depth_mem : ∀ {ds : List PyData} {e : PyData}, e ∈ ds → PyData.depth e ≤ PyData.depthAll ds
  | d :: ds, e, hm => by
    show _ ≤ max (PyData.depth d) (PyData.depthAll ds)
    rcases List.mem_cons.mp hm with rfl | hm
    · exact Nat.le_max_left _ _
    · exact Nat.le_trans (depth_mem hm) (Nat.le_max_right _ _)
theorem shaped_mem {ds : List PyData} {e : PyData} (hm : e ∈ ds) (h : SeqAt.shaped (.list ds) = true ∨ SeqAt.shaped (.tuple ds) = true) : SeqAt.shaped e = true := by
  have k : PyData.canLayAll0 ds = true ∧ PyData.depthAll ds + 1 ≤ 64 := by
    rcases h with h | h
    · exact ⟨SeqAt.canLay_of_shaped h, SeqAt.depth_of_shaped h⟩
    · exact ⟨SeqAt.canLay_of_shaped h, SeqAt.depth_of_shaped h⟩
  unfold SeqAt.shaped
  rw [Bool.and_eq_true]
  exact ⟨canLay_mem hm k.1, decide_eq_true (by have := depth_mem hm; omega)⟩
theorem ifT {A B : Prop} {b : Bool} (e : b = true) (h : A) : if b = true then A else B := by rw [if_pos e]; exact h
theorem ifF {A B : Prop} {b : Bool} (e : b = false) (h : B) : if b = true then A else B := by rw [e]; exact iteF h
end
end WB
namespace WB
open PySem PySem.Spec PyProof.Rows L2
section
variable {K : PySem.W.Frag}
theorem for_enumK {a : Addr} {xs : List V} {g : TG} {tb : TS} {D : Ends} {σ : L2.St} {H : Hp} (Pv : Nat → L2.St → Hp → Prop) (h0 : Pv 0 σ H) (hl : ∀ i σ H, i ≤ xs.length → Pv i σ H → SqL K H a xs)
    (hs : ∀ i x T σ H, xs[i]? = some x → Pv i σ H → H T = none → g (.ref T) σ (upd H T (.tup [.int (i : Nat), x])) fun σ2 H2 => tb { D with nx := Pv (i + 1), ct := Pv (i + 1), bk := D.nx } σ2 H2) (hd : ∀ σ H, Pv xs.length σ H → D.nx σ H) :
    ∃ W : Nat → Nat → L2.St → Hp → Prop, (∃ m, W 0 m σ H) ∧ ∀ i m σ H, W i m σ H →
      ((Ite K a).stop i H ∧ D.nx σ H) ∨ ((Ite K a).go i H ∧ ∃ N : L2.St → Hp → Prop, (∀ σ' H', N σ' H' → ∃ m', m' < m ∧ W (i + 1) m' σ' H') ∧ ∀ x H', (Ite K a).yld i H x H' → g x σ H' fun σ2 H2 => tb { D with nx := N, ct := N, bk := D.nx } σ2 H2) := by
  refine ⟨fun i m σ H => m = xs.length - i ∧ i ≤ xs.length ∧ Pv i σ H, ⟨xs.length, by simp, Nat.zero_le _, h0⟩, ?_⟩
  rintro i m σ H ⟨rfl, hi, p⟩
  have q := hl i σ H hi p
  by_cases hlt : i < xs.length
  · refine .inr ⟨⟨xs, xs[i], q, by simp [hlt]⟩, Pv (i + 1), fun σ' H' p' => ⟨xs.length - (i + 1), by omega, rfl, hlt, p'⟩, fun x H' y => ?_⟩
    obtain ⟨T, z, rfl, nT, rfl, y⟩ := y
    exact hs i z T σ H (y xs q) p nT
  · have e : i = xs.length := by omega
    subst e
    exact .inl ⟨⟨xs, q, Nat.le_refl _⟩, hd σ H p⟩
end
/-! ### bits, numbers in bits, seals: the mathematics -/
def Bits (ns : List Int) : Prop := ∀ z ∈ ns, z = 0 ∨ z = 1
/-- a number in so many bits, the one of greatest worth first -/
def wr : Nat → Int → List Int
  | 0, _ => []
  | i + 1, n => ((n / 2 ^ i) % 2) :: wr i n
theorem wr_len : ∀ (i : Nat) (n : Int), (wr i n).length = i
  | 0, _ => rfl
  | i + 1, n => congrArg (· + 1) (wr_len i n)
theorem wr_bits : ∀ (i : Nat) (n : Int), Bits (wr i n)
  | 0, _ => fun z h => nomatch h
  | i + 1, n => fun z h => by
    rcases List.mem_cons.mp h with rfl | h
    · omega
    · exact wr_bits i n z h
theorem half (n : Int) (i : Nat) : n / 2 ^ i / 2 = n / 2 ^ (i + 1) := by
  rw [Int.pow_succ, Int.ediv_ediv_of_nonneg (by exact Int.pow_nonneg (by decide))]
/-- the register: one more bit -/
def stepR (c : Nat) (b : Int) : Nat := if ((c / 32768 : Nat) : Int) = b then c * 2 % 65536 else (c * 2 % 65536) ^^^ 4129
theorem stepR_lt (c : Nat) (b : Int) : stepR c b < 65536 := by
  unfold stepR
  have h : c * 2 % 65536 < 65536 := Nat.mod_lt _ (by decide)
  split
  · exact h
  · exact Nat.xor_lt_two_pow (n := 16) h (by decide)
def regs (bs : List Int) : Nat := bs.foldl stepR 65535
theorem regs_lt (bs : List Int) : regs bs < 65536 := by
  have : ∀ (l : List Int) (c : Nat), c < 65536 → l.foldl stepR c < 65536 := by
    intro l
    induction l with
    | nil => exact fun c h => h
    | cons b r ih => exact fun c _ => ih _ (stepR_lt c b)
  exact this bs 65535 (by decide)
def sealL (bs : List Int) : List Int := wr 16 (regs bs : Nat)
theorem take_more {α : Type} {l : List α} {i : Nat} {x : α} (h : l[i]? = some x) : l.take (i + 1) = l.take i ++ [x] := by
  rw [List.take_add_one, h]
  rfl
theorem regs_more {bs : List Int} {i : Nat} {b : Int} (h : bs[i]? = some b) : regs (bs.take (i + 1)) = stepR (regs (bs.take i)) b := by
  unfold regs
  rw [take_more h, List.foldl_append]
  rfl
theorem wr_at (c : Nat) (i : Nat) : ((c : Int) / 2 ^ i) % 2 = if c.testBit i then 1 else 0 := by
  have e : ((c : Int) / 2 ^ i) % 2 = ((c / 2 ^ i % 2 : Nat) : Int) := by
    rw [Int.natCast_emod, Int.natCast_ediv, Int.natCast_pow]
    rfl
  rw [e, Nat.testBit_eq_decide_div_mod_eq]
  have h : c / 2 ^ i % 2 < 2 := Nat.mod_lt _ (by decide)
  by_cases h1 : c / 2 ^ i % 2 = 1
  · rw [h1]; rfl
  · have h0 : c / 2 ^ i % 2 = 0 := by omega
    rw [h0]; rfl
def holdsB (ns : List Int) : Bool := decide (16 ≤ ns.length) && decide (sealL (ns.take (ns.length - 16)) = ns.drop (ns.length - 16))
theorem wr_shift (c : Nat) : wr 16 ((c * 2 % 65536 : Nat) : Int) = (wr 16 (c : Int)).drop 1 ++ [0] := by
  have e : ((c * 2 % 65536 : Nat) : Int) = (c : Int) * 2 % 65536 := by rw [Int.natCast_emod, Int.natCast_mul]; rfl
  rw [e]
  generalize (c : Int) = z
  simp only [wr, List.drop, List.cons_append, List.nil_append, List.cons.injEq, and_true]
  refine ⟨?_, ?_, ?_, ?_, ?_, ?_, ?_, ?_, ?_, ?_, ?_, ?_, ?_, ?_, ?_, ?_⟩ <;> omega
def fl (M : List Int) (k : Nat) : List Int := M.set k (1 - M.getD k 0)
theorem wr_flip (a : Nat) : wr 16 ((a ^^^ 4129 : Nat) : Int) = fl (fl (fl (wr 16 (a : Int)) 3) 10) 15 := by
  simp only [wr, wr_at, Nat.testBit_xor, fl]
  simp only [List.set, List.getD, List.getElem?_cons_succ, List.getElem?_cons_zero, Option.getD]
  have h : ∀ i : Nat, (if ((a.testBit i) ^^ true) = true then (1 : Int) else 0) = 1 - (if a.testBit i = true then 1 else 0) := by
    intro i
    cases a.testBit i <;> rfl
  have t0 : (4129 : Nat).testBit 0 = true := by decide
  have t5 : (4129 : Nat).testBit 5 = true := by decide
  have t12 : (4129 : Nat).testBit 12 = true := by decide
  have n1 : (4129 : Nat).testBit 1 = false := by decide
  have n2 : (4129 : Nat).testBit 2 = false := by decide
  have n3 : (4129 : Nat).testBit 3 = false := by decide
  have n4 : (4129 : Nat).testBit 4 = false := by decide
  have n6 : (4129 : Nat).testBit 6 = false := by decide
  have n7 : (4129 : Nat).testBit 7 = false := by decide
  have n8 : (4129 : Nat).testBit 8 = false := by decide
  have n9 : (4129 : Nat).testBit 9 = false := by decide
  have n10 : (4129 : Nat).testBit 10 = false := by decide
  have n11 : (4129 : Nat).testBit 11 = false := by decide
  have n13 : (4129 : Nat).testBit 13 = false := by decide
  have n14 : (4129 : Nat).testBit 14 = false := by decide
  have n15 : (4129 : Nat).testBit 15 = false := by decide
  simp only [t0, t5, t12, n1, n2, n3, n4, n6, n7, n8, n9, n10, n11, n13, n14, n15, Bool.xor_false, h]
/-- data of ints -/
def dI (ns : List Int) : PyData := .list (ns.map PyData.int)
theorem dpa_ints {K : PySem.W.Frag} {H : Hp} : ∀ ns : List Int, DpAll K H (ns.map V.int) (ns.map PyData.int)
  | [] => .nil
  | n :: r => .cons (.int n) (dpa_ints r)
theorem dp_ints {K : PySem.W.Frag} {H : Hp} {a : Addr} {ns : List Int} (h : SqL K H a (ns.map V.int)) : Dp K H (.ref a) (dI ns) := .lst h (dpa_ints ns)
theorem depth_ints : ∀ ns : List Int, PyData.depthAll (ns.map PyData.int) = 0
  | [] => rfl
  | n :: r => by
    show max 0 (PyData.depthAll (r.map PyData.int)) = 0
    rw [depth_ints r]
    rfl
theorem canLay_ints : ∀ ns : List Int, PyData.canLayAll0 (ns.map PyData.int) = true
  | [] => rfl
  | n :: r => by
    show (true && PyData.canLayAll0 (r.map PyData.int)) = true
    rw [canLay_ints r]
    rfl
theorem shaped_ints (ns : List Int) : SeqAt.shaped (dI ns) = true := by
  unfold SeqAt.shaped
  rw [Bool.and_eq_true]
  refine ⟨canLay_ints ns, decide_eq_true ?_⟩
  show PyData.depthAll (ns.map PyData.int) + 1 ≤ 64
  rw [depth_ints]
  decide
theorem eqv_ints (ns ms : List Int) : PyData.eqv (dI ns) (dI ms) = decide (ns = ms) := by
  have : ∀ (ns ms : List Int), PyData.eqvAll (ns.map PyData.int) (ms.map PyData.int) = decide (ns = ms) := by
    intro ns
    induction ns with
    | nil =>
      intro ms
      cases ms with
      | nil => rfl
      | cons m r => rfl
    | cons n r ih =>
      intro ms
      cases ms with
      | nil => rfl
      | cons m t =>
        show (PyData.eqv (.int n) (.int m) && PyData.eqvAll (r.map PyData.int) (t.map PyData.int)) = _
        rw [ih t]
        show ((n == m) && decide (r = t)) = _
        rw [show (n == m) = decide (n = m) from by rw [Bool.beq_eq_decide_eq], ← Bool.decide_and]
        exact decide_eq_decide.mpr ⟨fun h => by rw [h.1, h.2], fun h => List.cons.inj h⟩
  exact this ns ms
/-! ### what a law knows of the heap: the bag at b, and these -/
structure SH (b : Addr × Addr) (H : Hp) (L : List (Addr × HO)) : Prop where
  bag : Bag b H
  nb : ∀ p ∈ L, p.1 ≠ b.1 ∧ p.1 ≠ b.2
  kn : ∀ p ∈ L, H p.1 = some p.2
section
variable {b : Addr × Addr} {p : Addr} {H H' : Hp} {L L' : List (Addr × HO)} {o o' : HO}
theorem SH.same (h : SH b H L) (s : Same H H') : SH b H' L := ⟨h.bag.same s, h.nb, fun q hq => s _ _ (h.kn q hq)⟩
theorem SH.mv (h : SH b H L) (m : Mv b.1 H H') (g : Bag b H') : SH b H' L := ⟨g, h.nb, fun q hq => m _ _ (h.nb q hq).1 (h.kn q hq)⟩
theorem SH.add (h : SH b H L) (n : p ≠ b.1) (n2 : p ≠ b.2) (e : H p = some o) : SH b H ((p, o) :: L) :=
  ⟨h.bag, fun q hq => (List.mem_cons.mp hq).elim (fun z => by rw [z]; exact ⟨n, n2⟩) (h.nb q), fun q hq => (List.mem_cons.mp hq).elim (fun z => by rw [z]; exact e) (h.kn q)⟩
theorem SH.new (h : SH b H L) (n : H p = none) : SH b (upd H p o) ((p, o) :: L) := (h.same (same_upd n)).add (h.bag.ne n) (h.bag.ne2 n) upd_same
theorem SH.newS (h : SH b H L) (s : Same H H') (n : H p = none) (e : H' p = some o) : SH b H' ((p, o) :: L) := (h.same s).add (h.bag.ne n) (h.bag.ne2 n) e
theorem SH.newM (h : SH b H L) (m : Mv b.1 H H') (g : Bag b H') (n : H p = none) (e : H' p = some o) : SH b H' ((p, o) :: L) := (h.mv m g).add (h.bag.ne n) (h.bag.ne2 n) e
theorem SH.sub (h : SH b H L) (hs : ∀ q ∈ L', q ∈ L) : SH b H L' := ⟨h.bag, fun q hq => h.nb q (hs q hq), fun q hq => h.kn q (hs q hq)⟩
theorem SH.get (h : SH b H L) (hm : (p, o) ∈ L) : H p = some o := h.kn _ hm
theorem SH.ne (h : SH b H L) (hm : (p, o) ∈ L) : p ≠ b.1 := (h.nb _ hm).1
/-- the first of them is written; the others stand elsewhere -/
theorem SH.put (h : SH b H ((p, o) :: L)) (hd : ∀ q ∈ L, q.1 ≠ p) : SH b (upd H p o') ((p, o') :: L) :=
  ⟨h.bag.upd (h.nb _ (.head _)).1 (h.nb _ (.head _)).2, fun q hq => (List.mem_cons.mp hq).elim (fun z => by rw [z]; exact h.nb (p, o) (.head L)) (fun hq => h.nb q (.tail _ hq)),
    fun q hq => (List.mem_cons.mp hq).elim (fun z => by rw [z]; exact upd_same) (fun hq => by rw [upd_ne (hd q hq)]; exact h.kn q (.tail _ hq))⟩
theorem SH.apart (h : SH b H L) (n : H p = none) : ∀ q ∈ L, q.1 ≠ p := fun q hq => ne_of_none (h.kn q hq) n
theorem SH.nil (g : Bag b H) : SH b H [] := ⟨g, (fun _ h => absurd h List.not_mem_nil), (fun _ h => absurd h List.not_mem_nil)⟩
end
theorem bits_nil : Bits [] := fun _ h => nomatch h
theorem bits_app {a c : List Int} (h : Bits a) (h' : Bits c) : Bits (a ++ c) := fun z hz => (List.mem_append.mp hz).elim (h z) (h' z)
theorem bits_one {z : Int} (h : z = 0 ∨ z = 1) : Bits [z] := fun y hy => by rw [List.mem_singleton.mp hy]; exact h
theorem bits_take {a : List Int} (h : Bits a) (n : Nat) : Bits (a.take n) := fun z hz => h z (List.mem_of_mem_take hz)
theorem bits_drop {a : List Int} (h : Bits a) (n : Nat) : Bits (a.drop n) := fun z hz => h z (List.mem_of_mem_drop hz)
theorem seal_bits (ns : List Int) : Bits (sealL ns) := wr_bits _ _
theorem seal_len (ns : List Int) : (sealL ns).length = 16 := wr_len _ _
theorem cut_to_n (xs : List V) (n : Nat) : cutV xs none (some (n : Int)) = xs.take n := by
  unfold cutV
  rw [HT.sIx_none, HT.sIx_nat, List.drop_zero, Nat.sub_zero]
  by_cases h : n ≤ xs.length
  · rw [Nat.min_eq_left h]
  · rw [Nat.min_eq_right (by omega), List.take_of_length_le (Nat.le_refl _), List.take_of_length_le (by omega)]
theorem cut_from_n (xs : List V) (n : Nat) : cutV xs (some (n : Int)) none = xs.drop n := by
  unfold cutV
  rw [HT.sIx_none, HT.sIx_nat]
  by_cases h : n ≤ xs.length
  · rw [Nat.min_eq_left h]
    exact List.take_of_length_le (by simp)
  · rw [Nat.min_eq_right (by omega), List.drop_of_length_le (Nat.le_refl _), List.drop_of_length_le (by omega)]
    exact List.take_nil
theorem sIx_back (l d n : Nat) (h : 0 < n) : HT.sIx l d (some (-(n : Int))) = l - n := by
  show (if -(n : Int) < 0 then (-(n : Int) + (l : Int)).toNat else min (-(n : Int)).toNat l) = l - n
  rw [if_pos (by omega)]
  omega
theorem cut_to_b (xs : List V) (n : Nat) (h : 0 < n) : cutV xs none (some (-(n : Int))) = xs.take (xs.length - n) := by
  unfold cutV
  rw [HT.sIx_none, sIx_back _ _ n h, List.drop_zero, Nat.sub_zero]
theorem cut_from_b (xs : List V) (n : Nat) (h : 0 < n) : cutV xs (some (-(n : Int))) none = xs.drop (xs.length - n) := by
  unfold cutV
  rw [HT.sIx_none, sIx_back _ _ n h]
  exact List.take_of_length_le (by simp)
theorem sz4 {n : Nat} (h : n ≤ 100000) : n ≤ sizeLine := Nat.le_trans h (by decide)
theorem sz4l {n : Nat} (h : n < 100000) : n < sizeLine := Nat.lt_of_lt_of_le h (by decide)
theorem holds_sealed {ns : List Int} : holdsB (ns ++ sealL ns) = true := by
  unfold holdsB
  have l : (ns ++ sealL ns).length = ns.length + 16 := by rw [List.length_append, seal_len]
  rw [l, Nat.add_sub_cancel, List.take_left, List.drop_left]
  simp
theorem holds_short {ns : List Int} (h : ns.length < 16) : holdsB ns = false := by
  unfold holdsB
  rw [decide_eq_false (by omega), Bool.false_and]
theorem inV_ints (z : Int) : ∀ ks : List Int, inV (.int z) (ks.map V.int) = decide (z ∈ ks)
  | [] => rfl
  | k :: r => by
    show ((k == z) || inV (.int z) (r.map V.int)) = _
    rw [inV_ints z r]
    by_cases h : z = k
    · subst h
      simp
    · have h2 : (k == z) = false := by simpa using fun e => h e.symm
      rw [h2, Bool.false_or]
      exact decide_eq_decide.mpr ⟨fun hm => .tail _ hm, fun hm => (List.mem_cons.mp hm).elim (fun e => absurd e h) (fun e => e)⟩
def isB (b : Int) : Prop := b = 0 ∨ b = 1
theorem bits_cons {b : Int} {r : List Int} (h : Bits (b :: r)) : isB b ∧ Bits r := ⟨h b (.head _), fun z hz => h z (.tail _ hz)⟩
theorem getI {ns : List Int} {i : Nat} {y : V} (h : (ns.map V.int)[i]? = some y) : ∃ z, ns[i]? = some z ∧ y = V.int z := by
  rw [List.getElem?_map] at h
  cases e : ns[i]? with
  | none => rw [e] at h; cases h
  | some z => rw [e] at h; exact ⟨z, rfl, (Option.some.inj h).symm⟩
end WB
namespace WB
open PySem PySem.Spec PyProof.Rows L2
/-! ### a class's own function, called by the class: C.m(e, ..) -/
structure ClsFn (K : PySem.W.Frag) (mg : Str → Option Value) (x m : Str) (C f : Addr) : Prop where
  gC : mg x = some (.ref C)
  sg : PySem.W.specialIn K (.ref C) "__getattribute__" = some (some (.builtin "type.__getattribute__"))
  ty : PySem.W.typeIn K (.ref C) = some (.type "type")
  rd : PySem.W.readsIn K C (.type "type") = true
  fc : PySem.W.findCls K (.ref C) (.type "type") m = some (.val (.ref f))
  hd : PySem.W.handedIn (.ref f) = true
  kp : PySem.W.keepIn K (.ref f) = true
section
variable {X : Cx} {CX : CXT} {k : Nat} {f C : Addr} {fd : FuncData} {ps : List Str} {sp : Sp} {E : XK} {x m : Str} {p1 p2 pos : Pos} {e : Expr} {es : List Expr} {t : TA}
theorem pe_clsfn {pl : Sem Bool} (T : ClsFn X.K X.mg x m C f) (F : FnOk X.prog X.w X.K X.mg X.base CX k f fd ps sp) (hr : Room k X.A) (hb : Binds X.K fd ps []) (hx : Passes CX X E) (hg : Gl X x) (ha : PA X (e :: es) t)
    (hc : eval (.Call (.Attribute (.Name x p1) m p2) (e :: es) [] pos) X.env = (do
      let ov ← eval (.Name x p1) X.env
      standAt p2.atName
      let (f, first) ← holding [ov] (getMethod ov m pl)
      callWith pos f first (backTo pos (starEach (e :: es) X.env)) (backToKw pos (keywordEach [] X.env))) := by rfl)
    (hdb : (x == ("__debug__" : Str)) = false := by decide) (he : starEach (e :: es) X.env = (false, eval e X.env) :: starEach es X.env := by rfl) (hpl : (backTo pos (starEach es X.env)).any (·.1) = false := by rfl) :
    PE X (.Call (.Attribute (.Name x p1) m p2) (e :: es) [] pos) (tCall sp [] E t) := by
  refine ⟨fun pins s σ H Q I h => ?_⟩
  refine PySem.W.methodCall_KW (ld_glob I hg T.gC ?_ hdb) hc
  obtain ⟨mm, fr⟩ := I.fr
  refine PySem.W.method_of_cls fr I.ok.mod.kin T.sg (PySem.W.cls_val fr I.ok.mod.kin T.ty T.rd T.fc T.hd ?_)
  show wpAny _ _ (callWith pos (Value.ref f) [] (backTo pos (starEach (e :: es) X.env)) []) _ _ _
  refine PySem.W.callWith_K (h₀ := X.base) I.ok.mod.kin T.kp (thn (ha.run pos pins _ σ H _ (I.tok _) h) fun us s1 ⟨vs, H1, I1, r, q⟩ => ⟨I1.kIn, ?_⟩) he hpl
  exact run_fn F hr hb .nil hx I1 r q
end
/-! ### own exceptions -/
/-- LineError.__init__ -/
def spLE (K : PySem.W.Frag) : Sp := fun vs H Q _ => ∃ (a C : Addr) (w t : V), vs = [.ref a, w, t] ∧ OexC K C ∧ PySem.W.findIn K (.ref C) "word" = some none ∧ H a = some (exo a C none) ∧
  ∀ d, H d = none → d ≠ a → Q .non (upd (upd H d (exd d [(("word" : Str), w)])) a (exo a C (some d)))
/-- a class below it, its name, its field -/
def spIni (K : PySem.W.Frag) (C : Addr) (nm fld : Str) : Sp := fun vs H Q _ => ∃ (a : Addr) (i : Int), vs = [.ref a, .int i] ∧ i.natAbs.log2 < 1000 ∧ H a = some (exo a C none) ∧
  ∀ d, H d = none → d ≠ a → Q .non (upd (upd (upd H d (exd d [(("word" : Str), .str nm)])) a (exo a C (some d))) d (exd d [(fld, .int i), (("word" : Str), .str nm)]))
def XcOk (P : Program) (w : World) (K : PySem.W.Frag) (mg : Str → Option Value) (base : Heap) (k : Nat) (nm : Str) (C : Addr) (sp : Sp) : Prop :=
  ∃ (fI : Addr) (fd : FuncData) (ps : List Str), OexC K C ∧ PySem.W.findIn K (.ref C) "__init__" = some (some (.ref fI)) ∧ PySem.W.typeIn K (.ref fI) = some (.type "function") ∧ FnOk P w K mg base CX0 k fI fd ps sp ∧ Binds K fd ps [] ∧ mg nm = some (.ref C)
theorem XcOk.mono {P : Program} {w : World} {K : PySem.W.Frag} {mg : Str → Option Value} {base : Heap} {j k : Nat} {nm : Str} {C : Addr} {sp : Sp} (x : XcOk P w K mg base j nm C sp) (h : j ≤ k) : XcOk P w K mg base k nm C sp := by
  obtain ⟨fI, fd, ps, a, b, c, d, e⟩ := x
  exact ⟨fI, fd, ps, a, b, c, d.mono h, e⟩
section
variable {X : Cx} {k : Nat} {nm : Str} {C : Addr} {sp : Sp} {e : Expr} {es : List Expr} {ta : TA} {p pos : Pos}
theorem pmk_c (x : XcOk X.prog X.w X.K X.mg X.base k nm C sp) (hr : Room (k + 1) X.A) (hg : Gl X nm) (ha : PA X (e :: es) ta) (hdb : (nm == ("__debug__" : Str)) = false := by decide)
    (he : starEach (e :: es) X.env = (false, eval e X.env) :: starEach es X.env := by rfl) (hpl : (backTo pos (starEach es X.env)).any (·.1) = false := by rfl) : PMk X (.Call (.Name nm p) (e :: es) [] pos) (tMkO C sp [] ta) := by
  obtain ⟨fI, fd, ps, a, b, c, d, e1, g⟩ := x
  exact pmk_oex a b c d hr e1 .nil pass0 hg g ha hdb he hpl
end
theorem mk_inner {K : PySem.W.Frag} {C : Addr} {nm fld : Str} {i : Int} {H1 : Hp} {Q : XK} (hi : i.natAbs.log2 < 1000)
    (q : ∀ H' d, Same H1 H' → H1 d = none → H' d = some (.xd [(fld, .int i), (("word" : Str), .str nm)]) → Q (.ref C) (some d) H') :
    ([V.int i] : List V).length ≤ 1000 ∧ ∀ a, H1 a = none → spIni K C nm fld (.ref a :: ([V.int i] ++ [])) (upd H1 a (exo a C none))
      (fun v H2 => v = .non ∧ ∃ (d : Addr) (fs : List (Str × V)), H2 a = some (exo a C (some d)) ∧ H2 d = some (exd d fs) ∧ H1 d = none ∧ Q (.ref C) (some d) (upd (del H2 a) d (.xd fs))) (fun _ _ _ => False) := by
  refine ⟨by show 1 ≤ 1000; decide, fun a na => ⟨a, i, rfl, hi, upd_same, fun d nd da => ⟨rfl, d, [(fld, .int i), (("word" : Str), .str nm)], ?_, upd_same, ?_, ?_⟩⟩⟩
  · rw [upd_ne da.symm, upd_same]
  · rw [upd_ne da] at nd
    exact nd
  · rw [upd_ne da] at nd
    refine q _ d (fun b o h => ?_) nd upd_same
    have hb : b ≠ d := ne_of_none h nd
    have hba : b ≠ a := ne_of_none h na
    rw [upd_ne hb, del_ne hba, upd_ne hb, upd_ne hba, upd_ne hb, upd_ne hba]
    exact h
/-! ### defs that may let an exception out -/
def CalX (P : Program) (w : World) (K : PySem.W.Frag) (mg : Str → Option Value) (base : Heap) (k : Nat) (nm : Str) (ps : List Str) (sp : Sp) : Prop :=
  ∃ (f : Addr) (fd : FuncData), FnOk P w K mg base (L2.CX P w) k f fd ps sp ∧ mg nm = some (.ref f) ∧ PySem.W.keepIn K (.ref f) = true ∧ Binds K fd ps []
theorem CalX.mono {P : Program} {w : World} {K : PySem.W.Frag} {mg : Str → Option Value} {base : Heap} {j k : Nat} {nm : Str} {ps : List Str} {sp : Sp} (c : CalX P w K mg base j nm ps sp) (h : j ≤ k) : CalX P w K mg base k nm ps sp := by
  obtain ⟨f, fd, a, b, d, e⟩ := c
  exact ⟨f, fd, a.mono h, b, d, e⟩
section
variable {X : Cx} {k : Nat} {nm : Str} {ps : List Str} {sp : Sp} {E : XK} {e : Expr} {es : List Expr} {t : TA} {p pos : Pos}
/-- where it lets nothing out -/
theorem pe_callF (c : CalX X.prog X.w X.K X.mg X.base k nm ps sp) (hr : Room k X.A) (hg : Gl X nm) (ha : PA X (e :: es) t) (hdb : (nm == ("__debug__" : Str)) = false := by decide)
    (he : starEach (e :: es) X.env = (false, eval e X.env) :: starEach es X.env := by rfl) (hpl : (backTo pos (starEach es X.env)).any (·.1) = false := by rfl) :
    PE X (.Call (.Name nm p) (e :: es) [] pos) (tCall sp [] E0 t) := by
  obtain ⟨f, fd, a, b, d, g⟩ := c
  exact pe_call a hr hg b d g .nil passL ha hdb he hpl
/-- where what it lets out is taken -/
theorem pe_callP (c : CalX X.prog X.w X.K X.mg X.base k nm ps sp) (hr : Room k X.A) (hx : Passes (L2.CX X.prog X.w) X E) (hg : Gl X nm) (ha : PA X (e :: es) t) (hdb : (nm == ("__debug__" : Str)) = false := by decide)
    (he : starEach (e :: es) X.env = (false, eval e X.env) :: starEach es X.env := by rfl) (hpl : (backTo pos (starEach es X.env)).any (·.1) = false := by rfl) :
    PE X (.Call (.Name nm p) (e :: es) [] pos) (tCall sp [] E t) := by
  obtain ⟨f, fd, a, b, d, g⟩ := c
  exact pe_call a hr hg b d g .nil hx ha hdb he hpl
end
theorem txt_fits {z : Str} {i : Int} (hz : z.length ≤ 1000) (hi : i.natAbs.log2 < 1000) : (z ++ Str.ofString (toString i)).length ≤ sizeLine := by
  have e := PySem.int_text_length_le (k := 1000) (a := i) (by decide) hi
  rw [PySem.Str.length_append, PySem.ofString_length, PySem.sizeLine_eq]
  omega
/-! ### several clauses, each with the name n (slot i) -/
def asEnds (i : Nat) (D : Ends) : Ends := ⟨fun σ' H' => D.nx (σ'.set i none) H', D.rt, fun σ' H' => D.bk (σ'.set i none) H', fun σ' H' => D.ct (σ'.set i none) H'⟩
def wManyA (K : PySem.W.Frag) (i : Nat) (Wo : WX) (D : Ends) : List (Value × (Addr → Value → Option Addr → TS)) → WX
  | [] => Wo
  | (c, ts) :: r => fun cls d σ H => ∃ b, PySem.W.exmOne K cls c = some b ∧ (b = true → ∀ a, H a = none → ts a cls d (asEnds i D) (σ.set i (some (.ref a))) H) ∧ (b = false → wManyA K i Wo D r cls d σ H)
inductive HdsA (X : Cx) (n : Str) : List ExceptHandler → List (Value × (Addr → Value → Option Addr → TS)) → Prop
  | nil : HdsA X n [] []
  | cons {x : Str} {c : Value} {ts : Addr → Value → Option Addr → TS} {st : Stmt} {sts : List Stmt} {q1 q2 : Pos} {hs : List ExceptHandler} {l : List (Value × (Addr → Value → Option Addr → TS))} (hc : Names X x c)
      (hsu : ∀ (a : Addr) (oe : Obj) (cls : Value) (d : Option Addr) (pn : List (Addr × Obj)), Zc cls d oe → (∃ vs, oe.data = .fields vs) → PSs (X.suite a ((a, oe) :: pn)) (st :: sts) (ts a cls d)) (r : HdsA X n hs l) :
      HdsA X n (.ExceptHandler (some (.Name x q1)) (some n) (st :: sts) q2 :: hs) ((c, ts) :: l)
section
variable {X : Cx} {n : Str} {i : Nat} {bd : List Stmt} {h0 : ExceptHandler} {hs : List ExceptHandler} {l : List (Value × (Addr → Value → Option Addr → TS))} {pos : Pos} {tb : WX → TS} {Wo : WX}
theorem ps_try_manyA (hst : X.stack = X.env :: X.outer) (hfm : X.env.frame = some X.env.locals) (hnd : X.N.Nodup) (hni : X.N[i]? = some n) (hnl : X.env.kindOf n = some .local) (tk : Takes X Wo)
    (hb : ∀ (W : WX) (pn : List (Addr × Obj)) (xe : Value → Shared → Prop), Takes (X.tr pn xe) W → PassesOwn (model X.prog X.w) X.A X.env xe → PSs (X.tr pn xe) bd (tb W))
    (hh : HdsA X n (h0 :: hs) l) : PS X (.Try bd (h0 :: hs) [] [] pos) (fun D σ H => tb (wManyA X.K i Wo D l) D σ H) := by
  refine ⟨fun pins s σ H D I hw => ?_⟩
  have kk := I.ok
  have hfr2 : X.A.frames = some (X.env :: X.outer) := kk.frames.trans (congrArg some hst)
  have hlo : Loc X.env.scope n := Or.inl hnl
  refine wpAny_Try_except (wpAny_mono ((hb (wManyA X.K i Wo D l) (X.pn ++ pins) (fun e z1 => wpAny (model X.prog X.w) X.A (noteFrame e X.env) (fun _ z2 => wpAny (model X.prog X.w) X.A (setFlight e none) (fun _ z3 =>
    wpAny (model X.prog X.w) X.A (handleBy e X.env (h0 :: hs)) (SP X pins D) X.xe z3) X.xe z2) X.xe z1) (fun u z' xx => ?_) PassesOwn.looking).run [] s σ H D (I.toTry _) hw) (fun fl z1 hsp => ?_) (fun _ _ y => y))
  · obtain ⟨a, B, sI, pins', τ, G, cls, d, rfl, J', nb, up, sky, na, hos, hag, wch⟩ := xx
    have J : Inv X pins τ G sI := J'.ofTry kk
    have sky2 : Sky B (X.env :: X.outer) a (Zc cls d) X.env.locals z'.heap := hst ▸ sky
    refine Sky.land Zc.steady hfr2 hfm sky2 fun g3 fl3 up3 => ?_
    have J3 : Inv X pins τ G { z' with heap := g3 } := J.landed nb fl3.1 (up.trans up3) hos hag
    obtain ⟨o3, v3, he3, hz3, hd3⟩ := fl3.there
    have nin : a ∉ frs (X.env :: X.outer) := fun hm => by
      obtain ⟨_, o', e', hnf⟩ := fl3.2.2.1.mem hm
      rw [he3] at e'; cases e'; exact hnf _ hd3
    have nL : a ≠ X.env.locals := fun y => nin (List.mem_filterMap.mpr ⟨X.env, List.mem_cons_self, hfm.trans (congrArg some y.symm)⟩)
    have nF : a ∉ X.fs := fun hm => by
      obtain ⟨e, he, y⟩ := List.mem_filterMap.mp hm
      exact nin (List.mem_filterMap.mpr ⟨e, List.mem_cons_of_mem _ he, y⟩)
    have S3 := J3.suite he3 hd3 na nL nF
    have go : ∀ {hs' : List ExceptHandler} {l' : List (Value × (Addr → Value → Option Addr → TS))}, HdsA X n hs' l' → wManyA X.K i Wo D l' cls d τ G → wpAny (model X.prog X.w) X.A (handleBy (.ref a) X.env hs') (SP X pins D) X.xe { z' with heap := g3 } := by
      intro hs' l' hk
      induction hk with
      | nil =>
        intro wch
        obtain ⟨k1, k2, k3, oe, vs, T, oT, ts', he, hz, hd, h1, hr⟩ := id fl3
        refine wpAny_handleBy_nil ?_
        unfold PySem.passOn
        refine wpAny_bind (wpAny_field he hd h1 ?_)
        have fin : wpAny (model X.prog X.w) X.A (setFlight (.ref a) X.env.frame) (fun _ z4 => wpAny (model X.prog X.w) X.A (throw (.ref a) : Sem Flow) (SP X pins D) X.xe z4) X.xe { z' with heap := g3 } := by
          rw [hfm]
          exact HandSPX.setFlight_upZ fl3 fun h4 hh4 up4 => wpAny_throw (tk _ _ ⟨a, B, sI, pins, τ, G, cls, d, rfl, J, nb, (up.trans up3).trans up4, .inr (.inr (hst ▸ hh4)), na, hos, hag, wch⟩)
        rw [if_neg (by simp : ¬ ((Value.ref T == Value.none) = true))]
        first | exact wpAny_bind (wpAny_pure (wpAny_bind fin)) | exact wpAny_bind fin
      | @cons x c ts st sts q1 q2 hs2 l2 hc hsu r ih =>
        intro wch
        obtain ⟨b, hb1, yes, no⟩ := wch
        refine wpAny_handleBy_cons (codeAny_handlers_test ?_) (fun y => by cases y)
        have LT : PySem.W.Looks (model X.prog X.w) g3 (typeOf (.ref a)) cls := fun A Q E s k q => wpAny_typeOf_ref (k _ _ he3) (hz3.1.symm ▸ q)
        have LM := PySem.W.exm_one (M := model X.prog X.w) J3.kIn LT hb1
        have tst : ∀ {Q : Value → Shared → Prop} {E : Value → Shared → Prop}, Q c { z' with heap := g3 } → wpAny (model X.prog X.w) (X.A.mark (some (.ref a))) (eval (.Name x q1) X.env) Q E { z' with heap := g3 } := fun {Q E} y => by
          rcases hc with ⟨hg, hdb, hm | ⟨hm, hv, hnn⟩⟩
          · exact ld_glob (X := X.suite a ((a, o3) :: (X.pn ++ pins))) S3 hg hm y hdb
          · exact ld_blt (X := X.suite a ((a, o3) :: (X.pn ++ pins))) S3 hg hm hv y hnn hdb
        refine tst (LM.here ?_)
        cases b with
        | false => exact ih (no rfl)
        | true =>
          refine codeAny_handlers_suite_as (HandSPX.lands_againZ fl3 fun g4 fl4 up4 => ?_)
          have J4 : Inv X pins τ G { z' with heap := g4 } := J.landed nb fl4.1 ((up.trans up3).trans up4) hos hag
          obtain ⟨o4, v4, he4, hz4, hd4⟩ := fl4.there
          refine store_ok (X := X.suite a ((a, o4) :: (X.pn ++ pins))) (v := .ref a) (J4.suite he4 hd4 na nL nF) hnd hni hlo rfl (fun s5 S5 => ?_) (.inr hnl)
          refine wpAny_mono ((hsu a o4 cls d (X.pn ++ pins) hz4 ⟨_, hd4⟩).run [] s5 _ G _ S5 (yes rfl a na)) (fun fl z6 hsp => ?_) (fun _ _ y => y.elim)
          have over : ∀ {τ6 : L2.St} {G6 : Hp} {R : Shared → Prop}, Inv (X.suite a ((a, o4) :: (X.pn ++ pins))) [] τ6 G6 z6 → (∀ z7, Inv X pins (τ6.set i none) G6 z7 → R z7) →
              wpAny (model X.prog X.w) X.A (do bindName X.env n .none; unbindBehindTheSuite X.env n q2) (fun _ z7 => R z7) X.xe z6 := fun S6 hq => gone_ok (S6.unsuite kk) hnd hni hnl hq
          cases fl with
          | next => obtain ⟨τ6, G6, S6, q6⟩ := hsp; exact over S6 fun z7 J7 => ⟨_, _, J7, q6⟩
          | brk => obtain ⟨τ6, G6, S6, q6⟩ := hsp; exact over S6 fun z7 J7 => ⟨_, _, J7, q6⟩
          | cont => obtain ⟨τ6, G6, S6, q6⟩ := hsp; exact over S6 fun z7 J7 => ⟨_, _, J7, q6⟩
          | ret u => obtain ⟨v6, τ6, G6, S6, r6, q6⟩ := hsp; exact over S6 fun z7 J7 => ⟨_, _, _, J7, r6, q6⟩
    exact go hh wch
  · cases fl with
    | next => obtain ⟨τ, G, J', q⟩ := hsp; exact wpAny_execs_nil ⟨τ, G, J'.ofTry kk, q⟩
    | brk => obtain ⟨τ, G, J', q⟩ := hsp; exact ⟨τ, G, J'.ofTry kk, q⟩
    | cont => obtain ⟨τ, G, J', q⟩ := hsp; exact ⟨τ, G, J'.ofTry kk, q⟩
    | ret u => obtain ⟨v, τ, G, J', r, q⟩ := hsp; exact ⟨v, τ, G, J'.ofTry kk, r, q⟩
end
/-! ### what a law with lambdas knows of the heap: the bag at b, the tables T, these lists -/
/-- all that is no list stays -/
def NL (H H' : Hp) : Prop := ∀ a o, H a = some o → (∀ xs, o ≠ .lst xs) → H' a = some o
theorem tabs_nl {T : List (Addr × Str)} {H H' : Hp} (t : LamX.Tabs T H) (h : NL H H') : LamX.Tabs T H' := fun p hp => by
  obtain ⟨ps, h1, h2, h3⟩ := t p hp
  refine ⟨ps, h _ _ h1 (fun xs z => by cases z), h2, fun pos cv hc => ?_⟩
  obtain ⟨c, e1, e2⟩ := h3 pos cv hc
  exact ⟨c, e1, h _ _ e2 (fun xs z => by unfold LamX.CodeO at z; cases z)⟩
structure ST (b : Addr × Addr) (T : List (Addr × Str)) (H : Hp) (L : List (Addr × List V)) : Prop where
  bag : Bag b H
  nb : ∀ p ∈ L, p.1 ≠ b.1 ∧ p.1 ≠ b.2
  kn : ∀ p ∈ L, H p.1 = some (.lst p.2)
  tab : LamX.Tabs T H
section
variable {b : Addr × Addr} {T : List (Addr × Str)} {p : Addr} {H H' : Hp} {L L' : List (Addr × List V)} {o o' : List V}
theorem ST.same (h : ST b T H L) (s : Same H H') : ST b T H' L := ⟨h.bag.same s, h.nb, fun q hq => s _ _ (h.kn q hq), h.tab.ext s⟩
theorem ST.mv (h : ST b T H L) (m : Mv b.1 H H') (g : Bag b H') : ST b T H' L := ⟨g, h.nb, fun q hq => m _ _ (h.nb q hq).1 (h.kn q hq), tabs_nl h.tab (fun a o e n => m a o (fun z => by
  obtain ⟨_, _, _, _, _, h1, _⟩ := h.bag
  rw [z, h1] at e
  exact n _ (Option.some.inj e).symm) e)⟩
theorem ST.add (h : ST b T H L) (n : p ≠ b.1) (n2 : p ≠ b.2) (e : H p = some (.lst o)) : ST b T H ((p, o) :: L) :=
  ⟨h.bag, fun q hq => (List.mem_cons.mp hq).elim (fun z => by rw [z]; exact ⟨n, n2⟩) (h.nb q), fun q hq => (List.mem_cons.mp hq).elim (fun z => by rw [z]; exact e) (h.kn q), h.tab⟩
theorem ST.new (h : ST b T H L) (n : H p = none) : ST b T (upd H p (.lst o)) ((p, o) :: L) := (h.same (same_upd n)).add (h.bag.ne n) (h.bag.ne2 n) upd_same
theorem ST.newS (h : ST b T H L) (s : Same H H') (n : H p = none) (e : H' p = some (.lst o)) : ST b T H' ((p, o) :: L) := (h.same s).add (h.bag.ne n) (h.bag.ne2 n) e
theorem ST.newM (h : ST b T H L) (m : Mv b.1 H H') (g : Bag b H') (n : H p = none) (e : H' p = some (.lst o)) : ST b T H' ((p, o) :: L) := (h.mv m g).add (h.bag.ne n) (h.bag.ne2 n) e
theorem ST.sub (h : ST b T H L) (hs : ∀ q ∈ L', q ∈ L) : ST b T H L' := ⟨h.bag, fun q hq => h.nb q (hs q hq), fun q hq => h.kn q (hs q hq), h.tab⟩
theorem ST.get (h : ST b T H L) (hm : (p, o) ∈ L) : H p = some (.lst o) := h.kn _ hm
theorem ST.ne (h : ST b T H L) (hm : (p, o) ∈ L) : p ≠ b.1 := (h.nb _ hm).1
theorem ST.put (h : ST b T H ((p, o) :: L)) (hd : ∀ q ∈ L, q.1 ≠ p) : ST b T (upd H p (.lst o')) ((p, o') :: L) :=
  ⟨h.bag.upd (h.nb _ (.head _)).1 (h.nb _ (.head _)).2, fun q hq => (List.mem_cons.mp hq).elim (fun z => by rw [z]; exact h.nb (p, o) (.head L)) (fun hq => h.nb q (.tail _ hq)),
    fun q hq => (List.mem_cons.mp hq).elim (fun z => by rw [z]; exact upd_same) (fun hq => by rw [upd_ne (hd q hq)]; exact h.kn q (.tail _ hq)), tabs_nl h.tab (fun a u e n => by
      have e2 := h.kn (p, o) (.head _)
      rw [upd_ne (fun z => by rw [z, e2] at e; exact n _ (Option.some.inj e).symm)]
      exact e)⟩
theorem ST.apart (h : ST b T H L) (n : H p = none) : ∀ q ∈ L, q.1 ≠ p := fun q hq => ne_of_none (h.kn q hq) n
theorem ST.nil (g : Bag b H) (t : LamX.Tabs T H) : ST b T H [] := ⟨g, (fun _ h => absurd h List.not_mem_nil), (fun _ h => absurd h List.not_mem_nil), t⟩
theorem ST.extN (h : ST b T H L) (e : LamX.ExtN H H') (t : LamX.Tabs T H') : ST b T H' L := by
  refine ⟨?_, h.nb, fun q hq => e _ _ (h.kn q hq) (fun ps z => by cases z), t⟩
  obtain ⟨ns, i, r, x, c, h1, h2, h3⟩ := h.bag
  exact ⟨ns, i, r, x, c, e _ _ h1 (fun ps z => by cases z), e _ _ h2 (fun ps z => by cases z), h3⟩
end
/-! ### takes, where the slots are as many as the names -/
theorem takes_len {X : Cx} {W : WX} (tk : Takes X W) : Takes X (fun cls d σ H => σ.length = X.N.length → W cls d σ H) := fun u s' x => by
  obtain ⟨a, B, sI, pins, σ, H, cls, d, e, I, nb, up, sky, na, os, ag, w⟩ := x
  exact tk u s' ⟨a, B, sI, pins, σ, H, cls, d, e, I, nb, up, sky, na, os, ag, w I.len⟩
/-- what the law's at makes of a lambda that is refused by one of these classes -/
def TAt (cs : List (Addr × Str)) : (XK → Hp → VK → Prop) → Hp → VK → Prop := fun tl H Q =>
  tl (fun cls d H' => ∃ e ∈ cs, cls = .ref e.1 ∧ ∃ (dd : Addr) (v : V), d = some dd ∧ H' dd = some (.xd [(("at" : Str), v), (("word" : Str), .str e.2)]) ∧ ∀ p, H' p = none → Q (.ref p) (upd H' p (.lst [.str e.2, v]))) H (fun _ _ => False)
/-- a class of refusals with a place -/
structure AtC (K : PySem.W.Frag) (mg : Str → Option Value) (nm : Str) (C : Addr) : Prop where
  gC : mg nm = some (.ref C)
  xf : XfC K C
  no : PySem.W.findIn K (.ref C) "at" = some none
theorem set_get {σ : L2.St} {i : Nat} {v : Option V} (h : i < σ.length) : (σ.set i v)[i]? = some v := by
  rw [List.getElem?_set_self h]
/-! ### a law that hands lambdas to a def -/
def LamTo (X : Cx) (T : List (Addr × Str)) (nm : Str) (TT : (XK → Hp → VK → Prop) → Hp → VK → Prop) : Prop :=
  ∀ {params : Arguments} {body : Expr} {scope : Scope} {t : XK → TE} {p lpos pos : Pos} {k : Nat}, Room (k + 2) X.A → LamX.LamS X.env.scope scope → defaultsOf params X.env = ([], []) →
    (∀ (q : Str) (cl : List (Str × Addr)) (pm cv ctv : Value), bindArgs (PySem.W.kla_fn "<lambda>" q params body scope cl pm cv ctv) ⟨[], []⟩ = pure []) →
    (∀ (A : Around) (outer : List Env) (s : Shared) (H : Hp) (E : XK) (f c' : Addr), Room k (A.deeper (LamX.lamEnv X scope s.heap.objs.size f c')) → PE (LamX.lamCx X A outer s H E scope f c') body (t E)) →
    PE X (.Call (.Name nm p) [.Lambda params body scope lpos] [] pos) (LamX.tLam T TT t)
theorem okL {P : Program} {w : World} {K : PySem.W.Frag} {mg : Str → Option Value} {base : Heap} {x qual : Str} {st : Stmt} {f c : Addr} {N ps : List Str} {k : Nat} {sp : Sp} {oc : Value} {od an : Option Addr} {osl : Array (Option Value)} {kV doc pm ct : Value}
    (lk : K.lookup f = some ⟨oc, od, .func (PySem.W.fnOf x qual (defArgs st) (defBody st) (defScope st) .none kV doc pm an (.ref c) ct), osl⟩) (hcd : PySem.W.codeIn K (.ref c) qual = true) (S : FnScope N ps (defScope st)) (len : ∀ vs H Q E, sp vs H Q E → vs.length = ps.length)
    (hbody : ∀ (A : Around) (outer : List Env) (s : Shared) (H : Hp) (vs : List V) (Q : VK) (E : XK), Room k (A.deeper (envOfC qual (defScope st) s.heap.objs.size f (.ref c))) → sp vs H Q E →
      ∃ t, PSs (cxOf CX0 P w K mg base N qual (defScope st) f (.ref c) A outer s H E).nox (defBody st) t ∧ t { nx := fun _ H' => Q .non H', rt := Q } (L2.start N vs) H) :
    FnOk P w K mg base CX0 (k + 1) f (PySem.W.fnOf x qual (defArgs st) (defBody st) (defScope st) .none kV doc pm an (.ref c) ct) ps sp := by
  refine fn_of lk hcd S len fun A outer s H vs Q E hr hsp => ?_
  obtain ⟨t, h, q⟩ := hbody A outer s H vs Q E hr hsp
  exact ⟨t, h.nox, q⟩
/-! ### a class of refusals without a value -/
def spIni0 (K : PySem.W.Frag) (C : Addr) (nm : Str) : Sp := fun vs H Q _ => ∃ (a : Addr), vs = [.ref a] ∧ H a = some (exo a C none) ∧ ∀ d, H d = none → d ≠ a → Q .non (upd (upd H d (exd d [(("word" : Str), .str nm)])) a (exo a C (some d)))
section
variable {X : Cx} {k : Nat} {nm : Str} {C : Addr} {sp : Sp} {p pos : Pos}
theorem pmk_c0 (x : XcOk X.prog X.w X.K X.mg X.base k nm C sp) (hr : Room (k + 1) X.A) (hg : Gl X nm) (hdb : (nm == ("__debug__" : Str)) = false := by decide) : PMk X (.Call (.Name nm p) [] [] pos) (tMkO C sp [] tNil) := by
  obtain ⟨fI, fd, ps, T, iC, tI, F1, hb, hm⟩ := x
  intro pins s σ H Q I h
  obtain ⟨nm', q, N, bs, bm, sn, sub, ab, col, dd, k0, k1, k2, k3, k5, hC, hbm⟩ := T.cls
  refine wpAny_Call_Name_kw (ld_glob I hg hm ?_ hdb)
  refine PySem.W.callWith_K0 I.kIn T.kC ?_
  show wpAny _ _ (call (.ref C) []) _ _ _
  have q1 : ∀ a, H a = none → sp (.ref a :: ([] ++ [])) (upd H a (exo a C none)) _ _ := h.2
  obtain ⟨hp, g, dr, tk, os⟩ := s
  have hsz : hp.objs.size ≤ hp.objs.size + 1 := Nat.le_succ _
  have hq := q1 (hp.objs.size + 1) (I.hok.fresh hsz)
  have kk : ∀ b o, hp.get? b = some o → ((hp.push (PySem.W.kdv_tup [])).push (PySem.HandSPX.excO C hp.objs.size)).get? b = some o := fun b o e => Heap.get?_push_of_some _ (Heap.get?_push_of_some _ e)
  have hget : ((hp.push (PySem.W.kdv_tup [])).push (PySem.HandSPX.excO C hp.objs.size)).get? (hp.objs.size + 1) = some (PySem.HandSPX.excO C hp.objs.size) := by heap_get
  have I2 : Inv X pins σ (upd H (hp.objs.size + 1) (exo (hp.objs.size + 1) C none)) ⟨(hp.push (PySem.W.kdv_tup [])).push (PySem.HandSPX.excO C hp.objs.size), g, dr, tk, os⟩ :=
    I.laid (t' := tk) (a := hp.objs.size + 1) (o := exo (hp.objs.size + 1) C none) (h' := (hp.push (PySem.W.kdv_tup [])).push (PySem.HandSPX.excO C hp.objs.size)) kk hsz (exo_ok hget)
  have r2 : Vals [V.ref (hp.objs.size + 1)] [Value.ref (hp.objs.size + 1)] := .cons rfl .nil
  have hl : ([Value.ref (hp.objs.size + 1)] ++ []).length = ps.length := (F1.len _ _ _ _ hq)
  refine wpAny_call (PySem.HandSPX.call_own F.excBase_ValueError (fun Y => PySem.HandSPX.refsVE_contains Y bm hbm) (I.kIn _ _ hC) (PySem.W.looks_findIn I.kIn iC) (fun self => PySem.W.bind_fn I.kIn self tI) (Nat.zero_le _)
    (codeAny_mono (F1.run _ X.stack _ _ ⟨[Value.ref (hp.objs.size + 1)], []⟩ [Value.ref (hp.objs.size + 1)] _ _ (fun _ _ _ => False) (hr.make C [] []) (I2.env0.make C [] []) (hb _ [Value.ref (hp.objs.size + 1)] I2.kIn hl) r2 hq) fun r s' hq' => ?_))
  cases r with
  | error er => exact (show False from hq').elim
  | ok fl =>
    cases fl with
    | ret u =>
      obtain ⟨v, H2, os2, bare2, un2, hok2, rv, ev, d, fs, ea, ed, hd1, q2⟩ := hq'
      subst ev
      obtain ⟨h2, g2, d2, t2, os'⟩ := s'
      exact ⟨rv, mk_end (raises_own T.exC T.tyC) I hsz kk un2 hok2 os2 bare2 ea ed hd1 q2⟩
    | next => exact False.elim hq'
    | brk => exact False.elim hq'
    | cont => exact False.elim hq'
end
theorem mk_inner0 {K : PySem.W.Frag} {C : Addr} {nm : Str} {H1 : Hp} {Q : XK}
    (q : ∀ H' d, Same H1 H' → H1 d = none → H' d = some (.xd [(("word" : Str), .str nm)]) → Q (.ref C) (some d) H') :
    ([] : List V).length ≤ 1000 ∧ ∀ a, H1 a = none → spIni0 K C nm (.ref a :: (([] : List V) ++ [])) (upd H1 a (exo a C none))
      (fun v H2 => v = .non ∧ ∃ (d : Addr) (fs : List (Str × V)), H2 a = some (exo a C (some d)) ∧ H2 d = some (exd d fs) ∧ H1 d = none ∧ Q (.ref C) (some d) (upd (del H2 a) d (.xd fs))) (fun _ _ _ => False) := by
  refine ⟨Nat.zero_le _, fun a na => ⟨a, rfl, upd_same, fun d nd da => ⟨rfl, d, [(("word" : Str), .str nm)], upd_same, ?_, ?_, ?_⟩⟩⟩
  · rw [upd_ne da, upd_same]
  · rw [upd_ne da] at nd
    exact nd
  · rw [upd_ne da] at nd
    refine q _ d (fun b o h => ?_) nd upd_same
    have hb : b ≠ d := ne_of_none h nd
    have hba : b ≠ a := ne_of_none h na
    rw [upd_ne hb, del_ne hba, upd_ne hba, upd_ne hb, upd_ne hba]
    exact h
/-- what the law's tried makes of a lambda: told, or refused by the class at C, whose word it tells -/
def TTried (C : Addr) (nm : Str) : (XK → Hp → VK → Prop) → Hp → VK → Prop := fun tl H Q =>
  tl (fun cls d H' => cls = .ref C ∧ ∃ (dd : Addr) (fs : List (Str × V)), d = some dd ∧ H' dd = some (.xd fs) ∧ fs.lookup ("word" : Str) = some (.str nm) ∧ ∀ p, H' p = none → Q (.ref p) (upd H' p (.tup [.str "refused", .str nm]))) H
    (fun v H1 => ([V.str "told", v] : List V).length ≤ sizeLine ∧ ∀ p, H1 p = none → Q (.ref p) (upd H1 p (.tup [.str "told", v])))
/-! ### a def called by keywords alone -/
def gK {α : Type} (perm : List α → List α) : List α → List α → List α
  | [], ws => perm ws
  | _ :: _, _ => []
section
variable {X : Cx} {CX : CXT} {k : Nat} {f : Addr} {fd : FuncData} {ps ks : List Str} {sp : Sp} {E : XK} {x : Str} {p pos : Pos} {kws : List Keyword} {tk : TA} {g : List Value → List Value → List Value} {gV : List V → List V → List V}
theorem pe_callK0 (F : FnOk X.prog X.w X.K X.mg X.base CX k f fd ps sp) (hr : Room k X.A) (hg : Gl X x) (hm : X.mg x = some (.ref f)) (hk : PySem.W.keepIn X.K (.ref f) = true) (hb : KBinds X.K fd ps ks g gV) (hx : Passes CX X E) (hkw : PK X kws tk)
    (hall : ((backToKw pos (keywordEach kws X.env)).all fun x => x.1.isSome) = true := by rfl) (hks : (backToKw pos (keywordEach kws X.env)).filterMap (·.1) = ks := by rfl) (hdb : (x == ("__debug__" : Str)) = false := by decide)
    (hpl : ((backTo pos (starEach [] X.env)).any (·.1) || (backToKw pos (keywordEach kws X.env)).any fun x => x.1.isNone) = false := by rfl) : PE X (.Call (.Name x p) [] kws pos) (tCallK sp gV E tNil tk) := by
  refine ⟨fun pins s σ H Q I h => wpAny_Call_Name_kw (ld_glob I hg hm ?_ hdb)⟩
  refine PySem.W.callWith_KW0 (I.ok.mod.kin) hk hall (thn (hkw.run pos pins s σ H (fun zs H2 => sp (gV [] zs) H2 Q E) I h) fun ws s2 x => ?_) hpl
  obtain ⟨zs, H2, I2, rz, q2⟩ := x
  refine ⟨I2.kIn, ?_⟩
  rw [hks]
  exact run_fnk F hr hb hx I2 .nil rz q2
end
def CalK (P : Program) (w : World) (K : PySem.W.Frag) (mg : Str → Option Value) (base : Heap) (k : Nat) (nm : Str) (ps ks : List Str) (gV : List V → List V → List V) (sp : Sp) : Prop :=
  ∃ (f : Addr) (fd : FuncData) (g : List Value → List Value → List Value), FnOk P w K mg base (L2.CX P w) k f fd ps sp ∧ mg nm = some (.ref f) ∧ PySem.W.keepIn K (.ref f) = true ∧ KBinds K fd ps ks g gV
theorem CalK.mono {P : Program} {w : World} {K : PySem.W.Frag} {mg : Str → Option Value} {base : Heap} {j k : Nat} {nm : Str} {ps ks : List Str} {gV : List V → List V → List V} {sp : Sp} (c : CalK P w K mg base j nm ps ks gV sp) (h : j ≤ k) : CalK P w K mg base k nm ps ks gV sp := by
  obtain ⟨f, fd, g, a, b, d, e⟩ := c
  exact ⟨f, fd, g, a.mono h, b, d, e⟩
section
variable {X : Cx} {k : Nat} {ps ks : List Str} {sp : Sp} {nm : Str} {p pos : Pos} {kws : List Keyword} {tk : TA} {gV : List V → List V → List V}
theorem pe_callKF (c : CalK X.prog X.w X.K X.mg X.base k nm ps ks gV sp) (hr : Room k X.A) (hg : Gl X nm) (hkw : PK X kws tk)
    (hall : ((backToKw pos (keywordEach kws X.env)).all fun x => x.1.isSome) = true := by rfl) (hks : (backToKw pos (keywordEach kws X.env)).filterMap (·.1) = ks := by rfl) (hdb : (nm == ("__debug__" : Str)) = false := by decide)
    (hpl : ((backTo pos (starEach [] X.env)).any (·.1) || (backToKw pos (keywordEach kws X.env)).any fun x => x.1.isNone) = false := by rfl) : PE X (.Call (.Name nm p) [] kws pos) (tCallK sp gV E0 tNil tk) := by
  obtain ⟨f, fd, g, a, b, d, e⟩ := c
  exact pe_callK0 a hr hg b d e passL hkw hall hks hdb hpl
end
def two {α : Type} : List α → List α
  | [a, b] => [b, a]
  | _ => []
theorem kb_one {K : PySem.W.Frag} {x qual y : Str} {st : Stmt} {f : Addr} {fd : FuncData} (F : Fun K x qual st f fd) (h : ∀ (kV doc pm : Value) (an : Option Addr) (cdv ct : Value) (u : Value), bindArgs (PySem.W.fnOf x qual (defArgs st) (defBody st) (defScope st) .none kV doc pm an cdv ct) ⟨[], [(y, u)]⟩ = pure [(y, u)]) :
    KBinds K fd [y] [y] (gK id) (gK id) := by
  refine ⟨fun s us ws X hl M A E Q q => ?_, fun {vs us zs ws} r rz => ?_⟩
  · obtain ⟨oc, od, kV, doc, pm, an, cdv, ct, osl, rfl, _⟩ := F.ex
    cases us with
    | cons _ _ => exact absurd hl (by show 0 ≠ 1; decide)
    | nil =>
      match ws, hl with
      | [u], _ =>
        show wpAny M A (bindArgs _ ⟨[], [(y, u)]⟩) Q E s
        rw [h]
        exact wpAny_pure q
  · cases r with
    | nil => exact rz
    | cons _ _ => exact .nil
theorem kb_two {K : PySem.W.Frag} {x qual y z : Str} {st : Stmt} {f : Addr} {fd : FuncData} (F : Fun K x qual st f fd) (h : ∀ (kV doc pm : Value) (an : Option Addr) (cdv ct : Value) (u v : Value), bindArgs (PySem.W.fnOf x qual (defArgs st) (defBody st) (defScope st) .none kV doc pm an cdv ct) ⟨[], [(z, u), (y, v)]⟩ = pure [(y, v), (z, u)]) :
    KBinds K fd [y, z] [z, y] (gK two) (gK two) := by
  refine ⟨fun s us ws X hl M A E Q q => ?_, fun {vs us zs ws} r rz => ?_⟩
  · obtain ⟨oc, od, kV, doc, pm, an, cdv, ct, osl, rfl, _⟩ := F.ex
    cases us with
    | cons _ _ => exact absurd hl (by show 0 ≠ 2; decide)
    | nil =>
      match ws, hl, q with
      | [], hl, q => exact absurd hl (by show 0 ≠ 2; decide)
      | [_], hl, q => exact absurd hl (by show 0 ≠ 2; decide)
      | [u, v], _, q =>
        show wpAny M A (bindArgs _ ⟨[], [(z, u), (y, v)]⟩) Q E s
        rw [h]
        exact wpAny_pure q
      | _ :: _ :: _ :: _, hl, q => exact absurd hl (by show 0 ≠ 2; decide)
  · cases r with
    | cons _ _ => exact .nil
    | nil =>
      cases rz with
      | nil => exact .nil
      | cons a r => cases r with
        | nil => exact .nil
        | cons b r => cases r with
          | nil => exact .cons b (.cons a .nil)
          | cons _ _ => exact .nil
/-- what the law's most makes of a lambda that is refused by the class at C -/
def TMost (C : Addr) (nm : Str) : (XK → Hp → VK → Prop) → Hp → VK → Prop := fun tl H Q =>
  tl (fun cls d H' => cls = .ref C ∧ ∃ (dd : Addr) (v : V), d = some dd ∧ H' dd = some (.xd [(("most" : Str), v), (("word" : Str), .str nm)]) ∧ ∀ p, H' p = none → Q (.ref p) (upd H' p (.lst [.str nm, v]))) H (fun _ _ => False)
end WB
namespace WB
open PySem PySem.Spec PyProof.Rows L2
/-! ### lambdas that are kept in a list -/
abbrev lamO (X : Cx) (params : Arguments) (body : Expr) (scope : Scope) (pm : Value) (c' : Addr) (ctv : Value) : Obj := PySem.W.kla_obj "<lambda>" (X.env.qual ++ "<lambda>") params body scope (cloFrom X.env.cells scope.names []) pm c' ctv
section
variable {X : Cx} {pins : List (Addr × Obj)} {σ : L2.St} {H : Hp} {s : Shared}
theorem inv_pin (I : Inv X pins σ H s) (hst : X.stack = X.env :: X.outer) (hfm : X.env.frame = some X.env.locals) {f : Addr} {o : Obj} (hf : s.heap.get? f = some o) (hn : H f = none) (hfr : f ∉ frs X.stack) (hd : ∀ v, o.data ≠ .cell v) : Inv X (pins ++ [(f, o)]) σ H s := by
  have nL : f ≠ X.env.locals := fun y => hfr (List.mem_filterMap.mpr ⟨X.env, by rw [hst]; exact List.mem_cons_self, hfm.trans (congrArg some y.symm)⟩)
  have nF : f ∉ X.fs := fun hm => by
    obtain ⟨e, he, y⟩ := List.mem_filterMap.mp hm
    exact hfr (List.mem_filterMap.mpr ⟨e, by rw [hst]; exact List.mem_cons_of_mem _ he, y⟩)
  refine { I with pin := fun p hp => ?_ }
  rcases List.mem_append.mp hp with h | h
  · exact I.pin p (List.mem_append_left _ h)
  rcases List.mem_append.mp h with h | h
  · exact I.pin p (List.mem_append_right _ h)
  · rw [List.mem_singleton.mp h]
    exact ⟨hf, hn, nL, nF, hd⟩
theorem inv_unpin {l : List (Addr × Obj)} (I : Inv X (pins ++ l) σ H s) : Inv X pins σ H s := by
  refine { I with pin := fun p hp => I.pin p ?_ }
  rcases List.mem_append.mp hp with h | h
  · exact List.mem_append_left _ h
  · exact List.mem_append_right _ (List.mem_append_left _ h)
end
section
variable {X : Cx} {T : List (Addr × Str)} {c P : Addr} {params : Arguments} {body : Expr} {scope : Scope} {lpos lp py pos : Pos} {y : Str} {i : Nat} {rest : List Stmt} {u : Addr → Addr → TS}
theorem sp_back {X : Cx} {pins l : List (Addr × Obj)} {D : Ends} {fl : Flow} {s : Shared} (kk : Cx.Ok X) (h : SP (X.tr (X.pn ++ (pins ++ l)) X.xe) [] D fl s) : SP X pins D fl s := by
  cases fl with
  | next => obtain ⟨τ, G, J, q⟩ := h; exact ⟨τ, G, inv_unpin (J.ofTry kk), q⟩
  | brk => obtain ⟨τ, G, J, q⟩ := h; exact ⟨τ, G, inv_unpin (J.ofTry kk), q⟩
  | cont => obtain ⟨τ, G, J, q⟩ := h; exact ⟨τ, G, inv_unpin (J.ofTry kk), q⟩
  | ret u => obtain ⟨v, τ, G, J, r, q⟩ := h; exact ⟨v, τ, G, inv_unpin (J.ofTry kk), r, q⟩
/-- xs = [lambda: e] -/
theorem pss_lamset {q : Str} (hq : X.env.qual ++ "<lambda>" = q) (hst : X.stack = X.env :: X.outer) (hfm : X.env.frame = some X.env.locals) (hN : X.N.Nodup) (hi : X.N[i]? = some y) (hy : Loc X.env.scope y) (TB : LamX.TabB X.base X.mg c P) (hcode : X.env.code = .ref c) (hmT : (P, X.env.qual ++ "<lambda>") ∈ T)
    (hu : ∀ p ∈ T, p.1 = P → p.2 = X.env.qual ++ "<lambda>") (L : LamX.LamS X.env.scope scope) (hdef : defaultsOf params X.env = ([], []))
    (hrest : ∀ (f c' : Addr) (pm ctv : Value) (pn' : List (Addr × Obj)), f ∉ frs X.stack → (f, lamO X params body scope pm c' ctv) ∈ pn' → (∀ p ∈ X.pn, p ∈ pn') → PSs (X.tr pn' X.xe) rest (u f c'))
    (hs : swapsWith (.List [.Lambda params body scope lpos] lp) (some (.Name y py)) pos.line X.env = pure false := by rfl) (hl : X.fn y = true ∨ X.env.scope.names.lookup y = some .local := by first | exact .inr rfl | exact .inl rfl) :
    PSs X (.Assign [.Name y py] (.List [.Lambda params body scope lpos] lp) pos :: rest)
      (fun D σ H => LamX.Tabs T H ∧ ∀ (f c' : Addr) (H1 : Hp), LamX.ExtN H H1 → LamX.Tabs T H1 → H1 f = none → H1 c' = some (LamX.CodeO c' q) → ∀ p, H1 p = none → u f c' D (σ.set i (some (.ref p))) (upd H1 p (.lst [.ref f]))) := by
  refine ⟨fun pins s σ H D I h => ?_⟩
  subst hq
  obtain ⟨hT, h⟩ := h
  have kk := I.ok
  refine wpAny_execs_cons (wpAny_Assign_Name (wpAny_List_spliced ?_) hs)
  show wpAny _ _ (spliced [(false, _)]) _ _ _
  refine Calls.spliced_cons (LamX.lam_make2 I TB hcode hmT hu hT hdef (L.has I.ok) fun f c' pm ctv H1 s' I1 eN T1 hf hfn hfr hco => Calls.spliced_nil ⟨(by show 1 ≤ sizeLine; decide), ?_⟩)
  have I2 := inv_pin I1 hst hfm hf hfn hfr (fun v z => by cases z)
  have hfresh := I2.hok.fresh (Nat.le_refl s'.heap.objs.size)
  have I3 : Inv X (pins ++ [(f, lamO X params body scope pm c' ctv)]) σ (upd H1 s'.heap.objs.size (.lst [.ref f])) { s' with heap := s'.heap.push { cls := .type "list", data := .seq (List.toArray [Value.ref f]) } } :=
    I2.laid (t' := s'.toks) (fun b w e => Heap.get?_push_of_some _ e) (Nat.le_refl _) ⟨(by show 1 ≤ sizeLine; decide), [Value.ref f], 0, .cons rfl .nil, Heap.get?_push_size s'.heap rfl⟩
  refine store_ok (v := .ref s'.heap.objs.size) I3 hN hi hy rfl (fun s2 I4 => ?_) hl
  have kr := (hrest f c' pm ctv (X.pn ++ (pins ++ [(f, lamO X params body scope pm c' ctv)])) hfr (List.mem_append_right _ (List.mem_append_right _ (.head _))) (fun p hp => List.mem_append_left _ hp)).run [] s2 _ _ D (I4.toTry X.xe) (h f c' H1 eN T1 hfn hco _ hfresh)
  exact wpAny_mono kr (fun fl z hsp => sp_back kk hsp) (fun _ _ y => y)
variable {p1 p2 p3 p4 : Pos}
/-- xs.append(lambda: e) -/
theorem pss_lamapp {q : Str} (hq : X.env.qual ++ "<lambda>" = q) (hst : X.stack = X.env :: X.outer) (hfm : X.env.frame = some X.env.locals) (hv : PE X (.Name y p1) (tVar i)) (TB : LamX.TabB X.base X.mg c P) (hcode : X.env.code = .ref c) (hmT : (P, X.env.qual ++ "<lambda>") ∈ T)
    (hu : ∀ p ∈ T, p.1 = P → p.2 = X.env.qual ++ "<lambda>") (L : LamX.LamS X.env.scope scope) (hdef : defaultsOf params X.env = ([], []))
    (hrest : ∀ (f c' : Addr) (pm ctv : Value) (pn' : List (Addr × Obj)), f ∉ frs X.stack → (f, lamO X params body scope pm c' ctv) ∈ pn' → (∀ p ∈ X.pn, p ∈ pn') → PSs (X.tr pn' X.xe) rest (u f c'))
    (hbase : attributeBase (.Name y p1) "append" X.env (eval (.Name y p1) X.env) = eval (.Name y p1) X.env := by rfl) (hline : (p2.endLine == p3.line) = true := by rfl)
    (hs : swapsWith (.Call (.Attribute (.Name y p1) "append" p2) [.Lambda params body scope lpos] [] p3) none p4.line X.env = pure false := by rfl) :
    PSs X (.Expr (.Call (.Attribute (.Name y p1) "append" p2) [.Lambda params body scope lpos] [] p3) p4 :: rest)
      (fun D σ H => LamX.Tabs T H ∧ ∃ p xs, σ[i]? = some (some (.ref p)) ∧ H p = some (.lst xs) ∧ xs.length < sizeLine ∧ ∀ (f c' : Addr) (H1 : Hp), LamX.ExtN H H1 → LamX.Tabs T H1 → H1 f = none → H1 c' = some (LamX.CodeO c' q) → u f c' D σ (upd H1 p (.lst (xs ++ [.ref f])))) := by
  refine ⟨fun pins s σ H D I h => ?_⟩
  subst hq
  obtain ⟨hT, p, xs, hσ, hp, hz, h⟩ := h
  have kk := I.ok
  refine wpAny_execs_cons (wpAny_Expr_any ?_ I.quiet hs)
  refine wpAny_Call_method_late (trees := [(false, _)]) hbase (by rfl) hline rfl (thn (hv.run pins s σ H (fun x H1 => x = .ref p ∧ H1 = H) I ⟨_, hσ, rfl, rfl⟩) fun v s1 x => ?_)
  obtain ⟨x, H1, I1, r1, rfl, rfl⟩ := x
  obtain ⟨h1, h2⟩ := tyV_is (T := "list") I1 r1 (.inl ⟨rfl, xs, SqL.of hp⟩)
  refine ⟨"list", "list.append", PySem.F.plainAttrs_list, PySem.F.slot_list_append, PySem.F.type_list_append, h1, h2, ?_⟩
  refine Calls.callWith_builtin (by rfl) (Calls.evalArgs_plain ?_)
  refine Calls.spliced_cons (LamX.lam_make2 I1 TB hcode hmT hu hT hdef (L.has I1.ok) fun f c' pm ctv H2 s' I2 eN T2 hf hfn hfr hco => Calls.spliced_nil ?_)
  have I3 := inv_pin I2 hst hfm hf hfn hfr (fun v z => by cases z)
  have hp2 := eN _ _ hp (fun ps z => by cases z)
  refine thn (mt_append (X := X) (pins ++ [(f, lamO X params body scope pm c' ctv)]) s' σ H2 (.ref p) [.ref f] v [Value.ref f] (fun v H' => H' = upd H2 p (.lst (xs ++ [.ref f]))) I3 r1 (.cons rfl .nil) ⟨p, xs, .ref f, rfl, rfl, hp2, hz, rfl⟩) fun w s2 x => ?_
  obtain ⟨w', H', I4, r4, rfl⟩ := x
  have kr := (hrest f c' pm ctv (X.pn ++ (pins ++ [(f, lamO X params body scope pm c' ctv)])) hfr (List.mem_append_right _ (List.mem_append_right _ (.head _))) (fun p hp => List.mem_append_left _ hp)).run [] s2 _ _ D (I4.toTry X.xe) (h f c' H2 eN T2 hfn hco)
  exact wpAny_mono kr (fun fl z hsp => sp_back kk hsp) (fun _ _ y => y)
end
section
variable {X : Cx} {TT : (XK → Hp → VK → Prop) → Hp → VK → Prop} {x a : Str} {g f c' : Addr} {k : Nat} {pg : Arguments} {bg : List Stmt} {sg : Scope} {dV kV doc pm cdv ct oc pm' ctv : Value} {an od : Option Addr} {osl : Array (Option Value)} {Ng : List Str}
  {params : Arguments} {body ea : Expr} {scope : Scope} {t : XK → TE} {p pos : Pos} {j : Nat}
/-- g(x), where x is a lambda that was kept -/
theorem pe_actname {q : Str} (hq : X.env.qual ++ "<lambda>" = q) (hpin : (f, lamO X params body scope pm' c' ctv) ∈ X.pn) (hfr : f ∉ frs X.stack) (hg : Gl X x) (hm : X.mg x = some (.ref g)) (hk : PySem.W.keepIn X.K (.ref g) = true) (lk : X.K.lookup g = some ⟨oc, od, .func (PySem.W.fnOf x x pg bg sg dV kV doc pm an cdv ct), osl⟩)
    (hcg : PySem.W.codeIn X.K cdv x = true) (hb : L2.Binds X.K (PySem.W.fnOf x x pg bg sg dV kV doc pm an cdv ct) [a] []) (Sg : FnScope Ng [a] sg) (hNg : Ng[0]? = some a) (hva : Vis sg a) (hG : LamX.GivesTo X Ng x sg g cdv bg a (X.env.qual ++ "<lambda>") TT)
    (hr : Room (k + 2) X.A) (L : LamX.LamS X.env.scope scope) (hbind : ∀ (q : Str) (cl : List (Str × Addr)) (pm cv ctv : Value), bindArgs (PySem.W.kla_fn "<lambda>" q params body scope cl pm cv ctv) ⟨[], []⟩ = pure [])
    (hbody : ∀ (A : Around) (outer : List Env) (s : Shared) (H : Hp) (E : XK) (f c' : Addr), Room k (A.deeper (LamX.lamEnv X scope s.heap.objs.size f c')) → PE (LamX.lamCx X A outer s H E scope f c') body (t E)) (ha : PE X ea (tVar j))
    (hdb : (x == ("__debug__" : Str)) = false := by decide) (hd : (a == ("__debug__" : Str)) = false := by decide) (hcd : (a == ("__classdict__" : Str)) = false := by decide)
    (he : starEach [ea] X.env = (false, eval ea X.env) :: starEach [] X.env := by rfl) (hpl : (backTo pos (starEach [] X.env)).any (·.1) = false := by rfl) :
    PE X (.Call (.Name x p) [ea] [] pos) (fun σ H Q => σ[j]? = some (some (.ref f)) ∧ H c' = some (LamX.CodeO c' q) ∧ TT (fun E H' Q' => t E σ H' Q') H Q) := by
  refine ⟨fun pins s σ H Q I h => wpAny_Call_Name_kw (ld_glob I hg hm (PySem.W.callWith_K I.ok.mod.kin hk ?_ he hpl) hdb)⟩
  subst hq
  obtain ⟨hσ, hco, hT⟩ := h
  refine thn ((pa_cons ha pa_nil he).run pos pins s σ H (fun vs H1 => vs = [.ref f] ∧ H1 = H) I ⟨_, hσ, rfl, rfl⟩) fun us s1 y => ?_
  obtain ⟨vs, H1, I1, r1, rfl, rfl⟩ := y
  obtain ⟨w, rfl, rw_⟩ := r1.one
  have rw2 : w = Value.ref f := rw_
  subst rw2
  refine ⟨I1.kIn, ?_⟩
  obtain ⟨hf, hfn, _⟩ := I1.pin _ (List.mem_append_left _ hpin)
  have rc := LamX.run_ofS (CX := C8.CX0) (E := C8.E0) (Q := Q) lk hcg Sg hr I1.env0 (hb s1 [Value.ref f] I1.kIn rfl) (show Vals [V.ref f] [Value.ref f] from .cons rfl .nil) rfl (fun hr' => by
    obtain ⟨t', ht', hq'⟩ := hG f c' s1 H1 Q (fun E H' Q' => t E σ H' Q') (fun W pn xe E p1 p2 tk hW => LamX.pe_act I1 L hf hfn hfr (hbind _ _ _ _ _) tk hW hr' (fun A outer s H hr2 => hbody A outer s H E f c' hr2) hNg hva hd hcd) hco hT
    exact ⟨t', ht'.nox, hq'⟩)
  refine wpAny_call (codeAny_mono rc fun r s2 hq => ?_)
  cases r with
  | error e => exact (show False from hq).elim
  | ok fl =>
    cases fl with
    | next => exact (show False from hq).elim
    | brk => exact (show False from hq).elim
    | cont => exact (show False from hq).elim
    | ret u => exact I1.after hq
theorem pe_or2 {X : Cx} {e : Expr} {t u : TE} (h1 : PE X e t) (h2 : PE X e u) : PE X e (fun σ H Q => t σ H Q ∨ u σ H Q) := ⟨fun pins s σ H Q I h => h.elim (fun h => h1.run pins s σ H Q I h) (fun h => h2.run pins s σ H Q I h)⟩
end
end WB
namespace WB
open PySem PySem.Spec PyProof.Rows L2
/-! ### objects: fields, methods, new ones -/
section
variable {X : Cx} (K : PySem.W.Frag) {e o value : Expr} {f : Str} {pos pos' tpos : Pos} {ta tv : TE} {op : Operator} {rd : V → V → Hp → VK → Prop}
theorem pe_fldK (h : X.K = K) (he : PE X e ta) (hb : attributeBase e f X.env (eval e X.env) = eval e X.env := by rfl) : PE X (.Attribute e f pos) (tFld K ta f) := by subst h; exact pe_fld he hb
theorem ps_fldK (h : X.K = K) (ho : PE X o ta) (hv : PE X value tv) (hs : swapsWith value (some (.Attribute o f pos')) pos.line X.env = pure false := by rfl) : PS X (.Assign [.Attribute o f pos'] value pos) (sFld K ta tv f) := by subst h; exact ps_fld ho hv hs
theorem ps_fldaugK (h : X.K = K) (ho : PE X o ta) (hv : PE X value tv) (hop : InOp X op rd) : PS X (.AugAssign (.Attribute o f tpos) op value pos) (sFldAug K ta tv rd f) := by subst h; exact ps_fldaug ho hv hop
def rTupK (K : PySem.W.Frag) : List V → Hp → VK → Prop := fun xs H Q => ∃ p ys, xs = [.ref p] ∧ ((SqL K H p ys ∧ ∀ l, H l = none → Q (.ref l) (upd H l (.tup ys))) ∨ (SqT K H p ys ∧ Q (.ref p) H))
theorem call_tupleK (h : X.K = K) : CallR X (.type "tuple") (rTupK K) := by subst h; exact call_tuple_of
end
/-- a method of the class at C -/
def CalM (CX : CXT) (P : Program) (w : World) (K : PySem.W.Frag) (mg : Str → Option Value) (base : Heap) (k : Nat) (C : Addr) (m : Str) (ps : List Str) (sp : Sp) : Prop :=
  ∃ (f : Addr) (fd : FuncData), Cls K C ∧ Meth K C m f ∧ FnOk P w K mg base CX k f fd ps sp ∧ Binds K fd ps []
theorem CalM.mono {CX : CXT} {P : Program} {w : World} {K : PySem.W.Frag} {mg : Str → Option Value} {base : Heap} {j k : Nat} {C : Addr} {m : Str} {ps : List Str} {sp : Sp} (c : CalM CX P w K mg base j C m ps sp) (h : j ≤ k) : CalM CX P w K mg base k C m ps sp := by
  obtain ⟨f, fd, a, b, d, e⟩ := c
  exact ⟨f, fd, a, b, d.mono h, e⟩
/-- new things of the class at C -/
def CalN (P : Program) (w : World) (K : PySem.W.Frag) (mg : Str → Option Value) (base : Heap) (k : Nat) (nm : Str) (C : Addr) (ps : List Str) (sp : Sp) : Prop :=
  ∃ (f : Addr) (fd : FuncData), Mk K C f ∧ FnOk P w K mg base CX0 k f fd ps sp ∧ mg nm = some (.ref C) ∧ Binds K fd ps []
theorem CalN.mono {P : Program} {w : World} {K : PySem.W.Frag} {mg : Str → Option Value} {base : Heap} {j k : Nat} {nm : Str} {C : Addr} {ps : List Str} {sp : Sp} (c : CalN P w K mg base j nm C ps sp) (h : j ≤ k) : CalN P w K mg base k nm C ps sp := by
  obtain ⟨f, fd, a, b, d, e⟩ := c
  exact ⟨f, fd, a, b.mono h, d, e⟩
section
variable {X : Cx} {k : Nat} {C : Addr} {m nm : Str} {ps : List Str} {sp : Sp} {E : XK} {pos apos p : Pos} {e o : Expr} {es : List Expr} {ta : TE} {t : TA} {pl : Sem Bool}
theorem pe_methC (ho : PE X o ta) (c : CalM CX0 X.prog X.w X.K X.mg X.base k C m ps sp) (hr : Room k X.A) (ha : PA X (e :: es) t) (hs : starEach (e :: es) X.env = (false, eval e X.env) :: starEach es X.env := by rfl) (hpl : (backTo pos (starEach es X.env)).any (·.1) = false := by rfl)
    (hc : eval (.Call (.Attribute o m apos) (e :: es) [] pos) X.env = (do
      let ov ← eval o X.env
      standAt apos.atName
      let (f, first) ← holding [ov] (getMethod ov m pl)
      callWith pos f first (backTo pos (starEach (e :: es) X.env)) (backToKw pos (keywordEach [] X.env))) := by rfl) : PE X (.Call (.Attribute o m apos) (e :: es) [] pos) (tMeth C m sp [] E0 ta t) := by
  obtain ⟨f, fd, a, b, d, g⟩ := c
  exact pe_meth ho a b d hr g .nil pass0 ha hs hpl hc
theorem pe_methC0 (ho : PE X o ta) (c : CalM CX0 X.prog X.w X.K X.mg X.base k C m ps sp) (hr : Room k X.A)
    (hc : eval (.Call (.Attribute o m apos) [] [] pos) X.env = (do
      let ov ← eval o X.env
      standAt apos.atName
      let (f, first) ← holding [ov] (getMethod ov m pl)
      callWith pos f first (backTo pos (starEach [] X.env)) (backToKw pos (keywordEach [] X.env))) := by rfl) : PE X (.Call (.Attribute o m apos) [] [] pos) (tMeth C m sp [] E0 ta tNil) := by
  obtain ⟨f, fd, a, b, d, g⟩ := c
  exact pe_meth0 ho a b d hr g .nil pass0 hc
/-- a method that may let an exception out, where it lets out none -/
theorem pe_methF (ho : PE X o ta) (c : CalM (L2.CX X.prog X.w) X.prog X.w X.K X.mg X.base k C m ps sp) (hr : Room k X.A) (ha : PA X (e :: es) t) (hs : starEach (e :: es) X.env = (false, eval e X.env) :: starEach es X.env := by rfl) (hpl : (backTo pos (starEach es X.env)).any (·.1) = false := by rfl)
    (hc : eval (.Call (.Attribute o m apos) (e :: es) [] pos) X.env = (do
      let ov ← eval o X.env
      standAt apos.atName
      let (f, first) ← holding [ov] (getMethod ov m pl)
      callWith pos f first (backTo pos (starEach (e :: es) X.env)) (backToKw pos (keywordEach [] X.env))) := by rfl) : PE X (.Call (.Attribute o m apos) (e :: es) [] pos) (tMeth C m sp [] E0 ta t) := by
  obtain ⟨f, fd, a, b, d, g⟩ := c
  exact pe_meth ho a b d hr g .nil passL ha hs hpl hc
theorem pe_methP (ho : PE X o ta) (c : CalM (L2.CX X.prog X.w) X.prog X.w X.K X.mg X.base k C m ps sp) (hr : Room k X.A) (hx : Passes (L2.CX X.prog X.w) X E) (ha : PA X (e :: es) t) (hs : starEach (e :: es) X.env = (false, eval e X.env) :: starEach es X.env := by rfl) (hpl : (backTo pos (starEach es X.env)).any (·.1) = false := by rfl)
    (hc : eval (.Call (.Attribute o m apos) (e :: es) [] pos) X.env = (do
      let ov ← eval o X.env
      standAt apos.atName
      let (f, first) ← holding [ov] (getMethod ov m pl)
      callWith pos f first (backTo pos (starEach (e :: es) X.env)) (backToKw pos (keywordEach [] X.env))) := by rfl) : PE X (.Call (.Attribute o m apos) (e :: es) [] pos) (tMeth C m sp [] E ta t) := by
  obtain ⟨f, fd, a, b, d, g⟩ := c
  exact pe_meth ho a b d hr g .nil hx ha hs hpl hc
theorem pe_makeC0 (c : CalN X.prog X.w X.K X.mg X.base k nm C ps sp) (hr : Room (k + 1) X.A) (hg : Gl X nm) (hdb : (nm == ("__debug__" : Str)) = false := by decide) : PE X (.Call (.Name nm p) [] [] pos) (tMake C sp [] E0 tNil) := by
  obtain ⟨f, fd, a, b, d, g⟩ := c
  exact pe_make0 a b hr hg d g .nil pass0 hdb
end
/-! ### heaps that keep their lists -/
/-- lists, tuples and what is held still stay -/
def Lk (H H' : Hp) : Prop := ∀ a o, H a = some o → (∃ xs, o = .lst xs) ∨ (∃ xs, o = .tup xs) ∨ (∃ u v, o = .frz u v) → H' a = some o
section
variable {K : PySem.W.Frag}
theorem lk_l {H H' : Hp} {a : Addr} {xs : List V} (e : Lk H H') (h : SqL K H a xs) : SqL K H' a xs := by
  rcases h with (h | ⟨o, h⟩) | h
  · exact .inl (.inl (e _ _ h (.inl ⟨_, rfl⟩)))
  · exact .inl (.inr ⟨o, e _ _ h (.inr (.inr ⟨_, _, rfl⟩))⟩)
  · exact .inr h
theorem lk_t {H H' : Hp} {a : Addr} {xs : List V} (e : Lk H H') (h : SqT K H a xs) : SqT K H' a xs := by
  rcases h with (h | ⟨o, h⟩) | h
  · exact .inl (.inl (e _ _ h (.inr (.inl ⟨_, rfl⟩))))
  · exact .inl (.inr ⟨o, e _ _ h (.inr (.inr ⟨_, _, rfl⟩))⟩)
  · exact .inr h
mutual
theorem dp_lk {H H' : Hp} (e : Lk H H') : ∀ {d : PyData} {x : V}, Dp K H x d → Dp K H' x d
  | _, _, .non => .non
  | _, _, .bl b => .bl b
  | _, _, .int i => .int i
  | _, _, .str s => .str s
  | _, _, .lst hs ha => .lst (lk_l e hs) (dpa_lk e ha)
  | _, _, .tup hs ha => .tup (lk_t e hs) (dpa_lk e ha)
theorem dpa_lk {H H' : Hp} (e : Lk H H') : ∀ {ds : List PyData} {xs : List V}, DpAll K H xs ds → DpAll K H' xs ds
  | _, _, .nil => .nil
  | _, _, .cons h t => .cons (dp_lk e h) (dpa_lk e t)
end
theorem lk_mv {b : Addr} {H H' : Hp} (m : Mv b H H') (h : ∀ o, H b = some o → ¬ ((∃ xs, o = .lst xs) ∨ (∃ xs, o = .tup xs) ∨ (∃ u v, o = .frz u v))) : Lk H H' := fun a o e k => m a o (fun z => by subst z; exact h o e k) e
theorem lk_same {H H' : Hp} (s : Same H H') : Lk H H' := fun a o e _ => s a o e
end
end WB
namespace WB
open PySem PySem.Spec PyProof.Rows L2
/-! ### things that stand apart in the heap -/
/-- all but what stands at F stays, and nothing vanishes -/
structure MvF (F : List Addr) (H H' : Hp) : Prop where
  kp : ∀ a o, a ∉ F → H a = some o → H' a = some o
  al : ∀ a, H' a = none → H a = none
theorem al_same {H H' : Hp} (s : Same H H') : ∀ a, H' a = none → H a = none := fun _ h => s.free h
theorem al_upd {H H' : Hp} {p : Addr} {o : HO} (s : ∀ a, H' a = none → H a = none) : ∀ a, upd H' p o a = none → H a = none := fun a h => by
  by_cases z : a = p
  · rw [z, upd_same] at h
    cases h
  · rw [upd_ne z] at h
    exact s a h
theorem al_mv {H H' : Hp} {p : Addr} {o : HO} (m : Mv p H H') (e : H' p = some o) : ∀ a, H' a = none → H a = none := fun a h => by
  by_cases z : a = p
  · rw [z, e] at h
    cases h
  · exact m.none z h
section
variable {F : List Addr} {H H' H1 H2 : Hp}
theorem MvF.refl (F : List Addr) (H : Hp) : MvF F H H := ⟨fun _ _ _ h => h, fun _ h => h⟩
theorem MvF.of (s : Same H H') : MvF F H H' := ⟨fun a o _ h => s a o h, al_same s⟩
theorem MvF.mv {p : Addr} {o : HO} (m : Mv p H H') (e : H' p = some o) (hp : p ∈ F) : MvF F H H' := ⟨fun a u n h => m a u (fun z => n (z ▸ hp)) h, al_mv m e⟩
theorem MvF.trans (m : MvF F H H1) (m' : MvF F H1 H2) : MvF F H H2 := ⟨fun a o n h => m'.kp a o n (m.kp a o n h), fun a h => m.al a (m'.al a h)⟩
theorem MvF.upd {p : Addr} {o : HO} (m : MvF F H H') (hp : p ∈ F) : MvF F H (L2.upd H' p o) := ⟨fun a u n h => by rw [upd_ne (fun z : a = p => n (by rw [z]; exact hp))]; exact m.kp a u n h, al_upd m.al⟩
theorem MvF.wide {G : List Addr} (m : MvF F H H') (h : ∀ a ∈ F, a ∈ G) : MvF G H H' := ⟨fun a o n e => m.kp a o (fun z => n (h a z)) e, m.al⟩
/-- where the second one's places are the first one's, or new -/
theorem MvF.trans2 {G : List Addr} (m : MvF F H H1) (m' : MvF G H1 H2) (hg : ∀ a ∈ G, a ∈ F ∨ H a = none) : MvF F H H2 := by
  refine ⟨fun a o n e => m'.kp a o (fun z => ?_) (m.kp a o n e), fun a h => m.al a (m'.al a h)⟩
  rcases hg a z with y | y
  · exact n y
  · rw [y] at e
    cases e
theorem MvF.same (m : MvF F H H') (s : Same H' H1) : MvF F H H1 := m.trans (.of s)
theorem MvF.new (m : MvF F H H') {p : Addr} {o : HO} (n : H' p = none) : MvF F H (L2.upd H' p o) := m.same (same_upd n)
theorem MvF.free (m : MvF F H H') {p : Addr} (h : H' p = none) : H p = none := m.al p h
theorem MvF.toSame (m : MvF [] H H') : Same H H' := fun a o h => m.kp a o List.not_mem_nil h
end
/-- no table of code, no thing of the machine's own -/
def plain : HO → Prop
  | .tbl _ => False
  | .ext _ => False
  | _ => True
structure Th where
  ft : List Addr
  P : Hp → Prop
  loc : ∀ H H' : Hp, (∀ a ∈ ft, ∀ o, H a = some o → H' a = some o) → P H → P H'
  al : ∀ H, P H → ∀ a ∈ ft, ∃ o, H a = some o ∧ plain o
/-- these things stand apart, and the tables of code are as they were -/
structure Hs (T : List (Addr × Str)) (Ts : List Th) (H : Hp) : Prop where
  all : ∀ (i : Nat) (T : Th), Ts[i]? = some T → T.P H
  sep : ∀ (i j : Nat) (x y : Th), i ≠ j → Ts[i]? = some x → Ts[j]? = some y → ∀ a ∈ x.ft, a ∉ y.ft
  tab : LamX.Tabs T H
theorem Th.live (T : Th) {H : Hp} (h : T.P H) {a : Addr} (ha : a ∈ T.ft) : H a ≠ none := by
  obtain ⟨o, e, _⟩ := T.al H h a ha
  rw [e]
  exact fun z => nomatch z
theorem tabs_keep {T : List (Addr × Str)} {H H' : Hp} (t : LamX.Tabs T H) (h : ∀ a o, H a = some o → ¬ plain o → H' a = some o) : LamX.Tabs T H' := fun p hp => by
  obtain ⟨ps, h1, h2, h3⟩ := t p hp
  refine ⟨ps, h _ _ h1 (fun z => z), h2, fun pos cv hc => ?_⟩
  obtain ⟨c, e1, e2⟩ := h3 pos cv hc
  exact ⟨c, e1, h _ _ e2 (fun z => z)⟩
section
variable {T0 : List (Addr × Str)} {Ts Ts' : List Th} {T T' N : Th} {H H' : Hp}
theorem Hs.nil (t : LamX.Tabs T0 H) : Hs T0 [] H := ⟨fun i T h => (by cases h), fun i j x y _ h => (by cases h), t⟩
theorem Hs.nil0 : Hs [] [] H := .nil (fun p hp => absurd hp List.not_mem_nil)
theorem Hs.get (h : Hs T0 Ts H) (i : Nat) (hi : Ts[i]? = some T) : T.P H := h.all i T hi
theorem Hs.same (h : Hs T0 Ts H) (s : Same H H') : Hs T0 Ts H' := ⟨fun i T hi => T.loc H H' (fun a _ o e => s a o e) (h.all i T hi), h.sep, h.tab.ext s⟩
/-- a lambda was made -/
theorem Hs.extN (h : Hs T0 Ts H) (e : LamX.ExtN H H') (t : LamX.Tabs T0 H') : Hs T0 Ts H' := ⟨fun i T hi => T.loc H H' (fun a ha o q => e a o q (fun ps z => by
  obtain ⟨o', e1, e2⟩ := T.al H (h.all i T hi) a ha
  rw [e1] at q
  cases q
  rw [z] at e2
  exact e2)) (h.all i T hi), h.sep, t⟩
theorem Hs.ne (h : Hs T0 Ts H) (i j : Nat) {x y : Th} (hi : Ts[i]? = some x) (hj : Ts[j]? = some y) {a b : Addr} (ha : a ∈ x.ft) (hb : b ∈ y.ft) (n : i ≠ j := by decide) : a ≠ b := fun z => h.sep i j x y n hi hj a ha (z ▸ hb)
theorem Hs.keep (h : Hs T0 Ts H) {i j : Nat} {x : Th} {F : List Addr} (hi : Ts[i]? = some T) (hj : Ts[j]? = some x) (n : j ≠ i) (m : MvF F H H') (hF : ∀ a ∈ F, a ∈ T.ft ∨ H a = none) : x.P H' := by
  refine x.loc H H' (fun a ha o e => m.kp a o (fun z => ?_) e) (h.all j x hj)
  rcases hF a z with y | y
  · exact h.sep j i x T n hj hi a ha y
  · rw [y] at e
    cases e
theorem Hs.op {F : List Addr} (h : Hs T0 Ts H) (i : Nat) (hi : Ts[i]? = some T) (m : MvF F H H') (hF : ∀ a ∈ F, a ∈ T.ft ∨ H a = none) (hp : T'.P H') (hf : ∀ a ∈ T'.ft, a ∈ T.ft ∨ H a = none) : Hs T0 (Ts.set i T') H' := by
  have hil : i < Ts.length := (List.getElem?_eq_some_iff.mp hi).1
  have new : ∀ (j : Nat) (y : Th), j ≠ i → Ts[j]? = some y → ∀ a ∈ T'.ft, a ∉ y.ft := fun j y n hj a ha z => by
    rcases hf a ha with q | q
    · exact h.sep i j T y n.symm hi hj a q z
    · exact y.live (h.all j y hj) z q
  refine ⟨fun j x hj => ?_, fun j k x y n hj hk => ?_, tabs_keep h.tab fun a o e np => m.kp a o (fun z => ?_) e⟩
  · rw [List.getElem?_set] at hj
    by_cases z : i = j
    · rw [if_pos z, if_pos (z ▸ hil)] at hj
      cases hj
      exact hp
    · rw [if_neg z] at hj
      exact h.keep hi hj (fun q => z q.symm) m hF
  · rw [List.getElem?_set] at hj hk
    by_cases z : i = j
    · rw [if_pos z, if_pos (z ▸ hil)] at hj
      rw [if_neg (fun q => n (z.symm.trans q))] at hk
      cases hj
      exact new k y (fun q => n (z.symm.trans q.symm)) hk
    · rw [if_neg z] at hj
      by_cases z2 : i = k
      · rw [if_pos z2, if_pos (z2 ▸ hil)] at hk
        cases hk
        exact fun a ha hb => new j x (fun q => z q.symm) hj a hb ha
      · rw [if_neg z2] at hk
        exact h.sep j k x y n hj hk
  · rcases hF a z with y | y
    · obtain ⟨o', e1, e2⟩ := T.al H (h.all i T hi) a y
      rw [e1] at e
      cases e
      exact np e2
    · rw [y] at e
      cases e
theorem Hs.cons (h : Hs T0 Ts H) (hp : T.P H) (hf : ∀ (j : Nat) (y : Th), Ts[j]? = some y → ∀ a ∈ T.ft, a ∉ y.ft) : Hs T0 (T :: Ts) H := by
  refine ⟨fun j x hj => ?_, fun j k x y n hj hk => ?_, h.tab⟩
  · cases j with
    | zero => cases hj; exact hp
    | succ j => exact h.all j x hj
  · cases j with
    | zero =>
      cases hj
      cases k with
      | zero => exact absurd rfl n
      | succ k => exact hf k y hk
    | succ j =>
      cases k with
      | zero =>
        cases hk
        exact fun a ha hb => hf j x hj a hb ha
      | succ k => exact h.sep j k x y (fun q => n (congrArg (· + 1) q)) hj hk
theorem Hs.new (h : Hs T0 Ts H) (s : Same H H') (hp : T.P H') (hf : ∀ a ∈ T.ft, H a = none) : Hs T0 (T :: Ts) H' :=
  (h.same s).cons hp fun j y hj a ha hb => y.live (h.all j y hj) hb (hf a ha)
/-- a thing changes, and a new one comes -/
theorem Hs.opNew {F : List Addr} (h : Hs T0 Ts H) (i : Nat) (hi : Ts[i]? = some T) (m : MvF F H H') (hF : ∀ a ∈ F, a ∈ T.ft ∨ H a = none) (hp : T'.P H') (hf : ∀ a ∈ T'.ft, a ∈ T.ft ∨ H a = none) (hn : N.P H') (hnf : ∀ a ∈ N.ft, H a = none ∧ a ∉ T'.ft) : Hs T0 (N :: Ts.set i T') H' := by
  refine (h.op i hi m hF hp hf).cons hn fun j y hj a ha hb => ?_
  rw [List.getElem?_set] at hj
  by_cases z : i = j
  · rw [if_pos z, if_pos (z ▸ (List.getElem?_eq_some_iff.mp hi).1)] at hj
    cases hj
    exact (hnf a ha).2 hb
  · rw [if_neg z] at hj
    exact y.live (h.all j y hj) hb (hnf a ha).1
/-- these places of the list, in this order -/
def pickTs (Ts : List Th) : List Nat → List Th
  | [] => []
  | i :: r => match Ts[i]? with
    | some x => x :: pickTs Ts r
    | none => pickTs Ts r
theorem mem_pick : ∀ {is : List Nat} {k : Nat} {x : Th}, (pickTs Ts is)[k]? = some x → ∃ i ∈ is, Ts[i]? = some x
  | [], k, x, h => by cases h
  | i :: r, k, x, h => by
    unfold pickTs at h
    cases e : Ts[i]? with
    | none =>
      rw [e] at h
      obtain ⟨j, hj, q⟩ := mem_pick h
      exact ⟨j, .tail _ hj, q⟩
    | some y =>
      rw [e] at h
      cases k with
      | zero => cases h; exact ⟨i, .head _, e⟩
      | succ k =>
        obtain ⟨j, hj, q⟩ := mem_pick (k := k) h
        exact ⟨j, .tail _ hj, q⟩
theorem Hs.sel (h : Hs T0 Ts H) : ∀ (is : List Nat), is.Nodup → Hs T0 (pickTs Ts is) H
  | [], _ => .nil h.tab
  | i :: r, hn => by
    have hn := List.nodup_cons.mp hn
    have t := h.sel r hn.2
    unfold pickTs
    cases e : Ts[i]? with
    | none => exact t
    | some x =>
      refine t.cons (h.all i x e) fun j y hj => ?_
      obtain ⟨k, hk, q⟩ := mem_pick hj
      exact h.sep i k x y (fun z => hn.1 (z ▸ hk)) e q
theorem Hs.tail {x : Th} (h : Hs T0 (x :: Ts) H) : Hs T0 Ts H := ⟨fun i T hi => h.all (i + 1) T hi, fun i j x y n hi hj => h.sep (i + 1) (j + 1) x y (by omega) hi hj, h.tab⟩
theorem Hs.head {x : Th} (h : Hs T0 (x :: Ts) H) : x.P H := h.all 0 x rfl
theorem Hs.apart {x y : Th} (h : Hs T0 (x :: Ts) H) (hy : y ∈ Ts) : ∀ a ∈ x.ft, a ∉ y.ft := by
  obtain ⟨j, hj⟩ := List.getElem?_of_mem hy
  exact h.sep 0 (j + 1) x y (by omega) rfl hj
theorem Hs.swap {x y : Th} (h : Hs T0 (x :: y :: Ts) H) : Hs T0 (y :: x :: Ts) H :=
  (h.tail.tail.cons h.head fun j z hj => h.apart (.tail _ (List.mem_of_getElem? hj))).cons h.tail.head fun j z hj a ha hb => by
    rcases List.mem_cons.mp (List.mem_of_getElem? hj) with rfl | hm
    · exact h.apart (.head _) a hb ha
    · exact h.tail.apart hm a ha hb
theorem Hs.perm (p : Ts.Perm Ts') : ∀ {H : Hp}, Hs T0 Ts H → Hs T0 Ts' H := by
  induction p with
  | nil => exact fun h => h
  | cons x q ih => exact fun h => (ih h.tail).cons h.head fun j y hj => h.apart (q.mem_iff.mpr (List.mem_of_getElem? hj))
  | swap x y l => exact fun h => h.swap
  | trans _ _ ih1 ih2 => exact fun h => ih2 (ih1 h)
/-- two things seen as one -/
theorem Hs.merge {A B C : Th} (h : Hs T0 (A :: B :: Ts) H) (hp : C.P H) (hf : ∀ a ∈ C.ft, a ∈ A.ft ∨ a ∈ B.ft) : Hs T0 (C :: Ts) H :=
  h.tail.tail.cons hp fun j y hj a ha hb => (hf a ha).elim (fun z => h.apart (.tail _ (List.mem_of_getElem? hj)) a z hb) (fun z => h.tail.apart (List.mem_of_getElem? hj) a z hb)
theorem Hs.drop1 {x y : Th} (h : Hs T0 (x :: y :: Ts) H) : Hs T0 (x :: Ts) H := h.swap.tail
theorem Hs.drop2 {x y z : Th} (h : Hs T0 (x :: y :: z :: Ts) H) : Hs T0 (x :: y :: Ts) H := h.tail.drop1.cons h.head fun j u hj => by
  rcases List.mem_cons.mp (List.mem_of_getElem? hj) with rfl | hm
  · exact h.apart (.head _)
  · exact h.apart (.tail _ (.tail _ hm))
theorem Hs.drop3 {x y z u : Th} (h : Hs T0 (x :: y :: z :: u :: Ts) H) : Hs T0 (x :: y :: z :: Ts) H := h.tail.drop2.cons h.head fun j v hj => by
  rcases List.mem_cons.mp (List.mem_of_getElem? hj) with rfl | hm
  · exact h.apart (.head _)
  rcases List.mem_cons.mp hm with rfl | hm
  · exact h.apart (.tail _ (.head _))
  · exact h.apart (.tail _ (.tail _ (.tail _ hm)))
end
/-! ### the commonest things -/
/-- what stands at a -/
def tO (a : Addr) (o : HO) : Th := ⟨[a], fun H => H a = some o ∧ plain o, fun H H' k h => ⟨k a (.head _) o h.1, h.2⟩, fun H h b hb => by rw [List.mem_singleton.mp hb]; exact ⟨o, h⟩⟩
abbrev tL (a : Addr) (xs : List V) : Th := tO a (.lst xs)
theorem Bag.al {b : Addr × Addr} {H : Hp} (g : Bag b H) : H b.1 ≠ none ∧ H b.2 ≠ none := by
  obtain ⟨ns, i, r, x, c, h1, h2, _⟩ := g
  exact ⟨(by rw [h1]; exact fun z => nomatch z), (by rw [h2]; exact fun z => nomatch z)⟩
def tB (b : Addr × Addr) : Th := ⟨[b.1, b.2], Bag b, fun H H' k h => by
  obtain ⟨ns, i, r, x, c, h1, h2, h3⟩ := h
  exact ⟨ns, i, r, x, c, k _ (.head _) _ h1, k _ (.tail _ (.head _)) _ h2, h3⟩, fun H h a ha => by
  obtain ⟨ns, i, r, x, c, h1, h2, h3⟩ := h
  rcases List.mem_cons.mp ha with rfl | ha
  · exact ⟨_, h1, trivial⟩
  · rw [List.mem_singleton.mp ha]
    exact ⟨_, h2, trivial⟩⟩
theorem in1 {a p : Addr} (h : a ∈ [p]) : a = p := List.mem_singleton.mp h
section
variable {T0 : List (Addr × Str)} {b : Addr × Addr} {Ts : List Th} {H H' : Hp} {p : Addr} {o o' : HO}
theorem Hs.bag (h : Hs T0 (tB b :: Ts) H) : Bag b H := h.get 0 rfl
theorem mvf_bag (m : Mv b.1 H H') (g : Bag b H') : MvF [b.1, b.2] H H' := by
  obtain ⟨ns, i, r, x, c, h1, h2, h3⟩ := g
  exact .mv m h1 (.head _)
theorem Hs.mv (h : Hs T0 (tB b :: Ts) H) (m : Mv b.1 H H') (g : Bag b H') : Hs T0 (tB b :: Ts) H' := h.op (T := tB b) (T' := tB b) 0 rfl (mvf_bag m g) (fun a ha => .inl ha) g (fun a ha => .inl ha)
/-- a draw that tells a new thing -/
theorem Hs.newM (h : Hs T0 (tB b :: Ts) H) (m : Mv b.1 H H') (g : Bag b H') (n : H p = none) (e : H' p = some o) (pl : plain o := by exact trivial) : Hs T0 (tB b :: tO p o :: Ts) H' := by
  have h2 : Hs T0 (tO p o :: tB b :: Ts) H' := (h.opNew (T := tB b) (T' := tB b) (N := tO p o) 0 rfl (mvf_bag m g) (fun a ha => .inl ha) g (fun a ha => .inl ha) ⟨e, pl⟩ (fun a ha => by
    rw [in1 ha]
    refine ⟨n, fun z => ?_⟩
    rcases List.mem_cons.mp z with z | z
    · exact (h.bag.al.1) (z ▸ n)
    · exact (h.bag.al.2) (in1 z ▸ n)))
  exact h2.swap
/-- a new thing at the head -/
theorem Hs.newH (h : Hs T0 Ts H) (s : Same H H') (n : H p = none) (e : H' p = some o) (pl : plain o := by exact trivial) : Hs T0 (tO p o :: Ts) H' := h.new (T := tO p o) s ⟨e, pl⟩ (fun a ha => by rw [in1 ha]; exact n)
theorem Hs.newHU (h : Hs T0 Ts H) (n : H p = none) (pl : plain o := by exact trivial) : Hs T0 (tO p o :: Ts) (upd H p o) := h.newH (same_upd n) n upd_same pl
/-- a new thing, put behind the bag -/
theorem Hs.newB (h : Hs T0 (tB b :: Ts) H) (s : Same H H') (n : H p = none) (e : H' p = some o) (pl : plain o := by exact trivial) : Hs T0 (tB b :: tO p o :: Ts) H' := (h.newH s n e pl).swap
theorem Hs.newU (h : Hs T0 (tB b :: Ts) H) (n : H p = none) (pl : plain o := by exact trivial) : Hs T0 (tB b :: tO p o :: Ts) (upd H p o) := h.newB (same_upd n) n upd_same pl
theorem Hs.put (h : Hs T0 Ts H) (i : Nat) (hi : Ts[i]? = some (tO p o)) (pl : plain o' := by exact trivial) : Hs T0 (Ts.set i (tO p o')) (upd H p o') :=
  h.op i hi (F := [p]) ((MvF.refl [p] H).upd (.head _)) (fun a ha => .inl ha) ⟨upd_same, pl⟩ (fun a ha => .inl ha)
theorem Hs.at (h : Hs T0 Ts H) (i : Nat) (hi : Ts[i]? = some (tO p o)) : H p = some o := (h.get i hi).1
end
/-! ### groups: several things seen as one -/
theorem sep_flat {Ts : List Th} {H : Hp} (h : Hs [] Ts H) : ∀ a ∈ Ts.flatMap (·.ft), ∃ o, H a = some o ∧ plain o := fun a ha => by
  obtain ⟨T, hT, ha⟩ := List.mem_flatMap.mp ha
  obtain ⟨i, hi⟩ := List.getElem?_of_mem hT
  exact T.al H (h.all i T hi) a ha
def tG (Ts : List Th) : Th := ⟨Ts.flatMap (·.ft), fun H => Hs [] Ts H, fun H H' k h => ⟨fun i T hi => T.loc H H' (fun a ha => k a (List.mem_flatMap.mpr ⟨T, List.mem_of_getElem? hi, ha⟩)) (h.all i T hi), h.sep, fun p hp => absurd hp List.not_mem_nil⟩, fun H h a ha => sep_flat h a ha⟩
section
variable {T0 : List (Addr × Str)} {Ts Gs : List Th} {H : Hp}
theorem Hs.tabs0 (h : Hs T0 Ts H) : Hs [] Ts H := ⟨h.all, h.sep, fun p hp => absurd hp List.not_mem_nil⟩
theorem Hs.app : ∀ {As : List Th}, Hs [] As H → Hs T0 Ts H → (∀ x ∈ As, ∀ y ∈ Ts, ∀ a ∈ x.ft, a ∉ y.ft) → Hs T0 (As ++ Ts) H
  | [], _, h, _ => h
  | A :: As, g, h, d => (Hs.app g.tail h (fun x hx => d x (.tail _ hx))).cons g.head fun j y hj a ha hb => by
    rcases List.mem_append.mp (List.mem_of_getElem? hj) with hm | hm
    · exact g.apart hm a ha hb
    · exact d A (.head _) y hm a ha hb
theorem Hs.left : ∀ {As : List Th}, Hs T0 (As ++ Ts) H → Hs [] As H
  | [], _ => .nil (fun p hp => absurd hp List.not_mem_nil)
  | A :: As, h => (Hs.left (As := As) h.tail).cons h.head fun j y hj => h.apart (List.mem_append_left _ (List.mem_of_getElem? hj))
theorem Hs.right : ∀ {As : List Th}, Hs T0 (As ++ Ts) H → Hs T0 Ts H
  | [], h => h
  | _ :: As, h => Hs.right (As := As) h.tail
theorem Hs.cross : ∀ {As : List Th}, Hs T0 (As ++ Ts) H → ∀ x ∈ As, ∀ y ∈ Ts, ∀ a ∈ x.ft, a ∉ y.ft
  | A :: As, h, x, hx, y, hy => by
    rcases List.mem_cons.mp hx with rfl | hx
    · exact h.apart (List.mem_append_right _ hy)
    · exact Hs.cross (As := As) h.tail x hx y hy
theorem Hs.ungroup (h : Hs T0 (tG Ts :: Gs) H) : Hs T0 (Ts ++ Gs) H := Hs.app h.head h.tail (fun x hx y hy a ha hb => h.apart hy a (List.mem_flatMap.mpr ⟨x, hx, ha⟩) hb)
theorem Hs.group (h : Hs T0 (Ts ++ Gs) H) : Hs T0 (tG Ts :: Gs) H := h.right.cons h.left fun j y hj a ha hb => by
  obtain ⟨x, hx, ha⟩ := List.mem_flatMap.mp ha
  exact h.cross x hx y (List.mem_of_getElem? hj) a ha hb
end
section
variable {α : Type} {T0 : List (Addr × Str)} {As : List Th} {Y : List α} {f : α → Th} {w : Nat} {y y' : α} {H : Hp}
theorem perm_at : ∀ {Y : List α} {w : Nat} {y : α}, Y[w]? = some y → (y :: Y.eraseIdx w).Perm Y
  | x :: Y, 0, y, h => by cases h; exact .refl _
  | x :: Y, w + 1, y, h => (List.Perm.swap x y _).trans (.cons x (perm_at (Y := Y) (w := w) h))
theorem erase_set : ∀ (Y : List α) (w : Nat) (y : α), (Y.set w y).eraseIdx w = Y.eraseIdx w
  | [], _, _ => rfl
  | x :: Y, 0, y => rfl
  | x :: Y, w + 1, y => congrArg (x :: ·) (erase_set Y w y)
/-- the w-th one to the head -/
theorem Hs.front (h : Hs T0 (As ++ Y.map f) H) (hy : Y[w]? = some y) : Hs T0 (f y :: (As ++ (Y.eraseIdx w).map f)) H := by
  refine h.perm (List.Perm.trans ?_ List.perm_middle)
  exact .append_left As ((perm_at hy).map f).symm
theorem Hs.back (h : Hs T0 (f y' :: (As ++ (Y.eraseIdx w).map f)) H) (hw : w < Y.length) : Hs T0 (As ++ (Y.set w y').map f) H := by
  have hy : (Y.set w y')[w]? = some y' := by rw [List.getElem?_set, if_pos rfl, if_pos hw]
  have := perm_at hy
  rw [erase_set] at this
  refine h.perm (List.Perm.trans List.perm_middle.symm ?_)
  exact .append_left As (this.map f)
end
end WB
namespace WB
open PySem PySem.Spec PyProof.Rows L2
section
variable {X : Cx} (K : PySem.W.Frag)
theorem cr_sumK (h : X.K = K) (hc : X.calm = true) : CallR X (.builtin "sum") (rSum K) := by subst h; exact cr_sum hc
theorem cr_minK (h : X.K = K) (hc : X.calm = true) : CallR X (.builtin "min") (rMin K) := by subst h; exact cr_min hc
theorem cr_maxK (h : X.K = K) (hc : X.calm = true) : CallR X (.builtin "max") (rMax K) := by subst h; exact cr_max hc
end
/-! ### while, by an invariant and a measure -/
def wN (Pv : L2.St → Hp → Prop) (μ : L2.St → Hp → Nat) (m : Nat) : L2.St → Hp → Prop := fun σ H => Pv σ H ∧ μ σ H < m
theorem wN_ok {Pv : L2.St → Hp → Prop} {μ : L2.St → Hp → Nat} {m : Nat} : ∀ σ' H', wN Pv μ m σ' H' → ∃ m', m' < m ∧ m' = μ σ' H' ∧ Pv σ' H' := fun _ _ h => ⟨_, h.2, rfl, h.1⟩
theorem while_w {c : TT} {tb : TS} {D : Ends} {σ : L2.St} {H : Hp} (Pv : L2.St → Hp → Prop) (μ : L2.St → Hp → Nat) (h0 : Pv σ H)
    (hs : ∀ σ H, Pv σ H → c σ H fun b H1 => if b = true then ∃ N : L2.St → Hp → Prop, (∀ σ' H', N σ' H' → ∃ m', m' < μ σ H ∧ m' = μ σ' H' ∧ Pv σ' H') ∧ tb { D with nx := N, ct := N, bk := D.nx } σ H1 else D.nx σ H1) : tWhile c tb D σ H := by
  refine ⟨fun m σ H => m = μ σ H ∧ Pv σ H, ⟨_, rfl, h0⟩, ?_⟩
  rintro m σ H ⟨rfl, p⟩
  exact hs σ H p
/-! ### defs with keyword-only parameters: n written by place, keywords named ks; gV puts them in the parameters' order -/
def CalW (P : Program) (w : World) (K : PySem.W.Frag) (mg : Str → Option Value) (base : Heap) (k : Nat) (nm : Str) (ps : List Str) (n : Nat) (ks : List Str) (gV : List V → List V → List V) (sp : Sp) : Prop :=
  ∃ (f : Addr) (fd : FuncData) (g : List Value → List Value → List Value), FnOk P w K mg base (L2.CX P w) k f fd ps sp ∧ mg nm = some (.ref f) ∧ PySem.W.keepIn K (.ref f) = true ∧ KBn K fd ps n ks g gV
theorem CalW.mono {P : Program} {w : World} {K : PySem.W.Frag} {mg : Str → Option Value} {base : Heap} {j k n : Nat} {nm : Str} {ps ks : List Str} {gV : List V → List V → List V} {sp : Sp} (c : CalW P w K mg base j nm ps n ks gV sp) (h : j ≤ k) : CalW P w K mg base k nm ps n ks gV sp := by
  obtain ⟨f, fd, g, a, b, d, e⟩ := c
  exact ⟨f, fd, g, a.mono h, b, d, e⟩
/-- with the keyword-only ones left out: dvs their values -/
def CalD (P : Program) (w : World) (K : PySem.W.Frag) (mg : Str → Option Value) (base : Heap) (k : Nat) (nm : Str) (ps : List Str) (dvs : List V) (sp : Sp) : Prop :=
  ∃ (f : Addr) (fd : FuncData) (ds : List Value), FnOk P w K mg base (L2.CX P w) k f fd ps sp ∧ mg nm = some (.ref f) ∧ PySem.W.keepIn K (.ref f) = true ∧ Binds K fd ps ds ∧ Vals dvs ds
theorem CalD.mono {P : Program} {w : World} {K : PySem.W.Frag} {mg : Str → Option Value} {base : Heap} {j k : Nat} {nm : Str} {ps : List Str} {dvs : List V} {sp : Sp} (c : CalD P w K mg base j nm ps dvs sp) (h : j ≤ k) : CalD P w K mg base k nm ps dvs sp := by
  obtain ⟨f, fd, g, a, b, d, e⟩ := c
  exact ⟨f, fd, g, a.mono h, b, d, e⟩
/-- new things of the class at C, by keywords -/
def CalNW (P : Program) (w : World) (K : PySem.W.Frag) (mg : Str → Option Value) (base : Heap) (k : Nat) (nm : Str) (C : Addr) (ps ks : List Str) (gV : List V → List V → List V) (sp : Sp) : Prop :=
  ∃ (f : Addr) (fd : FuncData) (g : List Value → List Value → List Value), Mk K C f ∧ FnOk P w K mg base (L2.CX P w) k f fd ps sp ∧ mg nm = some (.ref C) ∧ KBn K fd ps 1 ks g gV
theorem CalNW.mono {P : Program} {w : World} {K : PySem.W.Frag} {mg : Str → Option Value} {base : Heap} {j k : Nat} {nm : Str} {C : Addr} {ps ks : List Str} {gV : List V → List V → List V} {sp : Sp} (c : CalNW P w K mg base j nm C ps ks gV sp) (h : j ≤ k) : CalNW P w K mg base k nm C ps ks gV sp := by
  obtain ⟨f, fd, g, a, b, d, e⟩ := c
  exact ⟨f, fd, g, a, b.mono h, d, e⟩
/-- and with the keyword-only ones left out -/
def CalND (P : Program) (w : World) (K : PySem.W.Frag) (mg : Str → Option Value) (base : Heap) (k : Nat) (nm : Str) (C : Addr) (ps : List Str) (dvs : List V) (sp : Sp) : Prop :=
  ∃ (f : Addr) (fd : FuncData) (ds : List Value), Mk K C f ∧ FnOk P w K mg base (L2.CX P w) k f fd ps sp ∧ mg nm = some (.ref C) ∧ Binds K fd ps ds ∧ Vals dvs ds
theorem CalND.mono {P : Program} {w : World} {K : PySem.W.Frag} {mg : Str → Option Value} {base : Heap} {j k : Nat} {nm : Str} {C : Addr} {ps : List Str} {dvs : List V} {sp : Sp} (c : CalND P w K mg base j nm C ps dvs sp) (h : j ≤ k) : CalND P w K mg base k nm C ps dvs sp := by
  obtain ⟨f, fd, g, a, b, d, e⟩ := c
  exact ⟨f, fd, g, a, b.mono h, d, e⟩
section
variable {X : Cx} {k n : Nat} {C : Addr} {ps ks : List Str} {sp : Sp} {E : XK} {nm : Str} {p pos : Pos} {e : Expr} {es : List Expr} {kws : List Keyword} {t tk : TA} {gV : List V → List V → List V} {dvs : List V}
theorem pe_callW (c : CalW X.prog X.w X.K X.mg X.base k nm ps n ks gV sp) (hr : Room k X.A) (hx : Passes (L2.CX X.prog X.w) X E) (hg : Gl X nm) (ha : PA X (e :: es) t) (hkw : PK X kws tk)
    (hall : (backToKw pos (keywordEach kws X.env)).all (·.1.isSome) = true := by rfl) (hks : (backToKw pos (keywordEach kws X.env)).filterMap (·.1) = ks := by rfl)
    (hdb : (nm == ("__debug__" : Str)) = false := by decide) (he : starEach (e :: es) X.env = (false, eval e X.env) :: starEach es X.env := by rfl)
    (hpl : ((backTo pos (starEach (e :: es) X.env)).any (·.1) || (backToKw pos (keywordEach kws X.env)).any (·.1.isNone)) = false := by rfl) :
    PE X (.Call (.Name nm p) (e :: es) kws pos) (tCallN n ks.length sp gV E t tk) := by
  obtain ⟨f, fd, g, a, b, d, q⟩ := c
  exact pe_callN a hr hg b d q hx ha hkw hall hks hdb he hpl
theorem pe_callWF (c : CalW X.prog X.w X.K X.mg X.base k nm ps n ks gV sp) (hr : Room k X.A) (hg : Gl X nm) (ha : PA X (e :: es) t) (hkw : PK X kws tk)
    (hall : (backToKw pos (keywordEach kws X.env)).all (·.1.isSome) = true := by rfl) (hks : (backToKw pos (keywordEach kws X.env)).filterMap (·.1) = ks := by rfl)
    (hdb : (nm == ("__debug__" : Str)) = false := by decide) (he : starEach (e :: es) X.env = (false, eval e X.env) :: starEach es X.env := by rfl)
    (hpl : ((backTo pos (starEach (e :: es) X.env)).any (·.1) || (backToKw pos (keywordEach kws X.env)).any (·.1.isNone)) = false := by rfl) :
    PE X (.Call (.Name nm p) (e :: es) kws pos) (tCallN n ks.length sp gV E0 t tk) := pe_callW c hr passL hg ha hkw hall hks hdb he hpl
/-- keywords alone -/
theorem pe_callW0 (c : CalW X.prog X.w X.K X.mg X.base k nm ps 0 ks gV sp) (hr : Room k X.A) (hx : Passes (L2.CX X.prog X.w) X E) (hg : Gl X nm) (hkw : PK X kws tk)
    (hall : (backToKw pos (keywordEach kws X.env)).all (·.1.isSome) = true := by rfl) (hks : (backToKw pos (keywordEach kws X.env)).filterMap (·.1) = ks := by rfl) (hdb : (nm == ("__debug__" : Str)) = false := by decide)
    (hpl : ((backTo pos (starEach [] X.env)).any (·.1) || (backToKw pos (keywordEach kws X.env)).any (·.1.isNone)) = false := by rfl) :
    PE X (.Call (.Name nm p) [] kws pos) (tCallN 0 ks.length sp gV E tNil tk) := by
  obtain ⟨f, fd, g, a, b, d, hb⟩ := c
  refine ⟨fun pins s σ H Q I h => wpAny_Call_Name_kw (ld_glob I hg b ?_ hdb)⟩
  refine PySem.W.callWith_KW0 (I.ok.mod.kin) d hall (thn (hkw.run pos pins s σ H _ I h) fun ws s2 x => ?_) hpl
  obtain ⟨zs, H2, I2, rz, l1, l2, q2⟩ := x
  refine ⟨I2.kIn, ?_⟩
  rw [hks]
  exact run_fnN (us := []) (vs := []) a hr hb hx I2 .nil rz rfl l2 q2
theorem pe_callW0F (c : CalW X.prog X.w X.K X.mg X.base k nm ps 0 ks gV sp) (hr : Room k X.A) (hg : Gl X nm) (hkw : PK X kws tk)
    (hall : (backToKw pos (keywordEach kws X.env)).all (·.1.isSome) = true := by rfl) (hks : (backToKw pos (keywordEach kws X.env)).filterMap (·.1) = ks := by rfl) (hdb : (nm == ("__debug__" : Str)) = false := by decide)
    (hpl : ((backTo pos (starEach [] X.env)).any (·.1) || (backToKw pos (keywordEach kws X.env)).any (·.1.isNone)) = false := by rfl) :
    PE X (.Call (.Name nm p) [] kws pos) (tCallN 0 ks.length sp gV E0 tNil tk) := pe_callW0 c hr passL hg hkw hall hks hdb hpl
/-- the keyword-only ones left out -/
theorem pe_callD (c : CalD X.prog X.w X.K X.mg X.base k nm ps dvs sp) (hr : Room k X.A) (hx : Passes (L2.CX X.prog X.w) X E) (hg : Gl X nm) (ha : PA X (e :: es) t) (hdb : (nm == ("__debug__" : Str)) = false := by decide)
    (he : starEach (e :: es) X.env = (false, eval e X.env) :: starEach es X.env := by rfl) (hpl : (backTo pos (starEach es X.env)).any (·.1) = false := by rfl) :
    PE X (.Call (.Name nm p) (e :: es) [] pos) (tCall sp dvs E t) := by
  obtain ⟨f, fd, ds, a, b, d, q, v⟩ := c
  exact pe_call a hr hg b d q v hx ha hdb he hpl
theorem pe_callDF (c : CalD X.prog X.w X.K X.mg X.base k nm ps dvs sp) (hr : Room k X.A) (hg : Gl X nm) (ha : PA X (e :: es) t) (hdb : (nm == ("__debug__" : Str)) = false := by decide)
    (he : starEach (e :: es) X.env = (false, eval e X.env) :: starEach es X.env := by rfl) (hpl : (backTo pos (starEach es X.env)).any (·.1) = false := by rfl) :
    PE X (.Call (.Name nm p) (e :: es) [] pos) (tCall sp dvs E0 t) := pe_callD c hr passL hg ha hdb he hpl
theorem pe_callD0F (c : CalD X.prog X.w X.K X.mg X.base k nm ps dvs sp) (hr : Room k X.A) (hg : Gl X nm) (hdb : (nm == ("__debug__" : Str)) = false := by decide) :
    PE X (.Call (.Name nm p) [] [] pos) (tCall sp dvs E0 tNil) := by
  obtain ⟨f, fd, ds, a, b, d, q, v⟩ := c
  exact pe_call0 a hr hg b d q v passL hdb
theorem pe_makeW (c : CalNW X.prog X.w X.K X.mg X.base k nm C ps ks gV sp) (hr : Room (k + 1) X.A) (hx : Passes (L2.CX X.prog X.w) X E) (hg : Gl X nm) (hkw : PK X kws tk)
    (hall : (backToKw pos (keywordEach kws X.env)).all (·.1.isSome) = true := by rfl) (hks : (backToKw pos (keywordEach kws X.env)).filterMap (·.1) = ks := by rfl) (hdb : (nm == ("__debug__" : Str)) = false := by decide)
    (hpl : ((backTo pos (starEach [] X.env)).any (·.1) || (backToKw pos (keywordEach kws X.env)).any (·.1.isNone)) = false := by rfl) :
    PE X (.Call (.Name nm p) [] kws pos) (tMakeK C 0 ks.length sp gV E tNil tk) := by
  obtain ⟨f, fd, g, a, b, d, hb⟩ := c
  exact pe_makeK0 a b hr hg d hb hx hkw hall hks hdb hpl
theorem pe_makeWF (c : CalNW X.prog X.w X.K X.mg X.base k nm C ps ks gV sp) (hr : Room (k + 1) X.A) (hg : Gl X nm) (hkw : PK X kws tk)
    (hall : (backToKw pos (keywordEach kws X.env)).all (·.1.isSome) = true := by rfl) (hks : (backToKw pos (keywordEach kws X.env)).filterMap (·.1) = ks := by rfl) (hdb : (nm == ("__debug__" : Str)) = false := by decide)
    (hpl : ((backTo pos (starEach [] X.env)).any (·.1) || (backToKw pos (keywordEach kws X.env)).any (·.1.isNone)) = false := by rfl) :
    PE X (.Call (.Name nm p) [] kws pos) (tMakeK C 0 ks.length sp gV E0 tNil tk) := pe_makeW c hr passL hg hkw hall hks hdb hpl
theorem pe_makeDF (c : CalND X.prog X.w X.K X.mg X.base k nm C ps dvs sp) (hr : Room (k + 1) X.A) (hg : Gl X nm) (hdb : (nm == ("__debug__" : Str)) = false := by decide) :
    PE X (.Call (.Name nm p) [] [] pos) (tMake C sp dvs E0 tNil) := by
  obtain ⟨f, fd, ds, a, b, d, hb, v⟩ := c
  exact pe_make0 a b hr hg d hb v passL hdb
end
/-! ### defs as values, called out of a list -/
def tGl (mg : Str → Option Value) (nm : Str) : TE := fun _ H Q => ∀ f, mg nm = some (.ref f) → Q (.ref f) H
def tCall2 (mg : Str → Option Value) (nm1 nm2 : Str) (sp1 sp2 : Sp) (tf : TE) (t : TA) : TE := fun σ H Q => tf σ H fun y H1 => ∃ f, y = .ref f ∧ ((mg nm1 = some (.ref f) ∧ t σ H1 fun vs H2 => sp1 (vs ++ []) H2 Q E0) ∨ (mg nm2 = some (.ref f) ∧ t σ H1 fun vs H2 => sp2 (vs ++ []) H2 Q E0))
section
variable {X : Cx} {k : Nat} {nm nm1 nm2 : Str} {ps ps1 ps2 : List Str} {sp sp1 sp2 : Sp} {fe e : Expr} {es : List Expr} {tf : TE} {t : TA} {p pos : Pos}
theorem pe_gl (c : Cal X.prog X.w X.K X.mg X.base k nm ps sp) (mg : Str → Option Value) (hm : X.mg = mg) (hg : Gl X nm) (hdb : (nm == ("__debug__" : Str)) = false := by decide) : PE X (.Name nm p) (tGl mg nm) := by
  subst hm
  obtain ⟨f, fd, a, b, d, g⟩ := c
  refine ⟨fun pins s σ H Q I h => ?_⟩
  exact (pe_glob (v := .ref f) (pos := p) hg b rfl hdb).run pins s σ H Q I (h f b)
theorem pe_call2 (c1 : Cal X.prog X.w X.K X.mg X.base k nm1 ps1 sp1) (c2 : Cal X.prog X.w X.K X.mg X.base k nm2 ps2 sp2) (mg : Str → Option Value) (hm : X.mg = mg) (hf : PE X fe tf) (hr : Room k X.A) (ha : PA X (e :: es) t)
    (ht : eval (.Call fe (e :: es) [] pos) X.env = (do callWith pos (← eval fe X.env) [] (backTo pos (starEach (e :: es) X.env)) (backToKw pos (keywordEach [] X.env))) := by rfl)
    (he : starEach (e :: es) X.env = (false, eval e X.env) :: starEach es X.env := by rfl) (hpl : (backTo pos (starEach es X.env)).any (·.1) = false := by rfl) : PE X (.Call fe (e :: es) [] pos) (tCall2 mg nm1 nm2 sp1 sp2 tf t) := by
  subst hm
  obtain ⟨f1, fd1, a1, b1, d1, g1⟩ := c1
  obtain ⟨f2, fd2, a2, b2, d2, g2⟩ := c2
  refine ⟨fun pins s σ H Q I h => ?_⟩
  refine Call_ (thn (hf.run pins s σ H _ I h) fun u s1 ⟨y, H1, I1, ry, f, ey, q⟩ => ?_) ht
  subst ey
  obtain rfl : u = Value.ref f := ry
  rcases q with ⟨m, q⟩ | ⟨m, q⟩
  · obtain rfl : f1 = f := by
      rw [b1] at m
      cases m
      rfl
    refine PySem.W.callWith_K (h₀ := X.base) I.ok.mod.kin d1 (thn (ha.run pos pins s1 σ _ _ I1 q) fun us s2 ⟨vs, H2, I2, r, q⟩ => ⟨I2.kIn, ?_⟩) he hpl
    exact run_fn a1 hr g1 .nil pass0 I2 r q
  · obtain rfl : f2 = f := by
      rw [b2] at m
      cases m
      rfl
    refine PySem.W.callWith_K (h₀ := X.base) I.ok.mod.kin d2 (thn (ha.run pos pins s1 σ _ _ I1 q) fun us s2 ⟨vs, H2, I2, r, q⟩ => ⟨I2.kIn, ?_⟩) he hpl
    exact run_fn a2 hr g2 .nil pass0 I2 r q
end
section
variable {K : PySem.W.Frag} {x qual y : Str} {params : Arguments} {body : List Stmt} {scope : Scope} {kws : List (Str × V)} {f : Addr} {fd : FuncData} {ps : List Str} {v : V}
theorem kbn_app (F : FunD K x qual params body scope [] kws f fd) (n : Nat) (ks : List Str) (hk : kws ≠ [])
    (h : ∀ (D : Addr) (doc pm : Value) (an : Option Addr) (cdv ct : Value) (us ws : List Value), us.length = n → ws.length = ks.length → bindArgs (PySem.W.fnOf x qual params body scope .none (.ref D) doc pm an cdv ct) ⟨us, ks.zip ws⟩ = pure (ps.zip (us ++ ws))) :
    ∃ g, KBn K fd ps n ks g (fun vs zs => vs ++ zs) := by
  obtain ⟨mv, h⟩ := F.kbinds0 (ps := ps) n ks [] (fun {α} us mv ws => us ++ ws) hk (fun q hq => by cases hq) (fun r1 _ r3 => r1.append r3) (fun D doc pm an cdv ct us mv ws l1 l2 l3 => by
    have : mv = [] := List.eq_nil_of_length_eq_zero l2
    subst this
    exact h D doc pm an cdv ct us ws l1 l3)
  exact ⟨_, h⟩
/-- two keywords, in the other order -/
theorem kbn_two (F : FunD K x qual params body scope [] kws f fd) (ks : List Str) (hk : kws ≠ []) (h2 : ks.length = 2)
    (h : ∀ (D : Addr) (doc pm : Value) (an : Option Addr) (cdv ct : Value) (u v : Value), bindArgs (PySem.W.fnOf x qual params body scope .none (.ref D) doc pm an cdv ct) ⟨[], ks.zip [u, v]⟩ = pure (ps.zip [v, u])) :
    ∃ g, KBn K fd ps 0 ks g (fun vs zs => vs ++ two zs) := by
  obtain ⟨mv, h⟩ := F.kbinds0 (ps := ps) 0 ks [] (fun {α} us mv ws => us ++ two ws) hk (fun q hq => by cases hq) (fun r1 _ r3 => r1.append (by
    cases r3 with
    | nil => exact .nil
    | cons a r => cases r with
      | nil => exact .nil
      | cons b r => cases r with
        | nil => exact .cons b (.cons a .nil)
        | cons _ _ => exact .nil)) (fun D doc pm an cdv ct us mv ws l1 l2 l3 => by
    have : mv = [] := List.eq_nil_of_length_eq_zero l2
    subst this
    have : us = [] := List.eq_nil_of_length_eq_zero l1
    subst this
    rw [h2] at l3
    match ws, l3 with
    | [u, v], _ => exact h D doc pm an cdv ct u v)
  exact ⟨_, h⟩
theorem dfl_one (F : FunD K x qual params body scope [] [(y, v)] f fd) (n : Nat) (hn : n + 1 = ps.length)
    (h : ∀ (D : Addr) (doc pm : Value) (an : Option Addr) (cdv ct : Value) (us : List Value) (u : Value), us.length = n → KwChain D [(y, u)] (bindArgs (PySem.W.fnOf x qual params body scope .none (.ref D) doc pm an cdv ct) ⟨us, []⟩) (ps.zip (us ++ [u]))) :
    ∃ ds, Vals [v] ds ∧ Binds K fd ps ds := F.binds0 n (by intro z; cases z) hn (fun D doc pm an cdv ct us ks l1 l2 => by
  match ks, l2 with
  | [u], _ => exact h D doc pm an cdv ct us u l1)
theorem funD_one {oc : Value} {od an : Option Addr} {dc pm cd ct : Value} {sl : Array (Option Value)} {D : Addr} {u : Value} (l : K.lookup f = some ⟨oc, od, .func (PySem.W.fnOf x qual params body scope .none (.ref D) dc pm an cd ct), sl⟩) (c : PySem.W.codeIn K cd qual = true) (k : PySem.W.keepIn K (.ref f) = true)
    (n : PySem.W.nsIn K D y = some (some u)) (r : RelV v u) : FunD K x qual params body scope [] [(y, v)] f (PySem.W.fnOf x qual params body scope .none (.ref D) dc pm an cd ct) :=
  ⟨⟨_, _, _, _, _, _, _, _, _, _, rfl, l, c, .inl ⟨rfl, rfl⟩, .inr ⟨D, rfl, fun q hq => by rw [List.mem_singleton.mp hq]; exact ⟨u, n, r⟩⟩⟩, k⟩
end
end WB
namespace WB
open PySem PySem.Spec PyProof.Rows L2
/-! ### many things of one kind, as one -/
section
variable {α : Type} {T0 : List (Addr × Str)} {Ts : List Th} {Y : List α} {f : α → Th} {i j : Nat} {y y' z : α} {H H' : Hp} {N : Th}
theorem mem_tG {a : Addr} : a ∈ (tG (Y.map f)).ft ↔ ∃ y ∈ Y, a ∈ (f y).ft := by
  show a ∈ (Y.map f).flatMap (·.ft) ↔ _
  rw [List.mem_flatMap]
  constructor
  · rintro ⟨T, hT, ha⟩
    obtain ⟨y, hy, rfl⟩ := List.mem_map.mp hT
    exact ⟨y, hy, ha⟩
  · rintro ⟨y, hy, ha⟩
    exact ⟨f y, List.mem_map.mpr ⟨y, hy, rfl⟩, ha⟩
theorem map_at (hj : Y[j]? = some y) : (Y.map f)[j]? = some (f y) := by
  rw [List.getElem?_map, hj]
  rfl
theorem Hs.gget (h : Hs T0 Ts H) (i : Nat) (hi : Ts[i]? = some (tG (Y.map f))) (hj : Y[j]? = some y) : (f y).P H := by
  have g : Hs [] (Y.map f) H := h.get i hi
  exact g.get j (map_at hj)
theorem gset_ft (hj : Y[j]? = some y) (hf : ∀ a ∈ (f y').ft, a ∈ (f y).ft ∨ H a = none) : ∀ a ∈ (tG ((Y.set j y').map f)).ft, a ∈ (tG (Y.map f)).ft ∨ H a = none := fun a ha => by
  obtain ⟨z, hz, ha⟩ := mem_tG.mp ha
  rcases List.mem_or_eq_of_mem_set hz with q | q
  · exact .inl (mem_tG.mpr ⟨z, q, ha⟩)
  · rw [q] at ha
    exact (hf a ha).imp (fun x => mem_tG.mpr ⟨y, List.mem_of_getElem? hj, x⟩) id
theorem gset_P {F : List Addr} (g : Hs [] (Y.map f) H) (hj : Y[j]? = some y) (m : MvF F H H') (hF : ∀ a ∈ F, a ∈ (f y).ft ∨ H a = none) (hp : (f y').P H') (hf : ∀ a ∈ (f y').ft, a ∈ (f y).ft ∨ H a = none) : (tG ((Y.set j y').map f)).P H' := by
  have := g.op (T' := f y') j (map_at hj) m hF hp hf
  rw [← List.map_set] at this
  exact this
theorem Hs.gset {F : List Addr} (h : Hs T0 Ts H) (i : Nat) (hi : Ts[i]? = some (tG (Y.map f))) (hj : Y[j]? = some y) (m : MvF F H H') (hF : ∀ a ∈ F, a ∈ (f y).ft ∨ H a = none) (hp : (f y').P H') (hf : ∀ a ∈ (f y').ft, a ∈ (f y).ft ∨ H a = none) : Hs T0 (Ts.set i (tG ((Y.set j y').map f))) H' :=
  h.op i hi m (fun a ha => (hF a ha).imp (fun x => mem_tG.mpr ⟨y, List.mem_of_getElem? hj, x⟩) id) (gset_P (h.get i hi) hj m hF hp hf) (gset_ft hj hf)
/-- the j-th changes, and a new one comes -/
theorem Hs.gsetN {F : List Addr} (h : Hs T0 Ts H) (i : Nat) (hi : Ts[i]? = some (tG (Y.map f))) (hj : Y[j]? = some y) (m : MvF F H H') (hF : ∀ a ∈ F, a ∈ (f y).ft ∨ H a = none) (hp : (f y').P H') (hf : ∀ a ∈ (f y').ft, a ∈ (f y).ft ∨ H a = none)
    (hn : N.P H') (hnf : ∀ a ∈ N.ft, H a = none ∧ a ∉ (f y').ft) : Hs T0 (N :: Ts.set i (tG ((Y.set j y').map f))) H' := by
  refine h.opNew i hi m (fun a ha => (hF a ha).imp (fun x => mem_tG.mpr ⟨y, List.mem_of_getElem? hj, x⟩) id) (gset_P (h.get i hi) hj m hF hp hf) (gset_ft hj hf) hn (fun a ha => ⟨(hnf a ha).1, fun q => ?_⟩)
  obtain ⟨z, hz, hz2⟩ := mem_tG.mp q
  rcases List.mem_or_eq_of_mem_set hz with q | q
  · have g : Hs [] (Y.map f) H := h.get i hi
    obtain ⟨k, hk⟩ := List.getElem?_of_mem q
    exact (f z).live (g.get k (map_at hk)) hz2 (hnf a ha).1
  · rw [q] at hz2
    exact (hnf a ha).2 hz2
theorem Hs.gadd (h : Hs T0 (f z :: tG (Y.map f) :: Ts) H) : Hs T0 (tG ((Y ++ [z]).map f) :: Ts) H := by
  have h1 := h.swap.ungroup
  rw [show Y.map f ++ f z :: Ts = (Y ++ [z]).map f ++ Ts by simp] at h1
  exact h1.group
theorem Hs.gnil (h : Hs T0 Ts H) : Hs T0 (tG (([] : List α).map f) :: Ts) H := Hs.group (Ts := []) h
end
theorem map_set_same {α β : Type} {f : α → β} {Y : List α} {w : Nat} {x x' : α} (h : Y[w]? = some x) (e : f x' = f x) : (Y.set w x').map f = Y.map f := by
  rw [List.map_set, e]
  apply List.ext_getElem?
  intro i
  rw [List.getElem?_set]
  by_cases z : w = i
  · subst z
    rw [if_pos rfl, List.getElem?_map, h, List.length_map, if_pos (List.getElem?_eq_some_iff.mp h).1]
    rfl
  · rw [if_neg z]
theorem const_by {v : V} {i : Nat} {u : TS} {D : Ends} {σ : L2.St} {H : Hp} (h : u D (σ.set i (some v)) H) : tSeq (tAsg (tC v) (gName i)) u D σ H := h
theorem getElem?_ex {α : Type} {l : List α} {i : Nat} (h : i < l.length) : ∃ x, l[i]? = some x := ⟨_, List.getElem?_eq_getElem h⟩
end WB
namespace WB
open PySem PySem.Spec PyProof.Rows L2
/-! ### tuples of ints, ordered -/
def tupD (t : List Int) : PyData := .tuple (t.map PyData.int)
/-- the first difference decides -/
def lexB : List Int → List Int → Bool
  | [], [] => false
  | [], _ :: _ => true
  | _ :: _, [] => false
  | x :: xs, y :: ys => if x = y then lexB xs ys else decide (x < y)
theorem lexB_eq : ∀ xs ys : List Int, PySem.W.listLt xs ys = lexB xs ys
  | [], [] => rfl
  | [], _ :: _ => rfl
  | _ :: _, [] => rfl
  | x :: xs, y :: ys => by
    unfold PySem.W.listLt lexB
    rw [lexB_eq xs ys]
    rfl
theorem dataLt_tup (s t : List Int) : PySem.W.dataLt (tupD s) (tupD t) = lexB s t := by
  have h := PySem.W.DatumOrd.lt_eq (α := PySem.W.Tup Int) ⟨s⟩ ⟨t⟩
  rw [← lexB_eq]
  exact h
def minT (x : List Int) (r : List (List Int)) : List Int := r.foldl (fun a y => if lexB y a = true then y else a) x
theorem minD_tup : ∀ (r : List (List Int)) (x : List Int), PySem.W.minD (tupD x) (r.map tupD) = tupD (minT x r)
  | [], x => rfl
  | y :: r, x => by
    show (r.map tupD).foldl _ (if PySem.W.dataLt (tupD y) (tupD x) = true then tupD y else tupD x) = tupD (r.foldl _ (if lexB y x = true then y else x))
    rw [dataLt_tup]
    cases lexB y x with
    | true => exact minD_tup r y
    | false => exact minD_tup r x
theorem alike_tup (s t : List Int) : PySem.W.alike (tupD s) (tupD t) = true := PySem.W.DatumOrd.alike (α := PySem.W.Tup Int) ⟨s⟩ ⟨t⟩
theorem depth_tups : ∀ ts : List (List Int), PyData.depthAll (ts.map tupD) ≤ 1
  | [] => Nat.zero_le _
  | t :: ts => by
    show max (PyData.depthAll (t.map PyData.int) + 1) (PyData.depthAll (ts.map tupD)) ≤ 1
    rw [depth_ints]
    exact Nat.max_le.mpr ⟨Nat.le_refl _, depth_tups ts⟩
section
variable {K : PySem.W.Frag}
theorem dpa_at {H : Hp} : ∀ {xs : List V} {ds : List PyData} {i : Nat} {x : V}, DpAll K H xs ds → xs[i]? = some x → ∃ d, ds[i]? = some d ∧ Dp K H x d
  | _, _, _, _, .nil, e => by simp at e
  | _, _, 0, _, .cons h _, e => by simp at e; subst e; exact ⟨_, rfl, h⟩
  | _, _, i + 1, x, .cons _ t, e => by
    obtain ⟨d, h1, h2⟩ := dpa_at (i := i) (x := x) t (by simpa using e)
    exact ⟨d, by simpa using h1, h2⟩
theorem dpa_int_inv {H : Hp} : ∀ {t : List Int} {xs : List V}, DpAll K H xs (t.map PyData.int) → xs = t.map V.int
  | [], _, .nil => rfl
  | _ :: _, _, .cons h r => by
    cases h
    rw [dpa_int_inv r]
    rfl
theorem dp_tup_inv {H : Hp} {v : V} {t : List Int} (h : Dp K H v (tupD t)) : ∃ p, v = .ref p ∧ SqT K H p (t.map V.int) := by
  cases h with
  | tup hs ha => exact ⟨_, rfl, by rw [← dpa_int_inv ha]; exact hs⟩
theorem dp_tup {H : Hp} {p : Addr} {t : List Int} (h : SqT K H p (t.map V.int)) : Dp K H (.ref p) (tupD t) := .tup h (dpa_ints t)
end
theorem tupD_inj {s t : List Int} (h : tupD s = tupD t) : s = t := by
  have h1 : s.map PyData.int = t.map PyData.int := PyData.tuple.inj h
  exact List.map_inj_right (fun _ _ e => PyData.int.inj e) |>.mp h1
/-- min of a list of tuples of ints: one of them, whose numbers are the least -/
def rMinT (K : PySem.W.Frag) : List V → Hp → VK → Prop := fun vs H Q => ∃ (a : Addr) (xs : List V) (x : List Int) (r : List (List Int)), vs = [.ref a] ∧ SqL K H a xs ∧ DpAll K H xs ((x :: r).map tupD) ∧ ∀ (i : Nat) (p : Addr), xs[i]? = some (.ref p) → (x :: r)[i]? = some (minT x r) → SqT K H p ((minT x r).map V.int) → Q (.ref p) H
theorem vals_at {xs : List V} {us : List Value} (h : Vals xs us) : ∀ {i : Nat} {u : Value}, us[i]? = some u → ∃ x, xs[i]? = some x ∧ RelV x u := by
  induction h with
  | nil => intro i u e; simp at e
  | cons a r ih =>
    intro i u e
    cases i with
    | zero => simp at e; subst e; exact ⟨_, rfl, a⟩
    | succ i =>
      obtain ⟨x, h1, h2⟩ := ih (i := i) (u := u) (by simpa using e)
      exact ⟨x, by simpa using h1, h2⟩
section
variable {X : Cx}
theorem cr_minT (hu : X.A.units + 64 < cLine) (hc : X.calm = true) : CallR X (.builtin "min") (rMinT X.K) := by
  intro pins s σ H vs us Q I r h
  obtain ⟨a, xs, x, rs, rfl, hs, hd, q⟩ := h
  obtain ⟨its, rv, hl, _⟩ := I.list hs
  rw [Vals.ref1 r]
  obtain ⟨as, hr⟩ := Dp.readsAll I _ _ _ hd rv
  have hdep := depth_tups (x :: rs)
  refine PySem.W.min_list_data (vs := its.toArray) (x := tupD x) (xs := rs.map tupD) (I.ok.hd hc) hl.isList hr ⟨?_, ?_⟩ ?_ fun i v h' tk bs hi hv hk => ?_
  · intro y hy z hz
    obtain ⟨t1, _, rfl⟩ := List.mem_map.mp (show y ∈ (x :: rs).map tupD from hy)
    obtain ⟨t2, _, rfl⟩ := List.mem_map.mp (show z ∈ (x :: rs).map tupD from hz)
    exact alike_tup t1 t2
  · intro y hy
    obtain ⟨t1, _, rfl⟩ := List.mem_map.mp (show y ∈ (x :: rs).map tupD from hy)
    exact fun z => by cases z
  · have e : PyData.depthAll (tupD x :: rs.map tupD) ≤ 1 := hdep
    omega
  · rw [minD_tup] at hv
    obtain ⟨xv, h1, h2⟩ := vals_at rv (i := i) (u := v) (by simpa using hi)
    obtain ⟨d, e1, e2⟩ := dpa_at hd h1
    obtain ⟨cs, hv2⟩ := Dp.reads I d xv v e2 h2
    have e3 := (reads_det (h := s.heap) (h' := h') (fun b o e _ => hk b o e) hv2 hv).1
    rw [← e3] at e1 e2
    obtain ⟨p, rfl, hp⟩ := dp_tup_inv e2
    have e4 : (x :: rs)[i]? = some (minT x rs) := by
      rw [List.getElem?_map] at e1
      cases e5 : (x :: rs)[i]? with
      | none => rw [e5] at e1; cases e1
      | some t =>
        rw [e5] at e1
        rw [tupD_inj (Option.some.inj e1)]
    exact ⟨.ref p, H, I.kept hk, h2, q i p h1 e4 hp⟩
theorem cr_minTK (K : PySem.W.Frag) (h : X.K = K) (hu : X.A.units + 64 < cLine) (hc : X.calm = true) : CallR X (.builtin "min") (rMinT K) := by subst h; exact cr_minT hu hc
end
end WB
namespace WB
open PySem PySem.Spec PyProof.Rows L2
theorem mt_lcountK {X : Cx} (K : PySem.W.Frag) (h : X.K = K) : MtR X "list.count" (rCntI K) := by subst h; exact mt_lcount
theorem eq_t {a b : Int} (e : decide (V.int a = V.int b) = true) : a = b := V.int.inj (of_decide_eq_true e)
theorem eq_f {a b : Int} (e : ¬ decide (V.int a = V.int b) = true) : a ≠ b := fun z => e (decide_eq_true (congrArg V.int z))
theorem ne_t {a b : Int} (e : (!decide (V.int a = V.int b)) = true) : a ≠ b := fun z => by
  rw [decide_eq_true (congrArg V.int z)] at e
  cases e
theorem ne_f {a b : Int} (e : ¬ (!decide (V.int a = V.int b)) = true) : a = b := by
  by_cases z : a = b
  · exact z
  · exact absurd (by rw [decide_eq_false (fun y => z (V.int.inj y))]; rfl) e
end WB
namespace WB
open PySem PySem.Spec PyProof.Rows L2
/-! ### zip of two sequences, each a list (true) or a tuple (false) -/
def SqK (K : PySem.W.Frag) : Bool → Hp → Addr → List V → Prop
  | true, H, a, xs => SqL K H a xs
  | false, H, a, xs => SqT K H a xs
def KIt : Bool → Heap → Addr → Addr → Nat → Prop
  | true, h, it, a, i => h.IsListIter it a i
  | false, h, it, a, i => h.IsTupleIter it a i
def KSeq : Bool → Heap → Addr → Array Value → Prop
  | true, h, a, vs => h.IsList a vs
  | false, h, a, vs => h.IsTuple a vs
def kItO : Bool → Addr → Obj
  | true, a => { cls := .type "list_iterator", data := .fields #[.ref a, .int 0 0] }
  | false, a => { cls := .type "tuple_iterator", data := .fields #[.ref a, .int 0 0] }
theorem draws_k {P : Program} {w : World} {A : Around} (k : Bool) (hh : A.handled = none) (it l : Addr) (hne : l ≠ it) (vs : Array Value) :
    Draws P w A it [it, l] vs.size (fun i v => vs[i]? = some v) (fun i h => KIt k h it l i ∧ KSeq k h l vs) := by
  cases k with
  | true => exact Draws.list hh it l hne vs
  | false => exact Draws.tuple hh it l hne vs
theorem begins_k (k : Bool) (l : Addr) (vs : Array Value) : Begins (.ref l) (kItO k l) (fun h => KSeq k h l vs) := by
  cases k with
  | true => exact begins_list l vs
  | false => exact begins_tuple l vs
theorem kit_at {k : Bool} {h h' : Heap} {it a : Addr} {i : Nat} (x : KIt k h it a i) (e : ∀ o, h.get? it = some o → h'.get? it = some o) : KIt k h' it a i := by
  cases k with
  | true => exact Heap.IsListIter.at x e
  | false => exact Heap.IsTupleIter.at x e
theorem kit_obj {k : Bool} {h : Heap} {it a : Addr} {i : Nat} (x : KIt k h it a i) : ∃ o, h.get? it = some o ∧ ∀ v, o.data ≠ .cell v := by
  cases k with
  | true =>
    obtain ⟨o, e, _, d⟩ := x
    exact ⟨o, e, fun v q => by rw [d] at q; cases q⟩
  | false =>
    obtain ⟨o, e, _, d⟩ := x
    exact ⟨o, e, fun v q => by rw [d] at q; cases q⟩
theorem kit_new {k : Bool} {h : Heap} {it a : Addr} (e : h.get? it = some (kItO k a)) : KIt k h it a 0 := by
  cases k with
  | true => exact ⟨_, e, rfl, rfl⟩
  | false => exact ⟨_, e, rfl, rfl⟩
section
variable {X : Cx} {pins : List (Addr × Obj)} {σ : L2.St} {H : Hp} {s : Shared} {k : Bool} {a : Addr} {xs ys : List V}
theorem SqK.read (I : Inv X pins σ H s) (h : SqK X.K k H a xs) : ∃ its : List Value, Vals xs its ∧ KSeq k s.heap a its.toArray ∧ a < s.heap.objs.size := by
  cases k with
  | true =>
    obtain ⟨its, r, p, _⟩ := I.list h
    exact ⟨its, r, p.isList, p.lt⟩
  | false =>
    obtain ⟨its, r, p, _⟩ := I.tuple h
    obtain ⟨o, e, _⟩ := id p
    exact ⟨its, r, p, Heap.lt_size e⟩
theorem SqK.inj (I : Inv X pins σ H s) (h : SqK X.K k H a xs) (h' : SqK X.K k H a ys) : xs = ys := by
  cases k with
  | true => exact I.list_inj h h'
  | false => exact I.tuple_inj h h'
end
theorem SqK.same {K : PySem.W.Frag} {k : Bool} {H H' : Hp} {a : Addr} {xs : List V} (e : Same H H') (h : SqK K k H a xs) : SqK K k H' a xs := by
  cases k with
  | true => exact e.seq h
  | false => exact same_t e h
def Itz2 (K : PySem.W.Frag) (k1 k2 : Bool) (a b : Addr) : It where
  go i H := ∃ (xs ys : List V) (x y : V), SqK K k1 H a xs ∧ SqK K k2 H b ys ∧ xs[i]? = some x ∧ ys[i]? = some y
  yld i H v H' := ∃ (T : Addr) (x y : V), v = .ref T ∧ H T = none ∧ H' = upd H T (.tup [x, y]) ∧ (∀ l, SqK K k1 H a l → l[i]? = some x) ∧ ∀ l, SqK K k2 H b l → l[i]? = some y
  stop i H := ∃ (xs ys : List V), SqK K k1 H a xs ∧ SqK K k2 H b ys ∧ i ≤ xs.length ∧ i ≤ ys.length ∧ (i = xs.length ∨ i = ys.length)
theorem of5 {c z TI TO i1 i2 : Addr} (h : c ∈ [z, TI, TO, i1, i2]) : c = z ∨ c = TI ∨ c = TO ∨ c = i1 ∨ c = i2 := by simpa using h
theorem turn_z2 {P : Program} {w : World} {K : PySem.W.Frag} {elts : List Expr} {kk : Nat} {tpos : Pos} {k1 k2 : Bool} {a b z TI TO i1 i2 : Addr} (S : ZipSep2 z TI TO i1 i2 [i1, a] [i2, b]) (n1 : a ≠ i1) (n2 : b ≠ i2) :
    Turn P w K (.Tuple elts kk tpos) (Itz2 K k1 k2 a b) [z, TI, TO, i1, i2] z (fun i h => IsZip h z TI TO .none ∧ IsTupOf2 h TI (.ref i1) (.ref i2) ∧ (∃ x y, IsTupOf2 h TO x y) ∧ KIt k1 h i1 a i ∧ KIt k2 h i2 b i) where
  mem := .head _
  obj := by
    rintro i h ⟨hz, hI, ⟨x, y, hO⟩, h1, h2⟩ c hc
    rcases of5 hc with rfl | rfl | rfl | rfl | rfl
    · exact ⟨_, hz, fun v q => nomatch q⟩
    · exact ⟨_, hI, fun v q => nomatch q⟩
    · exact ⟨_, hO, fun v q => nomatch q⟩
    · exact kit_obj h1
    · exact kit_obj h2
  keep := by
    rintro i h h' ⟨hz, hI, ⟨x, y, hO⟩, h1, h2⟩ kp
    exact ⟨kp z (by simp) _ hz, kp TI (by simp) _ hI, ⟨x, y, kp TO (by simp) _ hO⟩, kit_at h1 (fun o => kp i1 (by simp) o), kit_at h2 (fun o => kp i2 (by simp) o)⟩
  item := by
    intro X hP hw hK hc i pins s σ H E I hf st hg
    subst hP hw hK
    obtain ⟨hz, hI, ⟨x0, y0, hO⟩, h1, h2⟩ := st
    obtain ⟨xs, ys, x, y, qx, qy, ex, ey⟩ := hg
    obtain ⟨us, ru, pu, _⟩ := qx.read I
    obtain ⟨vs, rv, pv, _⟩ := qy.read I
    obtain ⟨u, hu, rxu⟩ := ru.get ex
    obtain ⟨v, hv, ryv⟩ := rv.get ey
    have lz : z < s.heap.objs.size := Heap.lt_size hz
    have hh : X.A.in1.handled = none := I.ok.hd hc
    refine wpAny_pyNext_zipD2_item S (draws_k k1 hh i1 a n1 us.toArray) (draws_k k2 hh i2 b n2 vs.toArray) hz hI hO ⟨h1, pu⟩ ⟨h2, pv⟩ (by simpa using (List.getElem?_eq_some_iff.mp hu).1) (by simpa using (List.getElem?_eq_some_iff.mp hv).1) fun u' v' h' tk hu' hv' z' O' t1 t2 hT hsz keep => ?_
    obtain rfl : u = u' := by
      have : us[i]? = some u' := by simpa using hu'
      rw [hu] at this
      exact Option.some.inj this
    obtain rfl : v = v' := by
      have : vs[i]? = some v' := by simpa using hv'
      rw [hv] at this
      exact Option.some.inj this
    refine ⟨_, rfl, wpAny_letOwnedTupleGo_zip (s := { s with heap := h', toks := tk }) z' fun h'' z'' sb => ?_⟩
    have hT2 : h''.get? s.heap.objs.size = some { cls := .type "tuple", data := .seq #[u, v] } := (sb.2 _ (Nat.ne_of_gt lz)).trans hT
    have J : Inv X pins σ (upd H s.heap.objs.size (.tup [x, y])) { s with heap := h'', toks := tk } :=
      I.turnedNew (ch := [z, TI, TO, i1, i2]) (fun c o nc q => by
        have m : ∀ d, d ∈ [z, TI, TO, i1, i2] → c ≠ d := fun d hd e => nc (e ▸ hd)
        rw [sb.2 c (m z (by simp))]
        exact keep c o (m z (by simp)) (m TO (by simp)) (m i1 (by simp)) (m i2 (by simp)) q) hf (Nat.le_refl _) ⟨by show 2 ≤ sizeLine; decide, [u, v], .cons rxu (.cons ryv .nil), _, hT2, rfl, _, rfl⟩
    refine ⟨.ref s.heap.objs.size, _, J, rfl, ⟨_, x, y, rfl, I.hok.fresh (Nat.le_refl _), rfl, fun l hl => by rw [hl.inj I qx]; exact ex, fun l hl => by rw [hl.inj I qy]; exact ey⟩, ⟨z'', ?_, ⟨u, v, ?_⟩, ?_, ?_⟩, fun c hcm => ?_⟩
    · exact (sb.2 _ S.TIz).trans (keep _ _ S.TIz S.TITO S.TIi1 S.TIi2 hI)
    · exact (sb.2 _ S.TOz).trans O'
    · exact kit_at t1.1 (fun o q => (sb.2 _ S.zi1.symm).trans q)
    · exact kit_at t2.1 (fun o q => (sb.2 _ S.zi2.symm).trans q)
    · have lt : c < s.heap.objs.size := by
        rcases of5 hcm with rfl | rfl | rfl | rfl | rfl
        · exact lz
        · exact Heap.lt_size hI
        · exact Heap.lt_size hO
        · obtain ⟨o, e, _⟩ := kit_obj h1
          exact Heap.lt_size e
        · obtain ⟨o, e, _⟩ := kit_obj h2
          exact Heap.lt_size e
      rw [upd_ne (Nat.ne_of_lt lt)]
      exact (hf c hcm).1
  done := by
    intro X hP hw hK hc i pins s σ H E I hf st hg
    subst hP hw hK
    obtain ⟨hz, hI, ⟨x0, y0, hO⟩, h1, h2⟩ := st
    obtain ⟨xs, ys, qx, qy, l1, l2, he⟩ := hg
    obtain ⟨us, ru, pu, _⟩ := qx.read I
    obtain ⟨vs, rv, pv, _⟩ := qy.read I
    have e1 := ru.length
    have e2 := rv.length
    have hh : X.A.in1.handled = none := I.ok.hd hc
    refine wpAny_pyNext_zipD2_end S (draws_k k1 hh i1 a n1 us.toArray) (draws_k k2 hh i2 b n2 vs.toArray) hz hI hO ⟨h1, pu⟩ ⟨h2, pv⟩ (by simp; omega) (by simp; omega) (by simp; omega) fun h' tk keep => ⟨rfl, ?_⟩
    exact I.turnedL (ch := [z, TI, TO, i1, i2]) (fun c o nc q => by
      have m : ∀ d, d ∈ [z, TI, TO, i1, i2] → c ≠ d := fun d hd e => nc (e ▸ hd)
      exact keep c o (m z (by simp)) (m TO (by simp)) (m i1 (by simp)) (m i2 (by simp)) q) hf
  self := fun A i s Q E st h => wpAny_pyIter_zip st.1 h
def iZip2 (K : PySem.W.Frag) (ta : TA) : TI := fun σ H R => ta σ H fun vs H1 => ∃ (a b : Addr) (k1 k2 : Bool) (xs ys : List V), vs = [.ref a, .ref b] ∧ SqK K k1 H1 a xs ∧ SqK K k2 H1 b ys ∧ R (Itz2 K k1 k2 a b) H1
theorem pi_zip2 {X : Cx} (K : PySem.W.Frag) (hKK : X.K = K) {e e2 : Expr} {ta : TA} {p pos tpos : Pos} {elts : List Expr} {kk : Nat} (hg : Gl X "zip") (hm : X.mg "zip" = none) (ha : PA X [e, e2] ta)
    (hs : starEach [e, e2] X.env = (false, eval e X.env) :: starEach [e2] X.env := by rfl) (hpl : (backTo pos (starEach [e2] X.env)).any (·.1) = false := by rfl) :
    PI X (.Tuple elts kk tpos) (.Call (.Name "zip" p) [e, e2] [] pos) (iZip2 K ta) := by
  subst hKK
  refine ⟨fun pins s σ H R I h => ?_⟩
  refine Call_ (ld_blt I hg hm PyProof.Rows.boot_zip (PyProof.Rows.callWith_type1 (thn (ha.run pos pins s σ H _ I h) fun us s1 y => ?_) hs hpl))
  obtain ⟨vs, H1, I1, r1, a, b, k1, k2, xs, ys, rfl, qx, qy, q⟩ := y
  cases r1 with
  | cons r rr =>
    cases rr with
    | cons r' rr =>
      cases rr
      cases r
      cases r'
      obtain ⟨us, ru, pu, la⟩ := qx.read I1
      obtain ⟨ws, rw_, pw, lb⟩ := qy.read I1
      refine zip_begins2 (begins_k k1 a us.toArray) (begins_k k2 b ws.toArray) pu pw fun h' hz hI hO g1 g2 hsz keep => wpAny_pyIter_zip hz ?_
      refine ⟨s1.heap.objs.size + 4, [s1.heap.objs.size + 4, s1.heap.objs.size + 2, s1.heap.objs.size + 3, s1.heap.objs.size, s1.heap.objs.size + 1], _, _, H1, rfl, I1.kept (t' := s1.toks) keep, turn_z2 (zip_sep2 (N := s1.heap.objs.size) (fp1 := [a]) (fp2 := [b]) (fun c hc => by rw [List.mem_singleton.mp hc]; exact la) (fun c hc => by rw [List.mem_singleton.mp hc]; exact lb)) (Nat.ne_of_lt la) (Nat.ne_of_lt (Nat.lt_succ_of_lt lb)), ⟨hz, hI, ⟨_, _, hO⟩, kit_new g1, kit_new g2⟩, fun c hc => ?_, q⟩
      have le : s1.heap.objs.size ≤ c := by
        rcases of5 hc with z | z | z | z | z
        · rw [z]; exact Nat.le_add_right _ _
        · rw [z]; exact Nat.le_add_right _ _
        · rw [z]; exact Nat.le_add_right _ _
        · rw [z]; exact Nat.le_refl _
        · rw [z]; exact Nat.le_add_right _ _
      exact I1.fpOk le (I1.hok.fresh le)
theorem walk_z2 {K : PySem.W.Frag} {k1 k2 : Bool} {a b : Addr} {xs ys : List V} {n : Nat} (hn : n = min xs.length ys.length) : Walk (Itz2 K k1 k2 a b) n (fun H => SqK K k1 H a xs ∧ SqK K k2 H b ys) (YPair (fun i => xs[i]?) (fun i => ys[i]?)) := by
  subst hn
  refine ⟨fun i _ hi q => ?_, fun _ q => ⟨xs, ys, q.1, q.2, by omega, by omega, by omega⟩, fun i H v H' _ q y => ?_⟩
  · obtain ⟨x, hx⟩ := getElem?_ex (show i < xs.length by omega)
    obtain ⟨y, hy⟩ := getElem?_ex (show i < ys.length by omega)
    exact ⟨xs, ys, x, y, q.1, q.2, hx, hy⟩
  · obtain ⟨T, x, z, h1, h2, h3, h4, h5⟩ := y
    exact ⟨T, x, z, h1, h2, h3, h4 xs q.1, h5 ys q.2⟩
/-! ### tuples that are cut, whole or in part -/
theorem sl_tupAK {X : Cx} (K : PySem.W.Frag) (h : X.K = K) : SlR X (rSlA K) := by subst h; exact sl_tupA
end WB
namespace WB
open PySem PySem.Spec PyProof.Rows L2
/-! ### things that stand apart, and tuples that are known (they may be shared: nothing changes them) -/
def noT : HO → Prop
  | .tup _ => False
  | .frz _ _ => False
  | _ => True
class NT (T : Th) : Prop where
  nt : ∀ H, T.P H → ∀ a ∈ T.ft, ∀ o, H a = some o → noT o
def TF (K : PySem.W.Frag) (L : List (Addr × List V)) (H : Hp) : Prop := ∀ p ∈ L, SqT K H p.1 p.2
section
variable {K : PySem.W.Frag} {L : List (Addr × List V)} {H H' : Hp} {F : List Addr} {a : Addr} {xs : List V}
theorem sqT_keep (kp : ∀ o, H a = some o → ¬ noT o → H' a = some o) (h : SqT K H a xs) : SqT K H' a xs := by
  rcases h with (h | ⟨o, h⟩) | h
  · exact .inl (.inl (kp _ h (fun z => z)))
  · exact .inl (.inr ⟨o, kp _ h (fun z => z)⟩)
  · exact .inr h
theorem sqT_mvf (m : MvF F H H') (hF : ∀ a ∈ F, ∀ o, H a = some o → noT o) (h : SqT K H a xs) : SqT K H' a xs := sqT_keep (fun o e n => m.kp a o (fun z => n (hF a z o e)) e) h
theorem TF.mvf (m : MvF F H H') (hF : ∀ a ∈ F, ∀ o, H a = some o → noT o) (t : TF K L H) : TF K L H' := fun p hp => sqT_mvf m hF (t p hp)
theorem TF.same (s : Same H H') (t : TF K L H) : TF K L H' := fun p hp => same_t s (t p hp)
end
instance (b : Addr × Addr) : NT (tB b) := ⟨fun H h a ha o e => by
  obtain ⟨ns, i, r, x, c, h1, h2, _⟩ := h
  rcases List.mem_cons.mp ha with rfl | ha
  · rw [h1] at e
    cases e
    trivial
  · rw [List.mem_singleton.mp ha, h2] at e
    cases e
    trivial⟩
instance (a : Addr) (xs : List V) : NT (tO a (.lst xs)) := ⟨fun H h b hb o e => by
  rw [in1 hb, h.1] at e
  cases e
  trivial⟩
instance {α : Type} (Y : List α) (f : α → Th) [i : ∀ y, NT (f y)] : NT (tG (Y.map f)) := ⟨fun H h a ha o e => by
  obtain ⟨y, hy, ha⟩ := mem_tG.mp ha
  obtain ⟨j, hj⟩ := List.getElem?_of_mem hy
  have g : Hs [] (Y.map f) H := h
  exact (i y).nt H (g.get j (map_at hj)) a ha o e⟩
structure Hw (K : PySem.W.Frag) (L : List (Addr × List V)) (T0 : List (Addr × Str)) (Ts : List Th) (H : Hp) : Prop where
  hs : Hs T0 Ts H
  tf : TF K L H
section
variable {K : PySem.W.Frag} {L L' : List (Addr × List V)} {T0 : List (Addr × Str)} {Ts : List Th} {T T' N : Th} {H H' : Hp} {a p : Addr} {xs : List V} {b : Addr × Addr} {o o' : HO}
theorem Hw.of (h : Hs T0 Ts H) : Hw K [] T0 Ts H := ⟨h, fun p hp => absurd hp List.not_mem_nil⟩
theorem Hw.get (h : Hw K L T0 Ts H) (i : Nat) (hi : Ts[i]? = some T) : T.P H := h.hs.get i hi
theorem Hw.at (h : Hw K L T0 Ts H) (i : Nat) (hi : Ts[i]? = some (tO p o)) : H p = some o := h.hs.at i hi
theorem Hw.tup (h : Hw K L T0 Ts H) (i : Nat) (hi : L[i]? = some (a, xs)) : SqT K H a xs := h.tf _ (List.mem_of_getElem? hi)
theorem Hw.same (h : Hw K L T0 Ts H) (s : Same H H') : Hw K L T0 Ts H' := ⟨h.hs.same s, h.tf.same s⟩
theorem Hw.know (h : Hw K L T0 Ts H) (t : SqT K H a xs) : Hw K ((a, xs) :: L) T0 Ts H := ⟨h.hs, fun p hp => (List.mem_cons.mp hp).elim (fun z => by rw [z]; exact t) (h.tf p)⟩
theorem Hw.selT (h : Hw K L T0 Ts H) (hs : ∀ q ∈ L', q ∈ L) : Hw K L' T0 Ts H := ⟨h.hs, fun p hp => h.tf p (hs p hp)⟩
theorem Hw.sel (h : Hw K L T0 Ts H) (is : List Nat) (hn : is.Nodup) : Hw K L T0 (pickTs Ts is) H := ⟨h.hs.sel is hn, h.tf⟩
theorem Hw.bag (h : Hw K L T0 (tB b :: Ts) H) : Bag b H := h.hs.bag
theorem Hw.noF [NT T] {F : List Addr} (h : Hw K L T0 Ts H) (i : Nat) (hi : Ts[i]? = some T) (hF : ∀ a ∈ F, a ∈ T.ft ∨ H a = none) : ∀ a ∈ F, ∀ o, H a = some o → noT o := fun a ha o e => by
  rcases hF a ha with z | z
  · exact NT.nt H (h.hs.get i hi) a z o e
  · rw [z] at e
    cases e
theorem Hw.op [NT T] {F : List Addr} (h : Hw K L T0 Ts H) (i : Nat) (hi : Ts[i]? = some T) (m : MvF F H H') (hF : ∀ a ∈ F, a ∈ T.ft ∨ H a = none) (hp : T'.P H') (hf : ∀ a ∈ T'.ft, a ∈ T.ft ∨ H a = none) : Hw K L T0 (Ts.set i T') H' :=
  ⟨h.hs.op i hi m hF hp hf, h.tf.mvf m (h.noF i hi hF)⟩
theorem Hw.opNew [NT T] {F : List Addr} (h : Hw K L T0 Ts H) (i : Nat) (hi : Ts[i]? = some T) (m : MvF F H H') (hF : ∀ a ∈ F, a ∈ T.ft ∨ H a = none) (hp : T'.P H') (hf : ∀ a ∈ T'.ft, a ∈ T.ft ∨ H a = none) (hn : N.P H') (hnf : ∀ a ∈ N.ft, H a = none ∧ a ∉ T'.ft) : Hw K L T0 (N :: Ts.set i T') H' :=
  ⟨h.hs.opNew i hi m hF hp hf hn hnf, h.tf.mvf m (h.noF i hi hF)⟩
theorem Hw.mv (h : Hw K L T0 (tB b :: Ts) H) (m : Mv b.1 H H') (g : Bag b H') : Hw K L T0 (tB b :: Ts) H' :=
  h.op (T := tB b) (T' := tB b) 0 rfl (mvf_bag m g) (fun a ha => .inl ha) g (fun a ha => .inl ha)
theorem Hw.newM (h : Hw K L T0 (tB b :: Ts) H) (m : Mv b.1 H H') (g : Bag b H') (n : H p = none) (e : H' p = some o) (pl : plain o := by exact trivial) : Hw K L T0 (tB b :: tO p o :: Ts) H' :=
  ⟨h.hs.newM m g n e pl, h.tf.mvf (mvf_bag m g) (h.noF (T := tB b) 0 rfl (fun a ha => .inl ha))⟩
theorem Hw.newH (h : Hw K L T0 Ts H) (s : Same H H') (n : H p = none) (e : H' p = some o) (pl : plain o := by exact trivial) : Hw K L T0 (tO p o :: Ts) H' := ⟨h.hs.newH s n e pl, h.tf.same s⟩
theorem Hw.newHU (h : Hw K L T0 Ts H) (n : H p = none) (pl : plain o := by exact trivial) : Hw K L T0 (tO p o :: Ts) (upd H p o) := ⟨h.hs.newHU n pl, h.tf.same (same_upd n)⟩
theorem Hw.newU (h : Hw K L T0 (tB b :: Ts) H) (n : H p = none) (pl : plain o := by exact trivial) : Hw K L T0 (tB b :: tO p o :: Ts) (upd H p o) := ⟨h.hs.newU n pl, h.tf.same (same_upd n)⟩
theorem Hw.new (h : Hw K L T0 Ts H) (s : Same H H') (hp : T.P H') (hf : ∀ a ∈ T.ft, H a = none) : Hw K L T0 (T :: Ts) H' := ⟨h.hs.new s hp hf, h.tf.same s⟩
/-- a new tuple, known from now on -/
theorem Hw.newT (h : Hw K L T0 Ts H) (n : H p = none) : Hw K ((p, xs) :: L) T0 Ts (upd H p (.tup xs)) := (h.same (same_upd n)).know (SqT.of upd_same)
theorem Hw.put (h : Hw K L T0 Ts H) (i : Nat) {xs ys : List V} (hi : Ts[i]? = some (tL p xs)) : Hw K L T0 (Ts.set i (tL p ys)) (upd H p (.lst ys)) :=
  h.op (T := tL p xs) (T' := tL p ys) i hi (F := [p]) ((MvF.refl [p] H).upd (.head _)) (fun a ha => .inl ha) ⟨upd_same, trivial⟩ (fun a ha => .inl ha)
theorem Hw.merge {A B C : Th} (h : Hw K L T0 (A :: B :: Ts) H) (hp : C.P H) (hf : ∀ a ∈ C.ft, a ∈ A.ft ∨ a ∈ B.ft) : Hw K L T0 (C :: Ts) H := ⟨h.hs.merge hp hf, h.tf⟩
end
section
variable {α : Type} {K : PySem.W.Frag} {L : List (Addr × List V)} {T0 : List (Addr × Str)} {Ts : List Th} {Y : List α} {f : α → Th} {i j : Nat} {y y' z : α} {H H' : Hp} {N : Th}
theorem Hw.gget (h : Hw K L T0 Ts H) (i : Nat) (hi : Ts[i]? = some (tG (Y.map f))) (hj : Y[j]? = some y) : (f y).P H := h.hs.gget i hi hj
theorem Hw.gset [∀ y, NT (f y)] {F : List Addr} (h : Hw K L T0 Ts H) (i : Nat) (hi : Ts[i]? = some (tG (Y.map f))) (hj : Y[j]? = some y) (m : MvF F H H') (hF : ∀ a ∈ F, a ∈ (f y).ft ∨ H a = none) (hp : (f y').P H') (hf : ∀ a ∈ (f y').ft, a ∈ (f y).ft ∨ H a = none) : Hw K L T0 (Ts.set i (tG ((Y.set j y').map f))) H' :=
  ⟨h.hs.gset i hi hj m hF hp hf, h.tf.mvf m (h.noF (T := tG (Y.map f)) i hi (fun a ha => (hF a ha).imp (fun x => mem_tG.mpr ⟨y, List.mem_of_getElem? hj, x⟩) id))⟩
theorem Hw.gsetN [∀ y, NT (f y)] {F : List Addr} (h : Hw K L T0 Ts H) (i : Nat) (hi : Ts[i]? = some (tG (Y.map f))) (hj : Y[j]? = some y) (m : MvF F H H') (hF : ∀ a ∈ F, a ∈ (f y).ft ∨ H a = none) (hp : (f y').P H') (hf : ∀ a ∈ (f y').ft, a ∈ (f y).ft ∨ H a = none) (hn : N.P H') (hnf : ∀ a ∈ N.ft, H a = none ∧ a ∉ (f y').ft) : Hw K L T0 (N :: Ts.set i (tG ((Y.set j y').map f))) H' :=
  ⟨h.hs.gsetN i hi hj m hF hp hf hn hnf, h.tf.mvf m (h.noF (T := tG (Y.map f)) i hi (fun a ha => (hF a ha).imp (fun x => mem_tG.mpr ⟨y, List.mem_of_getElem? hj, x⟩) id))⟩
theorem Hw.gadd (h : Hw K L T0 (f z :: tG (Y.map f) :: Ts) H) : Hw K L T0 (tG ((Y ++ [z]).map f) :: Ts) H := ⟨h.hs.gadd, h.tf⟩
theorem Hw.gnil (h : Hw K L T0 Ts H) : Hw K L T0 (tG (([] : List α).map f) :: Ts) H := ⟨h.hs.gnil, h.tf⟩
end
theorem sqT_updI {K : PySem.W.Frag} {H : Hp} {r C dx t : Addr} {fs : List (Str × V)} {o : HO} {xs : List V} (e : H r = some (.ins C dx fs)) (h : SqT K H t xs) : SqT K (upd H r o) t xs := sqT_keep (fun u eu n => by
  rw [upd_ne (fun z => ?_)]
  · exact eu
  · rw [z, e] at eu
    cases eu
    exact n trivial) h
theorem sqK_updI {K : PySem.W.Frag} {H : Hp} {r C dx t : Addr} {fs : List (Str × V)} {o : HO} {k : Bool} {xs : List V} (e : H r = some (.ins C dx fs)) (h : SqK K k H t xs) : SqK K k (upd H r o) t xs := by
  cases k with
  | false => exact sqT_updI e h
  | true =>
    refine lk_l (lk_mv (b := r) (Mv.refl r H).upd ?_) h
    intro u eu
    rw [e] at eu
    cases eu
    rintro (⟨_, z⟩ | ⟨_, z⟩ | ⟨_, _, z⟩) <;> cases z
theorem ix_by {K : PySem.W.Frag} {k : Bool} {H : Hp} {a : Addr} {xs : List V} {i : Int} {v : V} {Q : VK} (h : SqK K k H a xs) (e : atI xs i = some v) (q : Q v H) : rIx K (.ref a) (.int i) H Q := by
  cases k with
  | true => exact .inl ⟨a, _, _, _, rfl, rfl, h, e, q⟩
  | false => exact .inr (.inl ⟨a, _, _, _, rfl, rfl, h, e, q⟩)
theorem SqK.or {K : PySem.W.Frag} {k : Bool} {H : Hp} {a : Addr} {xs : List V} (h : SqK K k H a xs) : SqL K H a xs ∨ SqT K H a xs := by
  cases k with
  | true => exact .inl h
  | false => exact .inr h
theorem made_none {H : Hp} {x dx l : Addr} {o o' : HO} (h : upd (upd H dx o') x o l = none) : H l = none := by
  by_cases z : l = x
  · rw [z, upd_same] at h
    cases h
  by_cases y : l = dx
  · rw [upd_ne z, y, upd_same] at h
    cases h
  rw [upd_ne z, upd_ne y] at h
  exact h
theorem made_same {H H2 : Hp} {x dx : Addr} {o o' : HO} (nx : H x = none) (ndx : H dx = none) (m : MvF [x] (upd (upd H dx o') x o) H2) : Same H H2 := fun a u e => by
  refine m.kp a u (fun z => ne_of_none e nx (in1 z)) ?_
  rw [upd_ne (ne_of_none e nx), upd_ne (ne_of_none e ndx)]
  exact e
/-! ### makers with arguments by place -/
def CalNX (P : Program) (w : World) (K : PySem.W.Frag) (mg : Str → Option Value) (base : Heap) (k : Nat) (nm : Str) (C : Addr) (ps : List Str) (sp : Sp) : Prop :=
  ∃ (f : Addr) (fd : FuncData), Mk K C f ∧ FnOk P w K mg base (L2.CX P w) k f fd ps sp ∧ mg nm = some (.ref C) ∧ Binds K fd ps []
theorem CalNX.mono {P : Program} {w : World} {K : PySem.W.Frag} {mg : Str → Option Value} {base : Heap} {j k : Nat} {nm : Str} {C : Addr} {ps : List Str} {sp : Sp} (c : CalNX P w K mg base j nm C ps sp) (h : j ≤ k) : CalNX P w K mg base k nm C ps sp := by
  obtain ⟨f, fd, a, b, d, e⟩ := c
  exact ⟨f, fd, a, b.mono h, d, e⟩
section
variable {X : Cx} {k : Nat} {C : Addr} {ps : List Str} {sp : Sp} {E : XK} {nm : Str} {p pos : Pos} {e : Expr} {es : List Expr} {t : TA}
theorem pe_makeX (c : CalNX X.prog X.w X.K X.mg X.base k nm C ps sp) (hr : Room (k + 1) X.A) (hx : Passes (L2.CX X.prog X.w) X E) (hg : Gl X nm) (ha : PA X (e :: es) t) (hdb : (nm == ("__debug__" : Str)) = false := by decide)
    (he : starEach (e :: es) X.env = (false, eval e X.env) :: starEach es X.env := by rfl) (hpl : (backTo pos (starEach es X.env)).any (·.1) = false := by rfl) : PE X (.Call (.Name nm p) (e :: es) [] pos) (tMake C sp [] E t) := by
  obtain ⟨f, fd, a, b, d, q⟩ := c
  exact pe_make a b hr hg d q .nil hx ha hdb he hpl
theorem pe_makeXF (c : CalNX X.prog X.w X.K X.mg X.base k nm C ps sp) (hr : Room (k + 1) X.A) (hg : Gl X nm) (ha : PA X (e :: es) t) (hdb : (nm == ("__debug__" : Str)) = false := by decide)
    (he : starEach (e :: es) X.env = (false, eval e X.env) :: starEach es X.env := by rfl) (hpl : (backTo pos (starEach es X.env)).any (·.1) = false := by rfl) : PE X (.Call (.Name nm p) (e :: es) [] pos) (tMake C sp [] E0 t) := pe_makeX c hr passL hg ha hdb he hpl
end
section
variable {X : Cx} (K : PySem.W.Frag)
def rSlAny (K : PySem.W.Frag) : V → Option Int → Option Int → Hp → VK → Prop := fun x lo hi H Q => rSlL K x lo hi H Q ∨ rSlA K x lo hi H Q
theorem sl_anyK (h : X.K = K) : SlR X (rSlAny K) := by
  subst h
  intro pins s σ H x v vl vu lo hi sl Q I rx hs pl pu h
  rcases h with h | h
  · exact sl_list pins s σ H x v vl vu lo hi sl Q I rx hs pl pu h
  · exact sl_tupA pins s σ H x v vl vu lo hi sl Q I rx hs pl pu h
end
end WB
namespace WB
open PySem PySem.Spec PyProof.Rows L2
/-! ### methods with keyword-only parameters: n by place behind the thing itself, keywords ks -/
def tMethN (C : Addr) (m : Str) (n j : Nat) (sp : Sp) (gV : List V → List V → List V) (E : XK) (ta : TE) (t tk : TA) : TE := fun σ H Q => ta σ H fun x H1 => ∃ (a dx : Addr) (fs : List (Str × V)), x = .ref a ∧ H1 a = some (.ins C dx fs) ∧ fs.lookup m = none ∧
  t σ H1 fun vs H2 => tk σ H2 fun zs H3 => vs.length = n ∧ zs.length = j ∧ sp (gV (.ref a :: vs) zs) H3 Q E
def CalMW (P : Program) (w : World) (K : PySem.W.Frag) (mg : Str → Option Value) (base : Heap) (k : Nat) (C : Addr) (m : Str) (ps : List Str) (n : Nat) (ks : List Str) (gV : List V → List V → List V) (sp : Sp) : Prop :=
  ∃ (f : Addr) (fd : FuncData) (g : List Value → List Value → List Value), Cls K C ∧ Meth K C m f ∧ FnOk P w K mg base (L2.CX P w) k f fd ps sp ∧ KBn K fd ps (n + 1) ks g gV
theorem CalMW.mono {P : Program} {w : World} {K : PySem.W.Frag} {mg : Str → Option Value} {base : Heap} {j k n : Nat} {C : Addr} {m : Str} {ps ks : List Str} {gV : List V → List V → List V} {sp : Sp} (c : CalMW P w K mg base j C m ps n ks gV sp) (h : j ≤ k) : CalMW P w K mg base k C m ps n ks gV sp := by
  obtain ⟨f, fd, g, a, b, d, e⟩ := c
  exact ⟨f, fd, g, a, b, d.mono h, e⟩
/-- the keyword-only ones left out -/
def CalMD (P : Program) (w : World) (K : PySem.W.Frag) (mg : Str → Option Value) (base : Heap) (k : Nat) (C : Addr) (m : Str) (ps : List Str) (dvs : List V) (sp : Sp) : Prop :=
  ∃ (f : Addr) (fd : FuncData) (ds : List Value), Cls K C ∧ Meth K C m f ∧ FnOk P w K mg base (L2.CX P w) k f fd ps sp ∧ Binds K fd ps ds ∧ Vals dvs ds
theorem CalMD.mono {P : Program} {w : World} {K : PySem.W.Frag} {mg : Str → Option Value} {base : Heap} {j k : Nat} {C : Addr} {m : Str} {ps : List Str} {dvs : List V} {sp : Sp} (c : CalMD P w K mg base j C m ps dvs sp) (h : j ≤ k) : CalMD P w K mg base k C m ps dvs sp := by
  obtain ⟨f, fd, g, a, b, d, e⟩ := c
  exact ⟨f, fd, g, a, b, d.mono h, e⟩
section
variable {X : Cx} {k n : Nat} {C : Addr} {m : Str} {ps ks : List Str} {sp : Sp} {E : XK} {pos apos : Pos} {e o : Expr} {es : List Expr} {kws : List Keyword} {ta : TE} {t tk : TA} {gV : List V → List V → List V} {dvs : List V} {pl : Sem Bool}
theorem pe_methW (ho : PE X o ta) (c : CalMW X.prog X.w X.K X.mg X.base k C m ps n ks gV sp) (hr : Room k X.A) (hx : Passes (L2.CX X.prog X.w) X E) (ha : PA X (e :: es) t) (hkw : PK X kws tk)
    (hall : (backToKw pos (keywordEach kws X.env)).all (·.1.isSome) = true := by rfl) (hks : (backToKw pos (keywordEach kws X.env)).filterMap (·.1) = ks := by rfl) (he : starEach (e :: es) X.env = (false, eval e X.env) :: starEach es X.env := by rfl)
    (hpl : ((backTo pos (starEach (e :: es) X.env)).any (·.1) || (backToKw pos (keywordEach kws X.env)).any (·.1.isNone)) = false := by rfl)
    (ht : eval (.Call (.Attribute o m apos) (e :: es) kws pos) X.env = (do
      let ov ← eval o X.env
      standAt apos.atName
      let (f, first) ← holding [ov] (getMethod ov m pl)
      callWith pos f first (backTo pos (starEach (e :: es) X.env)) (backToKw pos (keywordEach kws X.env))) := by rfl) :
    PE X (.Call (.Attribute o m apos) (e :: es) kws pos) (tMethN C m n ks.length sp gV E ta t tk) := by
  obtain ⟨f, fd, g, hc, hm, F, hb⟩ := c
  refine ⟨fun pins s σ H Q I h => ?_⟩
  refine PySem.W.methodCall_KW (pl := pl) (thn (ho.run pins s σ H _ I h) fun u s1 y => ?_) ht
  obtain ⟨x, H1, I1, rx, a, dx, fs, rfl, ea, l, q⟩ := y
  obtain rfl : u = Value.ref a := rx
  refine getmeth_ok I1 ea hc hm l ?_
  refine PySem.W.callWith_KW (first := [.ref a]) (h₀ := X.base) I.ok.mod.kin hm.kp hall (thn (ha.run pos pins s1 σ H1 _ I1 q) fun us s2 y => ?_) hpl he
  obtain ⟨vs, H2, I2, r, q2⟩ := y
  refine thn (hkw.run pos pins s2 σ H2 _ I2 q2) fun ws s3 y => ?_
  obtain ⟨zs, H3, I3, rz, l1, l2, q3⟩ := y
  refine ⟨I3.kIn, ?_⟩
  rw [hks]
  exact run_fnN (us := .ref a :: us) (vs := .ref a :: vs) F hr hb hx I3 (.cons rfl r) rz (congrArg (· + 1) l1) l2 q3
theorem pe_methWF (ho : PE X o ta) (c : CalMW X.prog X.w X.K X.mg X.base k C m ps n ks gV sp) (hr : Room k X.A) (ha : PA X (e :: es) t) (hkw : PK X kws tk)
    (hall : (backToKw pos (keywordEach kws X.env)).all (·.1.isSome) = true := by rfl) (hks : (backToKw pos (keywordEach kws X.env)).filterMap (·.1) = ks := by rfl) (he : starEach (e :: es) X.env = (false, eval e X.env) :: starEach es X.env := by rfl)
    (hpl : ((backTo pos (starEach (e :: es) X.env)).any (·.1) || (backToKw pos (keywordEach kws X.env)).any (·.1.isNone)) = false := by rfl)
    (ht : eval (.Call (.Attribute o m apos) (e :: es) kws pos) X.env = (do
      let ov ← eval o X.env
      standAt apos.atName
      let (f, first) ← holding [ov] (getMethod ov m pl)
      callWith pos f first (backTo pos (starEach (e :: es) X.env)) (backToKw pos (keywordEach kws X.env))) := by rfl) :
    PE X (.Call (.Attribute o m apos) (e :: es) kws pos) (tMethN C m n ks.length sp gV E0 ta t tk) := pe_methW ho c hr passL ha hkw hall hks he hpl ht
theorem pe_methD (ho : PE X o ta) (c : CalMD X.prog X.w X.K X.mg X.base k C m ps dvs sp) (hr : Room k X.A) (hx : Passes (L2.CX X.prog X.w) X E) (ha : PA X (e :: es) t) (hs : starEach (e :: es) X.env = (false, eval e X.env) :: starEach es X.env := by rfl) (hpl : (backTo pos (starEach es X.env)).any (·.1) = false := by rfl)
    (hc : eval (.Call (.Attribute o m apos) (e :: es) [] pos) X.env = (do
      let ov ← eval o X.env
      standAt apos.atName
      let (f, first) ← holding [ov] (getMethod ov m pl)
      callWith pos f first (backTo pos (starEach (e :: es) X.env)) (backToKw pos (keywordEach [] X.env))) := by rfl) : PE X (.Call (.Attribute o m apos) (e :: es) [] pos) (tMeth C m sp dvs E ta t) := by
  obtain ⟨f, fd, ds, a, b, d, g, v⟩ := c
  exact pe_meth ho a b d hr g v hx ha hs hpl hc
theorem pe_methDF (ho : PE X o ta) (c : CalMD X.prog X.w X.K X.mg X.base k C m ps dvs sp) (hr : Room k X.A) (ha : PA X (e :: es) t) (hs : starEach (e :: es) X.env = (false, eval e X.env) :: starEach es X.env := by rfl) (hpl : (backTo pos (starEach es X.env)).any (·.1) = false := by rfl)
    (hc : eval (.Call (.Attribute o m apos) (e :: es) [] pos) X.env = (do
      let ov ← eval o X.env
      standAt apos.atName
      let (f, first) ← holding [ov] (getMethod ov m pl)
      callWith pos f first (backTo pos (starEach (e :: es) X.env)) (backToKw pos (keywordEach [] X.env))) := by rfl) : PE X (.Call (.Attribute o m apos) (e :: es) [] pos) (tMeth C m sp dvs E0 ta t) := pe_methD ho c hr passL ha hs hpl hc
end
theorem pi_revAK {X : Cx} (K : PySem.W.Frag) (hKK : X.K = K) {tg e : Expr} {te : TE} {p pos : Pos} (hg : Gl X "reversed") (hm : X.mg "reversed" = none) (he : PE X e te) (hs : starEach [e] X.env = (false, eval e X.env) :: starEach [] X.env := by rfl) : PI X tg (.Call (.Name "reversed" p) [e] [] pos) (RT.iRevA K te) := by
  subst hKK
  exact RT.pi_revA hg hm he hs
theorem walk_revT {K : PySem.W.Frag} {a : Addr} {xs : List V} : Walk (RT.ItvT K a xs.length) xs.length (fun H => SqT K H a xs) (fun i H x H' => H' = H ∧ xs[xs.length - 1 - i]? = some x) := by
  refine ⟨fun i H hi q => ⟨hi, xs, ?_⟩, fun _ _ => Nat.le_refl _, fun i H x H' _ q y => ⟨y.1, y.2 xs q⟩⟩
  obtain ⟨x, hx⟩ := getElem?_ex (show xs.length - 1 - i < xs.length by omega)
  exact ⟨x, q, hx⟩
/-! ### how keywords are bound: ks as written, ms those that lack (their defaults), pm puts both in the parameters' order -/
section
variable {K : PySem.W.Frag} {x qual : Str} {params : Arguments} {body : List Stmt} {scope : Scope} {kws : List (Str × V)} {f : Addr} {fd : FuncData} {ps : List Str}
/-- the i-th of both rows, one behind the other -/
def pickL {α : Type} (l : List α) : List Nat → List α
  | [] => []
  | i :: r => match l[i]? with
    | some x => x :: pickL l r
    | none => pickL l r
theorem vals_pick {vs : List V} {us : List Value} (h : Vals vs us) : ∀ is : List Nat, Vals (pickL vs is) (pickL us is)
  | [] => .nil
  | i :: r => by
    unfold pickL
    cases e : us[i]? with
    | none =>
      have e2 : vs[i]? = none := by
        rw [List.getElem?_eq_none_iff] at e ⊢
        have := h.length
        omega
      rw [e2]
      exact vals_pick h r
    | some u =>
      obtain ⟨y, hy, ry⟩ := vals_at h e
      rw [hy]
      exact .cons ry (vals_pick h r)
theorem kbn_pick (F : FunD K x qual params body scope [] kws f fd) (n : Nat) (ks : List Str) (ms : List (Str × V)) (is : List Nat) (hk : kws ≠ []) (hms : ∀ q ∈ ms, q ∈ kws)
    (h : ∀ (D : Addr) (doc pm : Value) (an : Option Addr) (cdv ct : Value) (us mv ws : List Value), us.length = n → mv.length = ms.length → ws.length = ks.length →
      KwChain D ((ms.map (·.1)).zip mv) (bindArgs (PySem.W.fnOf x qual params body scope .none (.ref D) doc pm an cdv ct) ⟨us, ks.zip ws⟩) (ps.zip (us ++ pickL (ws ++ mv) is))) :
    ∃ g, KBn K fd ps n ks g (fun vs zs => vs ++ pickL (zs ++ ms.map (·.2)) is) := by
  obtain ⟨mv, hb⟩ := F.kbinds0 (ps := ps) n ks ms (fun {α} us mv ws => us ++ pickL (ws ++ mv) is) hk hms (fun r1 r2 r3 => r1.append (vals_pick (r3.append r2) is)) h
  exact ⟨_, hb⟩
end
end WB
namespace WB
open PySem PySem.Spec PyProof.Rows L2
def topS (i : Nat) : Stmt := PySem.Challenge.pw_warbleline_k48_keys_guarded.main.body.getD i (.Pass ⟨0, 0, 0, 0⟩)
abbrev s_LineError : Stmt := topS 1
abbrev s_BadBit : Stmt := topS 2
abbrev s_BadByte : Stmt := topS 3
abbrev s_BadCode : Stmt := topS 4
abbrev s_BadFrame : Stmt := topS 5
abbrev s_BadCount : Stmt := topS 6
abbrev s_Missing : Stmt := topS 7
abbrev s_check_bytes : Stmt := topS 10
abbrev s_Guard : Stmt := topS 16
abbrev m_Guard___init__ : Stmt := inClass s_Guard 0
abbrev m_Guard_beat : Stmt := inClass s_Guard 1
abbrev m_Guard_beat_of_silence : Stmt := inClass s_Guard 2
abbrev m_Guard_held : Stmt := inClass s_Guard 3
abbrev m_Guard_twin : Stmt := inClass s_Guard 4
abbrev s__law_bag : Stmt := topS 18
abbrev s__law_pick : Stmt := topS 19
abbrev s__law_of : Stmt := topS 20
abbrev s__law_same : Stmt := topS 21
abbrev s__law_tried : Stmt := topS 22
abbrev s__law_at : Stmt := topS 23
abbrev s__law_row : Stmt := topS 24
abbrev s__law_guard_new : Stmt := topS 25
abbrev s__law_guard_beat : Stmt := topS 26
abbrev s__law_keys : Stmt := topS 27
abbrev s_law : Stmt := topS 28
section
variable {P : Program} {w : World} {K : PySem.W.Frag} {mg : Str → Option Value} {base : Heap}
abbrev i_LineError : Stmt := inClass s_LineError 0
theorem sc_i_LineError : FnScope ["self", "word", "text"] ["self", "word", "text"] (defScope i_LineError) := ⟨rfl, rfl, rfl, by decide +kernel, rfl, by decide +kernel, by decide +kernel⟩
theorem ok_i_LineError {f : Addr} {fd : FuncData} {k : Nat} {dvs : List V} (F : FunD K "__init__" "LineError.__init__" (defArgs i_LineError) (defBody i_LineError) (defScope i_LineError) dvs [] f fd) (n_ValueError : mg "ValueError" = none) (vV : PySem.W.findCls K (.type "ValueError") (.type "type") "__init__" = some (.val (.builtin "ValueError.__init__"))) :
    FnOk P w K mg base CX0 (k + 1) f fd ["self", "word", "text"] (spLE K) := by
  have sc := sc_i_LineError
  refine F.ok sc (fun vs H Q E h => ?_) (fun cdv A outer s H vs Q E hr h => ?_)
  · obtain ⟨a, C, w, t, rfl, _⟩ := h
    rfl
  · obtain ⟨a, C, w, t, rfl, hC, hw, ha, q⟩ := h
    refine ⟨_, PSs.nox (pss_cons (ps_expr (pe_veinit (by rfl) n_ValueError vV (pa_cons (pv 0) (pa_cons (pv 2) pa_nil)))) (pss_one (ps_ost (pv 0) (pv 1)))), ?_⟩
    refine ⟨_, rfl, _, rfl, a, C, [t], rfl, by show 1 ≤ 1000; decide, hC, ha, ?_⟩
    exact ⟨_, rfl, _, rfl, a, C, rfl, hC, hw, .inl ⟨ha, fun d nd da => q d nd da⟩⟩
abbrev i_BadByte : Stmt := inClass s_BadByte 0
theorem sc_i_BadByte : FnScope ["self", "at"] ["self", "at"] (defScope i_BadByte) := ⟨rfl, rfl, rfl, by decide +kernel, rfl, by decide +kernel, by decide +kernel⟩
theorem ok_i_BadByte {f fL C CL : Addr} {fd fdL : FuncData} {k : Nat} (F : Fun K "__init__" "BadByte.__init__" i_BadByte f fd) (TL : ClsFn K mg "LineError" "__init__" CL fL) (FL : FnOk P w K mg base CX0 k fL fdL ["self", "word", "text"] (spLE K)) (bL : Binds K fdL ["self", "word", "text"] [])
    (hC : OexC K C) (hw : PySem.W.findIn K (.ref C) "word" = some none) (hf : PySem.W.findIn K (.ref C) "at" = some none) : FnOk P w K mg base CX0 (k + 1) f fd ["self", "at"] (spIni K C "BadByte" "at") := by
  have sc := sc_i_BadByte
  refine F.ok sc (fun vs H Q E h => ?_) (fun cdv A outer s H vs Q E hr h => ?_)
  · obtain ⟨a, i, rfl, _⟩ := h
    rfl
  · obtain ⟨a, i, rfl, hi, ha, q⟩ := h
    refine ⟨_, (pss_cons (ps_expr (pe_clsfn TL FL hr bL pass0 (by rfl) (pa_cons (pv 0) (pa_cons pe_str (pa_cons (pe_joined (.cons pe_str (.cons (pe_fmt (pv 1)) .nil))) pa_nil))))) (pss_one (ps_ost (pv 0) (pv 1)))), ?_⟩
    refine ⟨_, rfl, _, rfl, (by decide +kernel), _, rfl, .inr ⟨i, rfl, by omega, _, rfl, txt_fits (by decide +kernel) hi, ?_⟩⟩
    refine ⟨a, C, _, _, rfl, hC, hw, ha, fun d nd da => ?_⟩
    refine ⟨_, rfl, _, rfl, a, C, rfl, hC, hf, .inr ⟨d, _, upd_same, ?_, by show 1 ≤ 900; decide, q d nd da⟩⟩
    rw [upd_ne da, upd_same]
abbrev i_BadCount : Stmt := inClass s_BadCount 0
theorem sc_i_BadCount : FnScope ["self"] ["self"] (defScope i_BadCount) := ⟨rfl, rfl, rfl, by decide +kernel, rfl, by decide +kernel, by decide +kernel⟩
theorem ok_i_BadCount {f fL C CL : Addr} {fd fdL : FuncData} {k : Nat} (F : Fun K "__init__" "BadCount.__init__" i_BadCount f fd) (TL : ClsFn K mg "LineError" "__init__" CL fL) (FL : FnOk P w K mg base CX0 k fL fdL ["self", "word", "text"] (spLE K)) (bL : Binds K fdL ["self", "word", "text"] [])
    (hC : OexC K C) (hw : PySem.W.findIn K (.ref C) "word" = some none) : FnOk P w K mg base CX0 (k + 1) f fd ["self"] (spIni0 K C "BadCount") := by
  have sc := sc_i_BadCount
  refine F.ok sc (fun vs H Q E h => ?_) (fun cdv A outer s H vs Q E hr h => ?_)
  · obtain ⟨a, rfl, _⟩ := h
    rfl
  · obtain ⟨a, rfl, ha, q⟩ := h
    refine ⟨_, (pss_one (ps_expr (pe_clsfn TL FL hr bL pass0 (by rfl) (pa_cons (pv 0) (pa_cons pe_str (pa_cons pe_str pa_nil)))))), ?_⟩
    exact ⟨_, rfl, a, C, _, _, rfl, hC, hw, ha, fun d nd da => q d nd da⟩
/-! ### bytes -/
def isY (z : Int) : Prop := 0 ≤ z ∧ z < 256
def Bytes (ns : List Int) : Prop := ∀ z ∈ ns, isY z
def bb (ns : List Int) : List Int := (ns.map (wr 8)).flatten
theorem bb_cons (n : Int) (r : List Int) : bb (n :: r) = wr 8 n ++ bb r := rfl
theorem bb_app (a c : List Int) : bb (a ++ c) = bb a ++ bb c := by
  unfold bb
  rw [List.map_append, List.flatten_append]
theorem bb_len : ∀ ns : List Int, (bb ns).length = 8 * ns.length
  | [] => rfl
  | n :: r => by
    rw [bb_cons, List.length_append, wr_len, bb_len r, List.length_cons]
    omega
theorem bb_bits : ∀ ns : List Int, Bits (bb ns)
  | [] => bits_nil
  | n :: r => by
    rw [bb_cons]
    exact bits_app (wr_bits 8 n) (bb_bits r)
/-- the number that bits write -/
def bn (bs : List Int) : Int := bs.foldl (fun n b => 2 * n + b) 0
theorem bn_wr {n : Int} (h : isY n) : bn (wr 8 n) = n := by
  show 2 * (2 * (2 * (2 * (2 * (2 * (2 * (2 * 0 + (n / 2 ^ 7) % 2) + (n / 2 ^ 6) % 2) + (n / 2 ^ 5) % 2) + (n / 2 ^ 4) % 2) + (n / 2 ^ 3) % 2) + (n / 2 ^ 2) % 2) + (n / 2 ^ 1) % 2) + (n / 2 ^ 0) % 2 = n
  unfold isY at h
  omega
theorem bn_more {bs : List Int} {i : Nat} {b : Int} (h : bs[i]? = some b) : bn (bs.take (i + 1)) = 2 * bn (bs.take i) + b := by
  unfold bn
  rw [take_more h, List.foldl_append]
  rfl
theorem bn_bound : ∀ (bs : List Int), Bits bs → bs.length ≤ 8 → -(2 ^ 64) < bn bs ∧ bn bs < 2 ^ 64 := by
  intro bs hb hl
  have key : ∀ (l : List Int) (n : Int) (k : Nat), Bits l → 0 ≤ n → n < 2 ^ k → l.foldl (fun n b => 2 * n + b) n < 2 ^ (k + l.length) ∧ 0 ≤ l.foldl (fun n b => 2 * n + b) n := by
    intro l
    induction l with
    | nil => exact fun n k _ h0 h1 => ⟨h1, h0⟩
    | cons b r ih =>
      intro n k hb h0 h1
      have hbb := bits_cons hb
      have e : (2 : Int) ^ (k + 1) = 2 * 2 ^ k := by rw [Int.pow_succ, Int.mul_comm]
      have := ih (2 * n + b) (k + 1) hbb.2 (by rcases hbb.1 with rfl | rfl <;> omega) (by rcases hbb.1 with rfl | rfl <;> omega)
      rw [List.length_cons, show k + (r.length + 1) = k + 1 + r.length by omega]
      exact this
  have := key bs 0 0 hb (by decide) (by decide)
  have e : (2 : Int) ^ (0 + bs.length) ≤ 2 ^ 8 := by
    have : (2 : Nat) ^ (0 + bs.length) ≤ 2 ^ 8 := Nat.pow_le_pow_right (by decide) (by omega)
    exact_mod_cast this
  unfold bn
  omega
/-- eight by eight -/
def by8 (bs : List Int) (n : Nat) : List Int := (List.range n).map fun i => bn ((bs.drop (8 * i)).take 8)
theorem by8_bb : ∀ {ns : List Int}, Bytes ns → by8 (bb ns) ns.length = ns
  | [], _ => rfl
  | n :: r, h => by
    have ih := by8_bb (ns := r) (fun z hz => h z (.tail _ hz))
    unfold by8 at ih ⊢
    rw [List.length_cons, List.range_succ_eq_map, List.map_cons, List.map_map]
    have e0 : bn (((bb (n :: r)).drop (8 * 0)).take 8) = n := by
      rw [bb_cons, Nat.mul_zero, List.drop_zero, List.take_append_of_le_length (by rw [wr_len]; exact Nat.le_refl _), List.take_of_length_le (by rw [wr_len]; exact Nat.le_refl _)]
      exact bn_wr (h n (.head _))
    rw [e0]
    congr 1
theorem lc_rngC {lo c : Int} {n : Nat} {g : TG} {tt : TT} {te : TE} {vs : List Nat} {σ : L2.St} {H1 : Hp} {D : Addr} {Qd : Hp → Prop} (Pv : Nat → Hp → Prop) (p0 : Pv 0 (upd H1 D (.lst [])))
    (ps : ∀ i H, i < n → Pv i H → g (.int (lo + (i : Nat) * c)) (wipe σ vs) H fun σ2 H2 => wipe σ2 vs = wipe σ vs ∧ tt σ2 H2 fun b H3 =>
      if b = true then te σ2 H3 fun y H4 => ∃ acc, H4 D = some (.lst acc) ∧ acc.length < sizeLine ∧ Pv (i + 1) (upd H4 D (.lst (acc ++ [y]))) else Pv (i + 1) H3) (pd : ∀ H, Pv n H → Qd H) :
    ∃ W : Nat → Nat → Hp → Prop, (∃ m, W 0 m (upd H1 D (.lst []))) ∧ ∀ i m H, W i m H →
      ((Itc lo c n).stop i H ∧ Qd H) ∨ ((Itc lo c n).go i H ∧ ∃ Nx : Hp → Prop, (∀ H', Nx H' → ∃ m', m' < m ∧ W (i + 1) m' H') ∧ ∀ y H', (Itc lo c n).yld i H y H' → g y (wipe σ vs) H' fun σ2 H2 => wipe σ2 vs = wipe σ vs ∧ tt σ2 H2 fun b H3 =>
        if b = true then te σ2 H3 fun y H4 => ∃ acc, H4 D = some (.lst acc) ∧ acc.length < sizeLine ∧ Nx (upd H4 D (.lst (acc ++ [y]))) else Nx H3) := by
  refine ⟨fun i m H => m = n - i ∧ i ≤ n ∧ Pv i H, ⟨_, rfl, Nat.zero_le _, p0⟩, fun i m H hw => ?_⟩
  obtain ⟨rfl, hi, p⟩ := hw
  by_cases hlt : i < n
  · refine .inr ⟨hlt, Pv (i + 1), fun H' p' => ⟨n - (i + 1), by omega, rfl, hlt, p'⟩, fun y H' hy => ?_⟩
    obtain ⟨rfl, rfl⟩ := hy
    exact ps i _ hlt p
  · obtain rfl : i = n := by omega
    exact .inl ⟨Nat.le_refl _, pd H p⟩
theorem log_le {n : Nat} (h : n ≤ 100000) : ((n : Int)).natAbs.log2 < 1000 := by
  rw [Int.natAbs_natCast]
  by_cases z : n = 0
  · subst z
    decide
  · exact (Nat.log2_lt z).mpr (Nat.lt_of_le_of_lt h (by decide))
theorem sc_check_bytes : FnScope ["row", "at", "byte"] ["row"] (defScope s_check_bytes) := ⟨rfl, rfl, rfl, by decide +kernel, rfl, by decide +kernel, by decide +kernel⟩
def spCheckY (K : PySem.W.Frag) (C : Addr) : Sp := fun vs H Q E => ∃ (a : Addr) (ns : List Int), vs = [.ref a] ∧ SqL K H a (ns.map V.int) ∧ ns.length ≤ 100000 ∧ (Bytes ns → ∀ H', Same H H' → Q .non H') ∧
  (∀ (i : Nat) (z : Int), ns[i]? = some z → ¬ isY z → Bytes (ns.take i) → ∀ H' d, Same H H' → H d = none → H' d = some (.xd [(("at" : Str), .int (i : Int)), (("word" : Str), .str "BadByte")]) → E (.ref C) (some d) H')
theorem ok_check_bytes {f C : Addr} {fd : FuncData} {k : Nat} {tG : Tok} (F : Fun K "check_bytes" "check_bytes" s_check_bytes f fd) (n_enumerate : mg "enumerate" = none) (g_GREATEST_BYTE : mg "GREATEST_BYTE" = some (.int 255 tG)) (x_BadByte : XcOk P w K mg base k "BadByte" C (spIni K C "BadByte" "at")) : FnOk P w K mg base (L2.CX P w) (k + 2) f fd ["row"] (spCheckY K C) := by
  have sc := sc_check_bytes
  refine F.okX sc (fun vs H Q E h => ?_) (fun cdv A outer s H vs Q E hr h => ?_)
  · obtain ⟨a, ns, rfl, _⟩ := h
    rfl
  · obtain ⟨a, ns, rfl, hS, hl, q, qe⟩ := h
    refine ⟨_, (pss_one (ps_for (passes_of rfl) rfl (pi_enum (by rfl) n_enumerate (pa_cons (pv 0) pa_nil)) (pg_tup rfl (pgs_cons (pg_name (i := 1) sc.nd rfl (.inl rfl)) (pgs_cons (pg_name (i := 2) sc.nd rfl (.inl rfl)) pgs_nil)))
  (pss_one (ps_if (PW.pt (pw_or (pt_cmpR op_lt (pv 2) pe_int (nomark _)) (pw_or1 (pt_cmpR op_gt (pv 2) (pe_glob (v := .int 255) (by rfl) g_GREATEST_BYTE ⟨_, rfl⟩) (nomark _)))))
  (pss_one (ps_raise rfl (takes_of rfl rfl rfl rfl) (pmk_c x_BadByte hr (by rfl) (pa_cons (pv 1) pa_nil))))
  pss_nil)))), ?_⟩
    refine ⟨_, rfl, a, _, rfl, hS, for_enumK (xs := ns.map V.int) (fun i σ H' => ∃ y1 y2, σ = [some (.ref a), y1, y2] ∧ Same H H' ∧ Bytes (ns.take i)) ⟨none, none, rfl, Same.refl H, fun z hz => absurd hz List.not_mem_nil⟩ (fun i σ H' _ h => ?_) ?_ ?_⟩
    · obtain ⟨y1, y2, _, sm, _⟩ := h
      exact sm.seq hS
    · rintro i x T σ H' hx ⟨y1, y2, rfl, sm, hbi⟩ nT
      obtain ⟨z, hz, rfl⟩ := getI hx
      have hil : i < ns.length := (List.getElem?_eq_some_iff.mp hz).1
      have s1 := sm.trans (same_upd (o := .tup [.int (i : Nat), .int z]) nT)
      refine ⟨T, _, rfl, SqT.of upd_same, rfl, _, _, rfl, _, _, rfl, rfl, ?_⟩
      have bad : ¬ isY z → ∀ R : XK, R = E → True := fun _ _ _ => trivial
      refine ⟨_, rfl, _, _, rfl, rfl, _, rfl, ite2 (fun e => ?_) (fun e => ?_)⟩
      · have nb : ¬ isY z := by
          have := of_decide_eq_true e
          unfold isY
          omega
        exact iteT ⟨_, rfl, mk_inner (log_le (by omega)) (fun H3 d s3 nd ed => qe i z hz nb hbi H3 d (s1.trans s3) (s1.free nd) ed)⟩
      · have e0 : ¬ z < 0 := fun y => e (decide_eq_true y)
        refine ⟨_, rfl, _, _, rfl, rfl, _, rfl, ite2 (fun e => ?_) (fun e => ?_)⟩
        · have nb : ¬ isY z := by
            have := of_decide_eq_true e
            unfold isY
            omega
          exact ⟨_, rfl, mk_inner (log_le (by omega)) (fun H3 d s3 nd ed => qe i z hz nb hbi H3 d (s1.trans s3) (s1.free nd) ed)⟩
        · have e1 : ¬ (255 : Int) < z := fun y => e (decide_eq_true y)
          refine ⟨_, _, rfl, s1, ?_⟩
          rw [take_more hz]
          intro y hy
          rcases List.mem_append.mp hy with h | h
          · exact hbi y h
          · rw [List.mem_singleton.mp h]
            unfold isY
            omega
    · rintro σ H' ⟨y1, y2, rfl, sm, hbi⟩
      rw [List.length_map, List.take_length] at hbi
      exact q hbi H' sm
theorem sc__law_bag : FnScope ["_law_script"] ["_law_script"] (defScope s__law_bag) := ⟨rfl, rfl, rfl, by decide +kernel, rfl, by decide +kernel, by decide +kernel⟩
theorem ok__law_bag {f : Addr} {fd : FuncData} {k : Nat} (F : Fun K "_law_bag" "_law_bag" s__law_bag f fd) (n_len : mg "len" = none) (n_list : mg "list" = none) : FnOk P w K mg base CX0 (k + 1) f fd ["_law_script"] (spBag K) := by
  have sc := sc__law_bag
  refine F.ok sc (fun vs H Q E h => ?_) (fun cdv A outer s H vs Q E hr h => ?_)
  · obtain ⟨a, ns, rfl, _⟩ := h
    rfl
  · obtain ⟨a, ns, rfl, hS, q⟩ := h
    refine ⟨_, (pss_one (ps_ret (pe_lst (pa_cons (pe_callTy (call_listK K rfl) (by rfl) n_list (by decide +kernel) (pa_cons (pe_slice (sl_listK K rfl) (pv 0) po_none (po_some pe_int)) pa_nil)) (pa_cons pe_int (pa_cons pe_int (pa_cons (pe_op op_add pe_int (pe_callB (call_lenK K rfl) (by rfl) n_len PySem.boot_len (pa_cons (pe_slice (sl_listK K rfl) (pv 0) po_none (po_some pe_int)) pa_nil))) (pa_cons pe_int pa_nil)))))))), ?_⟩
    refine ⟨_, rfl, 63, rfl, a, _, rfl, hS, fun p1 n1 => ?_⟩
    refine ⟨p1, _, rfl, .inl (SqL.of upd_same), fun p2 n2 => ?_⟩
    have s1 : Same H (upd H p1 (.lst (cutV (ns.map V.int) none (some 63)))) := same_upd n1
    have s2 := s1.trans (same_upd (o := .lst (cutV (ns.map V.int) none (some 63))) n2)
    refine ⟨_, rfl, 63, rfl, a, _, rfl, s2.seq hS, fun p3 n3 => ?_⟩
    have s3 := s2.trans (same_upd (o := .lst (cutV (ns.map V.int) none (some 63))) n3)
    refine ⟨p3, _, rfl, .inl (SqL.of upd_same), _, _, rfl, rfl, (by show 5 ≤ sizeLine; decide), fun p4 n4 => ?_⟩
    have s4 := s3.trans (same_upd (o := .lst (bagL p2 0 0 (977 + ((cutV (ns.map V.int) none (some 63)).length : Int)) 0)) n4)
    have e0 : cutV (ns.map V.int) none (some 63) = (ns.take 63).map V.int := by
      unfold cutV
      rw [HT.sIx_none, show HT.sIx (ns.map V.int).length (ns.map V.int).length (some 63) = min 63 (ns.map V.int).length from HT.sIx_nat _ _ 63]
      simp only [List.drop_zero, Nat.sub_zero, List.length_map, List.map_take]
      by_cases h : ns.length ≤ 63
      · rw [Nat.min_eq_right h, List.take_of_length_le (by simp), List.take_of_length_le (by simpa using h)]
      · rw [Nat.min_eq_left (by omega)]
    have n42 : p4 ≠ p2 := fun z => by
      rw [z, upd_ne (ne_of_none upd_same n3), upd_same] at n4
      cases n4
    refine q _ (p4, p2) s4 (s3.free n4) ⟨ns.take 63, 0, 0, _, 0, upd_same, ?_, n42.symm, by omega, ?_, ?_⟩
    · rw [upd_ne n42.symm, upd_ne (ne_of_none upd_same n3), upd_same, e0]
    · omega
    · rw [e0, List.length_map, List.length_take]
      omega
theorem sc__law_pick : FnScope ["_law_bag_here", "_law_top", "_law_cell", "_law_digit"] ["_law_bag_here", "_law_top"] (defScope s__law_pick) := ⟨rfl, rfl, rfl, by decide +kernel, rfl, by decide +kernel, by decide +kernel⟩
theorem ok__law_pick {f : Addr} {fd : FuncData} {k : Nat} (F : Fun K "_law_pick" "_law_pick" s__law_pick f fd) (n_len : mg "len" = none) : FnOk P w K mg base CX0 (k + 1) f fd ["_law_bag_here", "_law_top"] spPick := by
  have sc := sc__law_pick
  refine F.ok sc (fun vs H Q E h => ?_) (fun cdv A outer s H vs Q E hr h => ?_)
  · obtain ⟨b, top, rfl, _⟩ := h
    rfl
  · obtain ⟨⟨b, sa⟩, top, rfl, ⟨ns, i, r, x, c, hb, hs, hne, hi, hx0, hx1⟩, ht0, ht1, q⟩ := h
    refine ⟨_, (pss_cons (ps_if (PW.pt (pw_and (pt_cmpR op_lt (pe_ix (ix_listK K rfl) (pv 0) pe_int (fun _ _ => rfl)) (pv 1) (nomark _)) (pw_and1 (pt_cmpR op_lt (pe_ix (ix_listK K rfl) (pv 0) pe_int (fun _ _ => rfl)) (pe_callB (call_lenK K rfl) (by rfl) n_len PySem.boot_len (pa_cons (pe_ix (ix_listK K rfl) (pv 0) pe_int (fun _ _ => rfl)) pa_nil)) (nomark _)))))
  (pss_cons (ps_set (i := 2) sc.nd rfl (.inl rfl) (pe_ix (ix_listK K rfl) (pe_ix (ix_listK K rfl) (pv 0) pe_int (fun _ _ => rfl)) (pe_ix (ix_listK K rfl) (pv 0) pe_int (fun _ _ => rfl)) (fun _ _ => rfl)))
 (pss_cons (ps_asg (pe_op op_add (pe_ix (ix_listK K rfl) (pv 0) pe_int (fun _ _ => rfl)) pe_int) (pg_sub (pv 0) pe_int set_list))
 (pss_cons (ps_asg (pe_op op_mod (pe_op op_add (pe_op op_add (pe_op op_mul (pe_ix (ix_listK K rfl) (pv 0) pe_int (fun _ _ => rfl)) pe_int) (pv 2)) (pe_ix (ix_listK K rfl) (pv 0) pe_int (fun _ _ => rfl))) pe_int) (pg_sub (pv 0) pe_int set_list))
 (pss_one (ps_asg (pe_ifExp (pt_cmpR op_ge (pv 2) (pe_op op_pow pe_int pe_int) (nomark _)) (pv 2) pe_int) (pg_sub (pv 0) pe_int set_list))))))
  pss_nil)
 (pss_cons (ps_if (pt_cmpR op_ge (pe_ix (ix_listK K rfl) (pv 0) pe_int (fun _ _ => rfl)) (pv 1) (nomark _))
  (pss_cons (ps_set (i := 3) sc.nd rfl (.inl rfl) (pe_op op_mod (pe_ix (ix_listK K rfl) (pv 0) pe_int (fun _ _ => rfl)) (pv 1)))
 (pss_cons (ps_asg (pe_op op_fdiv (pe_ix (ix_listK K rfl) (pv 0) pe_int (fun _ _ => rfl)) (pv 1)) (pg_sub (pv 0) pe_int set_list))
 (pss_one (ps_ret (pv 3)))))
  pss_nil)
 (pss_cons (ps_asg (pe_op op_add (pe_ix (ix_listK K rfl) (pv 0) pe_int (fun _ _ => rfl)) pe_int) (pg_sub (pv 0) pe_int set_list))
 (pss_cons (ps_asg (pe_op op_mod (pe_op op_add (pe_op op_add (pe_op op_add (pe_op op_pow (pe_ix (ix_listK K rfl) (pv 0) pe_int (fun _ _ => rfl)) pe_int) (pe_op op_mul pe_int (pe_ix (ix_listK K rfl) (pv 0) pe_int (fun _ _ => rfl)))) (pe_op op_fdiv (pe_ix (ix_listK K rfl) (pv 0) pe_int (fun _ _ => rfl)) pe_int)) pe_int) pe_int) (pg_sub (pv 0) pe_int set_list))
 (pss_one (ps_ret (pe_op op_mod (pe_op op_fdiv (pe_ix (ix_listK K rfl) (pv 0) pe_int (fun _ _ => rfl)) pe_int) (pv 1)))))))), ?_⟩
    refine seq_by (J := fun σ1 H1 => ∃ (y2 : Option V) (i r x c : Int), σ1 = [some (.ref b), some (.int top), y2, none] ∧ H1 b = some (.lst (bagL sa i r x c)) ∧ H1 sa = some (.lst (ns.map V.int)) ∧ Mv b H H1 ∧ 0 ≤ i ∧ 0 ≤ x ∧ x < 2147483648) ?_ (fun rest => ?_)
    · rintro σ1 H1 ⟨y2, i, r, x, c, rfl, hb, hs, mv, hi, hx0, hx1⟩
      refine ⟨_, rfl, b, _, 2, .int r, rfl, rfl, SqL.of hb, rfl, _, rfl, r, top, rfl, rfl, _, rfl, ite2 (fun e => ?_) (fun e => ?_)⟩
      · refine ⟨_, rfl, b, _, 2, .int r, rfl, rfl, SqL.of hb, rfl, _, rfl, r, top, rfl, rfl, ht0, ?_⟩
        refine ⟨_, rfl, b, _, 2, .int r, rfl, rfl, SqL.of hb, rfl, _, rfl, r, top, rfl, rfl, ⟨ht0, ht1⟩, ?_⟩
        refine ⟨_, rfl, b, _, 2, 2, rfl, rfl, hb, rfl, ?_⟩
        refine ⟨_, rfl, ?_⟩
        refine q _ _ mv.upd ⟨ns, i, _, x, c, upd_same, ?_, hne, hi, hx0, hx1⟩ (Int.emod_nonneg _ (by omega)) (Int.emod_lt_of_pos _ ht0)
        rw [upd_ne hne]
        exact hs
      · refine ⟨_, rfl, b, _, 4, .int c, rfl, rfl, SqL.of hb, rfl, c, 1, rfl, rfl, _, rfl, b, _, 4, 4, rfl, rfl, hb, rfl, ?_⟩
        have hb2 : upd H1 b (.lst (bagL sa i r x (c + 1))) b = some (.lst (bagL sa i r x (c + 1))) := upd_same
        refine ⟨_, rfl, b, _, 3, .int x, rfl, rfl, SqL.of hb2, rfl, x, 3, rfl, rfl, ⟨by decide, by decide, by omega⟩, ?_⟩
        refine ⟨_, rfl, b, _, 4, .int (c + 1), rfl, rfl, SqL.of hb2, rfl, 40503, c + 1, rfl, rfl, .inl ⟨by decide, by decide⟩, _, _, rfl, rfl, ?_⟩
        refine ⟨_, rfl, b, _, 3, .int x, rfl, rfl, SqL.of hb2, rfl, x, 65537, rfl, rfl, ⟨by decide, by decide⟩, _, _, rfl, rfl, _, _, rfl, rfl, _, _, rfl, rfl, (by show (0 : Int) < 2147483629; decide), ?_⟩
        refine ⟨_, rfl, b, _, 3, 3, rfl, rfl, hb2, rfl, ?_⟩
        rw [upd_upd]
        obtain ⟨z, hz⟩ : ∃ z, (x ^ Int.toNat 3 + 40503 * (c + 1) + x / 65537 + 11) % 2147483629 = z := ⟨_, rfl⟩
        have ez : (bagL sa i r x (c + 1)).set 3 ((fun i j => V.int (i % j)) (x ^ Int.toNat 3 + 40503 * (c + 1) + x / 65537 + 11) 2147483629) = bagL sa i r z (c + 1) := by rw [← hz]; rfl
        rw [ez]
        have z0 : 0 ≤ z := by rw [← hz]; exact Int.emod_nonneg _ (by decide)
        have z1 : z < 2147483648 := by
          have : z < 2147483629 := by rw [← hz]; exact Int.emod_lt_of_pos _ (by decide)
          omega
        have hb3 : upd H1 b (.lst (bagL sa i r z (c + 1))) b = some (.lst (bagL sa i r z (c + 1))) := upd_same
        refine ⟨_, rfl, b, _, 3, .int z, rfl, rfl, SqL.of hb3, rfl, z, 16, rfl, rfl, ⟨by decide, by decide⟩, _, rfl, _, top, rfl, rfl, ht0, ?_⟩
        refine q _ _ mv.upd ⟨ns, i, r, z, c + 1, upd_same, ?_, hne, hi, z0, z1⟩ (Int.emod_nonneg _ (by omega)) (Int.emod_lt_of_pos _ ht0)
        rw [upd_ne hne]
        exact hs
    · refine ⟨_, rfl, b, _, 2, .int r, rfl, rfl, SqL.of hb, rfl, _, rfl, r, top, rfl, rfl, _, rfl, ite2 (fun e => ?_) (fun e => ?_)⟩
      · refine ⟨_, rfl, b, _, 1, .int i, rfl, rfl, SqL.of hb, rfl, _, rfl, b, _, 0, .ref sa, rfl, rfl, SqL.of hb, rfl, sa, _, rfl, .inl (SqL.of hs), i, _, rfl, rfl, _, rfl, ite2 (fun e2 => ?_) (fun e2 => ?_)⟩
        · have hlt : i < (ns.length : Int) := by
            have := of_decide_eq_true e2
            rw [List.length_map] at this
            exact this
          obtain ⟨z, hz⟩ : ∃ z, ns[i.toNat]? = some z := ⟨_, List.getElem?_eq_getElem (by omega)⟩
          have hat : atI (ns.map V.int) i = some (.int z) := by
            have := atI_nat (xs := ns.map V.int) (j := i.toNat) (v := .int z) (by rw [List.getElem?_map, hz]; rfl)
            rwa [Int.toNat_of_nonneg hi] at this
          refine ⟨_, rfl, b, _, 0, .ref sa, rfl, rfl, SqL.of hb, rfl, _, rfl, b, _, 1, .int i, rfl, rfl, SqL.of hb, rfl, sa, _, i, _, rfl, rfl, SqL.of hs, hat, ?_⟩
          refine ⟨_, rfl, b, _, 1, .int i, rfl, rfl, SqL.of hb, rfl, i, 1, rfl, rfl, _, rfl, b, _, 1, 1, rfl, rfl, hb, rfl, ?_⟩
          have hb2 : upd H b (.lst (bagL sa (i + 1) r x c)) b = some (.lst (bagL sa (i + 1) r x c)) := upd_same
          refine ⟨_, rfl, b, _, 3, .int x, rfl, rfl, SqL.of hb2, rfl, x, 48271, rfl, rfl, .inr ⟨by decide, by decide⟩, _, rfl, _, z, rfl, rfl, ?_⟩
          refine ⟨_, rfl, b, _, 1, .int (i + 1), rfl, rfl, SqL.of hb2, rfl, _, _, rfl, rfl, _, _, rfl, rfl, (by show (0 : Int) < 2147483629; decide), ?_⟩
          refine ⟨_, rfl, b, _, 3, 3, rfl, rfl, hb2, rfl, ?_⟩
          rw [upd_upd]
          obtain ⟨y, hy⟩ : ∃ y, (x * 48271 + z + (i + 1)) % 2147483629 = y := ⟨_, rfl⟩
          have ey : (bagL sa (i + 1) r x c).set 3 ((fun i j => V.int (i % j)) (x * 48271 + z + (i + 1)) 2147483629) = bagL sa (i + 1) r y c := by rw [← hy]; rfl
          rw [ey]
          have y0 : 0 ≤ y := by rw [← hy]; exact Int.emod_nonneg _ (by decide)
          have y1 : y < 2147483648 := by
            have : y < 2147483629 := by rw [← hy]; exact Int.emod_lt_of_pos _ (by decide)
            omega
          have hb3 : upd H b (.lst (bagL sa (i + 1) r y c)) b = some (.lst (bagL sa (i + 1) r y c)) := upd_same
          have hne2 : ∀ o : HO, upd H b o sa = some (.lst (ns.map V.int)) := fun o => by
            rw [upd_ne hne]
            exact hs
          refine ⟨_, rfl, 10, 18, rfl, rfl, ⟨by decide, by decide, by decide⟩, z, _, rfl, rfl, _, rfl, ite2 (fun e3 => ?_) (fun e3 => ?_)⟩
          · refine ⟨_, rfl, _, rfl, b, _, 2, 2, rfl, rfl, hb3, rfl, ?_⟩
            rw [upd_upd]
            exact rest _ _ ⟨some (.int z), i + 1, z, y, c, rfl, upd_same, hne2 _, (Mv.refl _ _).upd, by omega, y0, y1⟩
          · refine ⟨_, rfl, b, _, 2, 2, rfl, rfl, hb3, rfl, ?_⟩
            rw [upd_upd]
            exact rest _ _ ⟨some (.int z), i + 1, 0, y, c, rfl, upd_same, hne2 _, (Mv.refl _ _).upd, by omega, y0, y1⟩
        · exact rest _ _ ⟨none, i, r, x, c, rfl, hb, hs, Mv.refl _ _, hi, hx0, hx1⟩
      · exact rest _ _ ⟨none, i, r, x, c, rfl, hb, hs, Mv.refl _ _, hi, hx0, hx1⟩
theorem sc__law_of : FnScope ["_law_bag_here", "_law_some"] ["_law_bag_here", "_law_some"] (defScope s__law_of) := ⟨rfl, rfl, rfl, by decide +kernel, rfl, by decide +kernel, by decide +kernel⟩
theorem ok__law_of {f : Addr} {fd : FuncData} {k : Nat} (F : Fun K "_law_of" "_law_of" s__law_of f fd) (n_len : mg "len" = none) (c__law_pick : Cal P w K mg base k "_law_pick" ["_law_bag_here", "_law_top"] spPick) : FnOk P w K mg base CX0 (k + 1) f fd ["_law_bag_here", "_law_some"] (spOf K) := by
  have sc := sc__law_of
  refine F.ok sc (fun vs H Q E h => ?_) (fun cdv A outer s H vs Q E hr h => ?_)
  · obtain ⟨b, l, xs, rfl, _⟩ := h
    rfl
  · obtain ⟨b, l, xs, rfl, hB, hne, hl, h0, h1, q⟩ := h
    refine ⟨_, (pss_one (ps_ret (pe_ix (ix_listK K rfl) (pv 1) (pe_callC c__law_pick hr (by rfl) (pa_cons (pv 0) (pa_cons (pe_callB (call_lenK K rfl) (by rfl) n_len PySem.boot_len (pa_cons (pv 1) pa_nil)) pa_nil))) (fun _ _ => rfl)))), ?_⟩
    refine ⟨_, rfl, _, rfl, _, rfl, l, xs, rfl, .inl (SqL.of hl), b, _, rfl, hB, by omega, by omega, fun H' d mv hB' d0 d1 => ?_⟩
    obtain ⟨v, hv⟩ : ∃ v, xs[d.toNat]? = some v := ⟨_, List.getElem?_eq_getElem (by omega)⟩
    have hat : atI xs d = some v := by
      have := atI_nat (xs := xs) (j := d.toNat) (v := v) hv
      rwa [Int.toNat_of_nonneg d0] at this
    exact ⟨l, xs, d, v, rfl, rfl, SqL.of (mv l _ hne hl), hat, q H' v mv hB' (List.mem_of_getElem? hv)⟩
theorem sc__law_row : FnScope ["_law_bag_here", "_law_most", "_law_few", "_law_kind", "_law_size", "_law_k"] ["_law_bag_here", "_law_most"] (defScope s__law_row) := ⟨rfl, rfl, rfl, by decide +kernel, rfl, by decide +kernel, by decide +kernel⟩
def spRow : Sp := fun vs H Q _ => ∃ (b : Addr × Addr) (m : Int), vs = [.ref b.1, .int m] ∧ Bag b H ∧ 0 ≤ m ∧ m ≤ 1000 ∧ ∀ (H' : Hp) (p : Addr) (ns : List Int), Mv b.1 H H' → Bag b H' → H p = none → H' p = some (.lst (ns.map V.int)) → Bytes ns → (ns.length : Int) ≤ m → Q (.ref p) H'
theorem rep1 (d : Int) : ∀ m : Nat, (List.replicate m [V.int d]).flatten = (List.replicate m d).map V.int
  | 0 => rfl
  | m + 1 => by
    rw [List.replicate_succ, List.flatten_cons, rep1 d m, List.replicate_succ]
    rfl
theorem bytes_nil : Bytes [] := fun _ h => absurd h List.not_mem_nil
theorem bytes_snoc {ns : List Int} {z : Int} (h : Bytes ns) (hz : isY z) : Bytes (ns ++ [z]) := fun y hy => by
  rcases List.mem_append.mp hy with e | e
  · exact h y e
  · rw [List.mem_singleton.mp e]
    exact hz
theorem ok__law_row {f : Addr} {fd : FuncData} {k : Nat} (F : Fun K "_law_row" "_law_row" s__law_row f fd) (n_range : mg "range" = none) (c__law_pick : Cal P w K mg base k "_law_pick" ["_law_bag_here", "_law_top"] spPick) : FnOk P w K mg base CX0 (k + 1) f fd ["_law_bag_here", "_law_most"] spRow := by
  have sc := sc__law_row
  refine F.ok sc (fun vs H Q E h => ?_) (fun cdv A outer s H vs Q E hr h => ?_)
  · obtain ⟨b, m, rfl, _⟩ := h
    rfl
  · obtain ⟨b, m, rfl, hB, hm0, hm1, q⟩ := h
    refine ⟨_, (pss_cons (ps_set (i := 2) sc.nd rfl (.inr rfl) (pe_lst (pa_cons (pe_callC c__law_pick hr (by rfl) (pa_cons (pv 0) (pa_cons pe_int pa_nil))) (pa_cons (pe_callC c__law_pick hr (by rfl) (pa_cons (pv 0) (pa_cons pe_int pa_nil))) (pa_cons pe_int pa_nil)))))
 (pss_cons (ps_set (i := 3) sc.nd rfl (.inr rfl) (pe_callC c__law_pick hr (by rfl) (pa_cons (pv 0) (pa_cons pe_int pa_nil))))
 (pss_cons (ps_set (i := 4) sc.nd rfl (.inl rfl) (pe_callC c__law_pick hr (by rfl) (pa_cons (pv 0) (pa_cons (pe_op op_add (pv 1) pe_int) pa_nil))))
 (pss_cons (ps_if (pt_cmpR op_eq (pv 3) pe_int (nomark _))
  (pss_one (ps_ret (pe_lc (own := [("_law_k", 5)]) (g := gName 5) (by rfl) sc.nd (pi_range1 (by rfl) n_range (pa_cons (pv 4) pa_nil)) (blkOk_by (own := [("_law_k", 5)]) (N := ["_law_bag_here", "_law_most", "_law_few", "_law_kind", "_law_size", "_law_k"]) (sc := defScope s__law_row) (by decide +kernel)) (fun _ _ _ _ _ => (pg_name (i := 5) sc.nd rfl (Or.inl rfl))) (fun _ _ _ _ _ => pts_nil) (fun _ _ _ _ _ => (pe_callC c__law_pick hr (by rfl) (pa_cons (pv 0) (pa_cons pe_int pa_nil)))))))
  pss_nil)
 (pss_cons (ps_if (pt_cmpR op_eq (pv 3) pe_int (nomark _))
  (pss_one (ps_ret (pe_op op_rep (pe_lst (pa_cons (pe_ix (ix_listK K rfl) (pv 2) pe_int (fun _ _ => rfl)) pa_nil)) (pv 4))))
  pss_nil)
 (pss_one (ps_ret (pe_lc (own := [("_law_k", 5)]) (g := gName 5) (by rfl) sc.nd (pi_range1 (by rfl) n_range (pa_cons (pv 4) pa_nil)) (blkOk_by (own := [("_law_k", 5)]) (N := ["_law_bag_here", "_law_most", "_law_few", "_law_kind", "_law_size", "_law_k"]) (sc := defScope s__law_row) (by decide +kernel)) (fun _ _ _ _ _ => (pg_name (i := 5) sc.nd rfl (Or.inl rfl))) (fun _ _ _ _ _ => pts_nil) (fun _ _ _ _ _ => (pe_ix (ix_listK K rfl) (pv 2) (pe_callC c__law_pick hr (by rfl) (pa_cons (pv 0) (pa_cons (pv 3) pa_nil))) (fun _ _ => rfl))))))))))), ?_⟩
    refine ⟨_, rfl, b, 256, rfl, hB, by decide, by decide, fun H1 x mv1 hB1 x0 x1 => ?_⟩
    refine ⟨_, rfl, b, 256, rfl, hB1, by decide, by decide, fun H2 y mv2 hB2 y0 y1 => ?_⟩
    refine ⟨(by show 3 ≤ sizeLine; decide), fun pf nf => ?_⟩
    have h3 := (SH.nil hB2).new (o := .lst [.int x, .int y, .int 43]) nf
    have m3 : Mv b.1 H _ := (mv1.trans mv2).trans (Mv.of (same_upd (o := .lst [.int x, .int y, .int 43]) nf))
    refine ⟨_, rfl, b, 4, rfl, h3.bag, by decide, by decide, fun H4 kd mv4 hB4 k0 k1 => ?_⟩
    have h4 := h3.mv mv4 hB4
    refine ⟨_, rfl, _, rfl, _, _, rfl, rfl, b, m + 1, rfl, hB4, by omega, by omega, fun H5 sz mv5 hB5 z0 z1 => ?_⟩
    have h5 := h4.mv mv5 hB5
    have m5 : Mv b.1 H H5 := (m3.trans mv4).trans mv5
    have done : ∀ (D : Addr) (H6 : Hp) (ns : List Int), H5 D = none → Mv b.1 H5 H6 → Bag b H6 → H6 D = some (.lst (ns.map V.int)) → Bytes ns → (ns.length : Int) ≤ sz → Q (.ref D) H6 := fun D H6 ns nD mv6 hB6 eD hby hl =>
      q H6 D ns (m5.trans mv6) hB6 (m5.none (hB5.ne nD) nD) eD hby (by omega)
    refine ⟨_, rfl, rfl, _, rfl, ite2 (fun e => ?_) (fun e => ?_)⟩
    · refine ⟨_, rfl, sz, rfl, by omega, by omega, fun D nD => lc_range (lo := 0) (n := sz.toNat) (fun i H' => Mv b.1 H5 H' ∧ ∃ ns : List Int, SH b H' [(D, .lst (ns.map V.int))] ∧ Bytes ns ∧ ns.length = i) ⟨Mv.of (same_upd nD), [], (SH.nil hB5).new nD, bytes_nil, rfl⟩ ?_ ?_⟩
      · rintro i H6 hi ⟨mv6, ns, h6, hby, hl⟩
        refine ⟨rfl, tYes_by (iteT ?_)⟩
        refine ⟨_, rfl, b, 256, rfl, h6.bag, by decide, by decide, fun H7 z mv7 hB7 z0' z1' => ?_⟩
        have h7 := h6.mv mv7 hB7
        refine ⟨_, h7.get (.head _), ?_, ?_, ns ++ [z], ?_, bytes_snoc hby ⟨z0', z1'⟩, by simp [hl]⟩
        · rw [List.length_map, hl]
          exact sz4l (by omega)
        · intro c o ne hc
          rw [upd_ne (ne_of_none hc nD)]
          exact mv7 c o ne (mv6 c o ne hc)
        · rw [List.map_append]
          exact h7.put (fun q hq => absurd hq List.not_mem_nil)
      · rintro H6 ⟨mv6, ns, h6, hby, hl⟩
        exact done D H6 ns nD mv6 h6.bag (h6.get (.head _)) hby (by omega)
    · have kne : ¬ kd = 0 := fun z => e (decide_eq_true (congrArg V.int z))
      refine ⟨_, rfl, rfl, _, rfl, ite2 (fun e2 => ?_) (fun e2 => ?_)⟩
      · refine ⟨_, rfl, pf, _, 0, .int x, rfl, rfl, SqL.of (h5.get (.head _)), rfl, (by show 1 ≤ sizeLine; decide), fun p6 n6 => ?_⟩
        have h6 := h5.new (o := .lst [.int x]) n6
        refine ⟨_, rfl, p6, sz, _, rfl, rfl, h6.get (.head _), by omega, by omega, ?_, fun p7 n7 => ?_⟩
        · show 1 * sz.toNat ≤ sizeLine
          exact sz4 (by omega)
        rw [rep1]
        have s7 := (same_upd (o := .lst [.int x]) n6).trans (same_upd (o := .lst ((List.replicate sz.toNat x).map V.int)) n7)
        exact done p7 _ (List.replicate sz.toNat x) ((same_upd n6).free n7) (Mv.of s7) (hB5.same s7) upd_same (fun z hz => by rw [List.eq_of_mem_replicate hz]; exact ⟨x0, x1⟩) (by rw [List.length_replicate]; omega)
      · have kne1 : ¬ kd = 1 := fun z => e2 (decide_eq_true (congrArg V.int z))
        refine ⟨_, rfl, sz, rfl, by omega, by omega, fun D nD => lc_range (lo := 0) (n := sz.toNat) (fun i H' => Mv b.1 H5 H' ∧ ∃ ns : List Int, SH b H' [(D, .lst (ns.map V.int)), (pf, .lst [.int x, .int y, .int 43])] ∧ Bytes ns ∧ ns.length = i) ⟨Mv.of (same_upd nD), [], h5.new nD, bytes_nil, rfl⟩ ?_ ?_⟩
        · rintro i H6 hi ⟨mv6, ns, h6, hby, hl⟩
          refine ⟨rfl, tYes_by (iteT ?_)⟩
          refine ⟨_, rfl, _, rfl, _, rfl, b, kd, rfl, h6.bag, by omega, by omega, fun H7 j mv7 hB7 j0 j1 => ?_⟩
          have h7 := h6.mv mv7 hB7
          obtain ⟨z, hz, hat⟩ : ∃ z : Int, isY z ∧ atI [V.int x, V.int y, V.int 43] j = some (.int z) := by
            have : j = 0 ∨ j = 1 ∨ j = 2 := by omega
            rcases this with rfl | rfl | rfl
            · exact ⟨x, ⟨x0, x1⟩, rfl⟩
            · exact ⟨y, ⟨y0, y1⟩, rfl⟩
            · exact ⟨43, ⟨by decide, by decide⟩, rfl⟩
          refine ⟨pf, _, j, _, rfl, rfl, SqL.of (h7.get (.tail _ (.head _))), hat, ?_⟩
          refine ⟨_, h7.get (.head _), ?_, ?_, ns ++ [z], ?_, bytes_snoc hby hz, by simp [hl]⟩
          · rw [List.length_map, hl]
            exact sz4l (by omega)
          · intro c o ne hc
            rw [upd_ne (ne_of_none hc nD)]
            exact mv7 c o ne (mv6 c o ne hc)
          · rw [List.map_append]
            exact h7.put (h5.apart nD)
        · rintro H6 ⟨mv6, ns, h6, hby, hl⟩
          exact done D H6 ns nD mv6 h6.bag (h6.get (.head _)) hby (by omega)
/-! ### guards as objects -/
structure GdC (K : PySem.W.Frag) (C : Addr) : Prop where
  cls : Cls K C
  np : NoAttr K C "pause"
  ns : NoAttr K C "silent"
  nm : NoAttr K C "marks"
abbrev gdF (p s m : Int) : List (Str × V) := [(("pause" : Str), .int p), (("silent" : Str), .int s), (("marks" : Str), .int m)]
structure GS where
  p : Nat
  s : Nat
  m : Nat
def gBoth (S : GS) (row : List Int) : List Int := List.replicate S.m 43 ++ row
def gHolds (S : GS) (row : List Int) : Prop := (0 < S.m ∨ S.p ≤ S.s) ∧ (gBoth S row).length ≤ 3 ∧ (gBoth S row).count 43 = (gBoth S row).length
instance (S : GS) (row : List Int) : Decidable (gHolds S row) := by unfold gHolds; exact inferInstance
/-- a beat of a guard: the state behind, what is let through, whether the sign was found -/
def gBeat (S : GS) (row : List Int) : GS × List Int × Bool :=
  if row = [] then
    if S.s + 1 < S.p then (⟨S.p, S.s + 1, S.m⟩, [], false)
    else if S.m = 3 then (⟨S.p, S.s + 1, 0⟩, [], true) else (⟨S.p, S.s + 1, 0⟩, List.replicate S.m 43, false)
  else if gHolds S row then (⟨S.p, 0, (gBoth S row).length⟩, [], false) else (⟨S.p, 0, 0⟩, gBoth S row, false)
def tGd (C r : Addr) (S : GS) : Th := ⟨[r], fun H => ∃ dx, H r = some (.ins C dx (gdF S.p S.s S.m)), fun H H' k h => by
  obtain ⟨dx, h1⟩ := h
  exact ⟨dx, k _ (.head _) _ h1⟩, fun H h a ha => by
  obtain ⟨dx, h1⟩ := h
  rw [List.mem_singleton.mp ha]
  exact ⟨_, h1, trivial⟩⟩
def spGi (C cN : Addr) : Sp := fun vs H Q E => ∃ (r dx : Addr) (n : Int), vs = [.ref r, .int n] ∧ H r = some (.ins C dx []) ∧
  (1 ≤ n → n ≤ 20 → Q .non (upd H r (.ins C dx (gdF n n 0)))) ∧
  (n < 1 ∨ 20 < n → ∀ H' d, Same H H' → H d = none → H' d = some (.xd [(("word" : Str), .str "BadCount")]) → E (.ref cN) (some d) H')
/-- what a beat tells at t: the list at o -/
structure GdOut (C r t o : Addr) (S : GS) (row : List Int) (H H' : Hp) : Prop where
  mv : MvF [r] H H'
  nt : H t = none
  no : H o = none
  et : H' t = some (.tup [.ref o, .bl (gBeat S row).2.2])
  eo : H' o = some (.lst ((gBeat S row).2.1.map V.int))
  er : ∃ dx, H' r = some (.ins C dx (gdF (gBeat S row).1.p (gBeat S row).1.s (gBeat S row).1.m))
def spGs (C : Addr) : Sp := fun vs H Q _ => ∃ (r : Addr) (S : GS), vs = [.ref r] ∧ (tGd C r S).P H ∧ S.m ≤ 1000 ∧ ∀ (H' : Hp) (t o : Addr), GdOut C r t o S [] H H' → Q (.ref t) H'
def spGb (K : PySem.W.Frag) (C cB : Addr) : Sp := fun vs H Q E => ∃ (r a : Addr) (S : GS) (ns : List Int), vs = [.ref r, .ref a] ∧ (tGd C r S).P H ∧ SqL K H a (ns.map V.int) ∧ S.m ≤ 1000 ∧ ns.length ≤ 10000 ∧
  (Bytes ns → ∀ (H' : Hp) (t o : Addr), GdOut C r t o S ns H H' → Q (.ref t) H') ∧
  (∀ (i : Nat) (z : Int), ns[i]? = some z → ¬ isY z → Bytes (ns.take i) → ∀ H' d, Same H H' → H d = none → H' d = some (.xd [(("at" : Str), .int (i : Int)), (("word" : Str), .str "BadByte")]) → E (.ref cB) (some d) H')
def spGh (C : Addr) : Sp := fun vs H Q _ => ∃ (r : Addr) (S : GS), vs = [.ref r] ∧ (tGd C r S).P H ∧ Q (.int S.m) H
def spGt (C : Addr) : Sp := fun vs H Q _ => ∃ (r : Addr) (S : GS), vs = [.ref r] ∧ (tGd C r S).P H ∧ 1 ≤ S.p ∧ S.p ≤ 20 ∧ ∀ (H' : Hp) (r' : Addr), Same H H' → H r' = none → (tGd C r' S).P H' → Q (.ref r') H'
theorem sc_Guard___init__ : FnScope ["self", "pause"] ["self", "pause"] (defScope m_Guard___init__) := ⟨rfl, rfl, rfl, by decide +kernel, rfl, by decide +kernel, by decide +kernel⟩
theorem ok_Guard___init__ {f C cN : Addr} {fd : FuncData} {k : Nat} {kws : List (Str × V)} {t20 : Tok} (F : FunD K "__init__" "Guard.__init__" (defArgs m_Guard___init__) (defBody m_Guard___init__) (defScope m_Guard___init__) [] kws f fd) (R : GdC K C) (g_LONGEST_PAUSE : mg "LONGEST_PAUSE" = some (.int 20 t20)) (x_BadCount : XcOk P w K mg base k "BadCount" cN (spIni0 K cN "BadCount")) :
    FnOk P w K mg base (L2.CX P w) (k + 2) f fd ["self", "pause"] (spGi C cN) := by
  have sc := sc_Guard___init__
  refine F.ok sc (fun vs H Q E h => ?_) (fun cdv A outer s H vs Q E hr h => ?_)
  · obtain ⟨r, dx, n, rfl, _⟩ := h
    rfl
  · obtain ⟨r, dx, n, rfl, hr_, q, qn⟩ := h
    refine ⟨_, (pss_cons (ps_if (PW.pt (pw_or (pt_cmpR op_lt (pv 1) pe_int (nomark _)) (pw_or1 (pt_cmpR op_gt (pv 1) (pe_glob (v := .int 20) (by rfl) g_LONGEST_PAUSE ⟨_, rfl⟩) (nomark _)))))
  (pss_one (ps_raise rfl (takes_of rfl rfl rfl rfl) (pmk_c0 x_BadCount hr (by rfl))))
  pss_nil)
 (pss_cons (ps_fldK K rfl (pv 0) (pv 1))
 (pss_cons (ps_fldK K rfl (pv 0) (pv 1))
 (pss_one (ps_fldK K rfl (pv 0) pe_int))))), ?_⟩
    refine ⟨_, rfl, _, _, rfl, rfl, _, rfl, ite2 (fun e => ?_) (fun e => ?_)⟩
    · have e : n < 1 := of_decide_eq_true e
      exact iteT (mk_inner0 (fun H3 d s3 nd ed => qn (.inl e) H3 d s3 nd ed))
    · have e0 : ¬ n < 1 := fun y => e (decide_eq_true y)
      refine ⟨_, rfl, _, _, rfl, rfl, _, rfl, ite2 (fun e => ?_) (fun e => ?_)⟩
      · have e : 20 < n := of_decide_eq_true e
        exact mk_inner0 (fun H3 d s3 nd ed => qn (.inr e) H3 d s3 nd ed)
      · have e1 : ¬ (20 : Int) < n := fun y => e (decide_eq_true y)
        refine ⟨_, rfl, _, rfl, r, C, dx, _, rfl, hr_, R.cls, R.np, (by show 0 < 1000; decide), ?_⟩
        refine ⟨_, rfl, _, rfl, r, C, dx, _, rfl, upd_same, R.cls, R.ns, (by show 1 < 1000; decide), ?_⟩
        rw [upd_upd]
        refine ⟨_, rfl, r, C, dx, _, rfl, upd_same, R.cls, R.nm, (by show 2 < 1000; decide), ?_⟩
        rw [upd_upd]
        exact q (by omega) (by omega)
theorem sc_Guard_beat_of_silence : FnScope ["self", "marks"] ["self"] (defScope m_Guard_beat_of_silence) := ⟨rfl, rfl, rfl, by decide +kernel, rfl, by decide +kernel, by decide +kernel⟩
theorem ok_Guard_beat_of_silence {f C : Addr} {fd : FuncData} {k : Nat} {tM tS : Tok} (F : Fun K "beat_of_silence" "Guard.beat_of_silence" m_Guard_beat_of_silence f fd) (R : GdC K C) (g_MARK_KEY : mg "MARK_KEY" = some (.int 43 tM)) (g_SIGN_MARKS : mg "SIGN_MARKS" = some (.int 3 tS)) :
    FnOk P w K mg base CX0 (k + 1) f fd ["self"] (spGs C) := by
  have sc := sc_Guard_beat_of_silence
  refine F.ok sc (fun vs H Q E h => ?_) (fun cdv A outer s H vs Q E hr h => ?_)
  · obtain ⟨r, S, rfl, _⟩ := h
    rfl
  · obtain ⟨r, S, rfl, ⟨dx, hins⟩, hm, q⟩ := h
    refine ⟨_, (pss_cons (ps_fldaugK K rfl (pv 0) pe_int in_add)
 (pss_cons (ps_if (pt_cmpR op_lt (pe_fldK K rfl (pv 0)) (pe_fldK K rfl (pv 0)) (nomark _))
  (pss_one (ps_ret (pe_tup (pa_cons (pe_lst pa_nil) (pa_cons pe_bl pa_nil)))))
  pss_nil)
 (pss_cons (ps_set (i := 1) sc.nd rfl (.inl rfl) (pe_fldK K rfl (pv 0)))
 (pss_cons (ps_fldK K rfl (pv 0) pe_int)
 (pss_cons (ps_if (pt_cmpR op_eq (pv 1) (pe_glob (v := .int 3) (by rfl) g_SIGN_MARKS ⟨_, rfl⟩) (nomark _))
  (pss_one (ps_ret (pe_tup (pa_cons (pe_lst pa_nil) (pa_cons pe_bl pa_nil)))))
  pss_nil)
 (pss_one (ps_ret (pe_tup (pa_cons (pe_op op_rep (pe_lst (pa_cons (pe_glob (v := .int 43) (by rfl) g_MARK_KEY ⟨_, rfl⟩) pa_nil)) (pv 1)) (pa_cons pe_bl pa_nil)))))))))), ?_⟩
    refine ⟨_, rfl, r, C, dx, _, _, rfl, hins, R.cls, R.ns, rfl, _, _, rfl, rfl, dx, _, hins, (by show 3 < 1000; decide), ?_⟩
    have ep : putF "silent" (.int ((S.s : Int) + 1)) (gdF S.p S.s S.m) = gdF S.p (S.s + 1 : Nat) S.m := rfl
    rw [ep]
    have m1 : MvF [r] H (upd H r (.ins C dx (gdF S.p (S.s + 1 : Nat) S.m))) := (MvF.refl [r] H).upd (.head _)
    have e1 : upd H r (.ins C dx (gdF S.p (S.s + 1 : Nat) S.m)) r = some (.ins C dx (gdF S.p (S.s + 1 : Nat) S.m)) := upd_same
    generalize upd H r (.ins C dx (gdF S.p (S.s + 1 : Nat) S.m)) = H1 at m1 e1 ⊢
    have gb : gBeat S [] = if S.s + 1 < S.p then (⟨S.p, S.s + 1, S.m⟩, [], false) else if S.m = 3 then (⟨S.p, S.s + 1, 0⟩, [], true) else (⟨S.p, S.s + 1, 0⟩, List.replicate S.m 43, false) := if_pos rfl
    refine ⟨_, rfl, r, C, dx, _, _, rfl, e1, R.cls, R.ns, rfl, _, rfl, r, C, dx, _, _, rfl, e1, R.cls, R.np, rfl, _, _, rfl, rfl, _, rfl, ite2 (fun e => ?_) (fun e => ?_)⟩
    · have e : S.s + 1 < S.p := by have := of_decide_eq_true e; omega
      refine ⟨Nat.zero_le _, fun o no => ⟨(by show 2 ≤ sizeLine; decide), fun t nt => ?_⟩⟩
      have nto : o ≠ t := ne_of_none upd_same nt
      have s1 := same_upd (o := .lst []) no
      have s2 := s1.trans (same_upd (o := .tup [.ref o, .bl false]) nt)
      refine q _ t o ⟨m1.same s2, m1.free (s1.free nt), m1.free no, ?_, ?_, dx, ?_⟩
      · rw [upd_same, gb, if_pos e]
      · rw [upd_ne nto, upd_same, gb, if_pos e]
        rfl
      · rw [s2 _ _ e1, gb, if_pos e]
    · have e : ¬ S.s + 1 < S.p := fun y => e (decide_eq_true (by omega))
      refine ⟨_, rfl, r, C, dx, _, _, rfl, e1, R.cls, R.nm, rfl, ?_⟩
      refine name_by ?_
      refine ⟨_, rfl, r, C, dx, _, rfl, e1, R.cls, R.nm, (by show 3 < 1000; decide), ?_⟩
      have ep2 : putF "marks" (.int 0) (gdF S.p (S.s + 1 : Nat) S.m) = gdF S.p (S.s + 1 : Nat) 0 := rfl
      rw [ep2]
      have m2 : MvF [r] H (upd H1 r (.ins C dx (gdF S.p (S.s + 1 : Nat) 0))) := m1.upd (.head _)
      have e2 : upd H1 r (.ins C dx (gdF S.p (S.s + 1 : Nat) 0)) r = some (.ins C dx (gdF S.p (S.s + 1 : Nat) 0)) := upd_same
      generalize upd H1 r (.ins C dx (gdF S.p (S.s + 1 : Nat) 0)) = H2 at m2 e2 ⊢
      refine ⟨_, rfl, rfl, _, rfl, ite2 (fun e3 => ?_) (fun e3 => ?_)⟩
      · have e3 : S.m = 3 := by have := V.int.inj (of_decide_eq_true e3); omega
        refine ⟨Nat.zero_le _, fun o no => ⟨(by show 2 ≤ sizeLine; decide), fun t nt => ?_⟩⟩
        have nto : o ≠ t := ne_of_none upd_same nt
        have s1 := same_upd (o := .lst []) no
        have s2 := s1.trans (same_upd (o := .tup [.ref o, .bl true]) nt)
        refine q _ t o ⟨m2.same s2, m2.free (s1.free nt), m2.free no, ?_, ?_, dx, ?_⟩
        · rw [upd_same, gb, if_neg e, if_pos e3]
        · rw [upd_ne nto, upd_same, gb, if_neg e, if_pos e3]
          rfl
        · rw [s2 _ _ e2, gb, if_neg e, if_pos e3]
          rfl
      · have e3 : ¬ S.m = 3 := fun y => e3 (decide_eq_true (by rw [y]; rfl))
        refine ⟨(by show 1 ≤ sizeLine; decide), fun p3 n3 => ?_⟩
        refine ⟨_, rfl, p3, (S.m : Int), _, rfl, rfl, upd_same, by omega, by omega, ?_, fun o no => ?_⟩
        · show 1 * (S.m : Int).toNat ≤ sizeLine
          exact sz4 (by omega)
        rw [rep1, Int.toNat_natCast]
        refine ⟨(by show 2 ≤ sizeLine; decide), fun t nt => ?_⟩
        have nto : o ≠ t := ne_of_none upd_same nt
        have s0 := same_upd (o := .lst [.int 43]) n3
        have s1 := s0.trans (same_upd (o := .lst ((List.replicate S.m (43 : Int)).map V.int)) no)
        have s2 := s1.trans (same_upd (o := .tup [.ref o, .bl false]) nt)
        refine q _ t o ⟨m2.same s2, m2.free (s1.free nt), m2.free (s0.free no), ?_, ?_, dx, ?_⟩
        · rw [upd_same, gb, if_neg e, if_neg e3]
        · rw [upd_ne nto, upd_same, gb, if_neg e, if_neg e3]
        · rw [s2 _ _ e2, gb, if_neg e, if_neg e3]
          rfl
theorem sc_Guard_beat : FnScope ["self", "row", "may_be_sign", "both"] ["self", "row"] (defScope m_Guard_beat) := ⟨rfl, rfl, rfl, by decide +kernel, rfl, by decide +kernel, by decide +kernel⟩
theorem ok_Guard_beat {f C cB : Addr} {fd : FuncData} {k : Nat} {tM tS : Tok} (F : Fun K "beat" "Guard.beat" m_Guard_beat f fd) (R : GdC K C) (n_len : mg "len" = none) (n_list : mg "list" = none) (g_MARK_KEY : mg "MARK_KEY" = some (.int 43 tM)) (g_SIGN_MARKS : mg "SIGN_MARKS" = some (.int 3 tS))
    (c_check_bytes : CalX P w K mg base k "check_bytes" ["row"] (spCheckY K cB)) (c_Guard_beat_of_silence : CalM CX0 P w K mg base k C "beat_of_silence" ["self"] (spGs C)) :
    FnOk P w K mg base (L2.CX P w) (k + 1) f fd ["self", "row"] (spGb K C cB) := by
  have sc := sc_Guard_beat
  refine F.okX sc (fun vs H Q E h => ?_) (fun cdv A outer s H vs Q E hr h => ?_)
  · obtain ⟨r, a, S, ns, rfl, _⟩ := h
    rfl
  · obtain ⟨r, a, S, ns, rfl, ⟨dx, hins⟩, hS, hm, hlen, q, qe⟩ := h
    refine ⟨_, (pss_cons (ps_expr (pe_callP c_check_bytes hr (passes_call (takes_of rfl rfl rfl rfl) (fun _ _ _ _ h => h)) (by rfl) (pa_cons (pv 1) pa_nil)))
 (pss_cons (ps_if (pt_cmpR op_eq (pe_callB (call_lenK K rfl) (by rfl) n_len PySem.boot_len (pa_cons (pv 1) pa_nil)) pe_int (nomark _))
  (pss_one (ps_ret (pe_methC0 (pv 0) c_Guard_beat_of_silence hr)))
  pss_nil)
 (pss_cons (ps_set (i := 2) sc.nd rfl (.inl rfl) (pe_or (pe_cmpR op_gt (pe_fldK K rfl (pv 0)) pe_int (nomark _)) (pe_one (pe_cmpR op_ge (pe_fldK K rfl (pv 0)) (pe_fldK K rfl (pv 0)) (nomark _)))))
 (pss_cons (ps_fldK K rfl (pv 0) pe_int)
 (pss_cons (ps_set (i := 3) sc.nd rfl (.inl rfl) (pe_op op_cat (pe_op op_rep (pe_lst (pa_cons (pe_glob (v := .int 43) (by rfl) g_MARK_KEY ⟨_, rfl⟩) pa_nil)) (pe_fldK K rfl (pv 0))) (pe_callTy (call_listK K rfl) (by rfl) n_list (by decide +kernel) (pa_cons (pv 1) pa_nil))))
 (pss_cons (ps_if (PW.pt (pw_and (pt_val (pv 2)) (pw_and (pt_cmpR op_le (pe_callB (call_lenK K rfl) (by rfl) n_len PySem.boot_len (pa_cons (pv 3) pa_nil)) (pe_glob (v := .int 3) (by rfl) g_SIGN_MARKS ⟨_, rfl⟩) (nomark _)) (pw_and1 (pt_cmpR op_eq (pe_bmK K rfl PySem.F.plainAttrs_list PySem.F.slot_list_count PySem.F.type_list_count (mt_lcountK K rfl) (pv 3) (pa_cons (pe_glob (v := .int 43) (by rfl) g_MARK_KEY ⟨_, rfl⟩) pa_nil)) (pe_callB (call_lenK K rfl) (by rfl) n_len PySem.boot_len (pa_cons (pv 3) pa_nil)) (nomark _))))))
  (pss_cons (ps_fldK K rfl (pv 0) (pe_callB (call_lenK K rfl) (by rfl) n_len PySem.boot_len (pa_cons (pv 3) pa_nil)))
 (pss_one (ps_ret (pe_tup (pa_cons (pe_lst pa_nil) (pa_cons pe_bl pa_nil))))))
  pss_nil)
 (pss_cons (ps_fldK K rfl (pv 0) pe_int)
 (pss_one (ps_ret (pe_tup (pa_cons (pv 3) (pa_cons pe_bl pa_nil)))))))))))), ?_⟩
    refine ⟨_, rfl, a, ns, rfl, hS, by omega, (fun hY H1 s1 => ?_), qe⟩
    have q := q hY
    have i1 := s1 _ _ hins
    have hS1 := s1.seq hS
    refine ⟨_, rfl, a, _, rfl, .inl hS1, rfl, _, rfl, ite2 (fun e => ?_) (fun e => ?_)⟩
    · have e : ns = [] := by
        have := V.int.inj (of_decide_eq_true e)
        rw [List.length_map] at this
        exact List.length_eq_zero_iff.mp (by omega)
      subst e
      refine ⟨_, rfl, r, dx, _, rfl, i1, rfl, r, S, rfl, ⟨dx, i1⟩, hm, fun H2 t o G => ?_⟩
      exact q H2 t o ⟨(MvF.of s1).trans G.mv, s1.free G.nt, s1.free G.no, G.et, G.eo, G.er⟩
    · have e : ¬ ns = [] := fun y => e (decide_eq_true (by rw [y]; rfl))
      have gb : gBeat S ns = if gHolds S ns then (⟨S.p, 0, (gBoth S ns).length⟩, [], false) else (⟨S.p, 0, 0⟩, gBoth S ns, false) := if_neg e
      unfold tNext
      dsimp only
      refine asg_by (J := fun v H2 => v = .bl (decide (0 < S.m ∨ S.p ≤ S.s)) ∧ H1 = H2) ?_ (fun rest => ?_)
      · rintro v H2 ⟨rfl, rfl⟩
        refine ⟨_, rfl, r, C, dx, _, rfl, i1, R.cls, R.ns, (by show 3 < 1000; decide), ?_⟩
        have ep : putF "silent" (.int 0) (gdF S.p S.s S.m) = gdF S.p 0 S.m := rfl
        rw [ep]
        have m2 : MvF [r] H (upd H1 r (.ins C dx (gdF S.p 0 S.m))) := (MvF.of s1).upd (.head _)
        have e2 : upd H1 r (.ins C dx (gdF S.p 0 S.m)) r = some (.ins C dx (gdF S.p 0 S.m)) := upd_same
        have hS2 : SqL K (upd H1 r (.ins C dx (gdF S.p 0 S.m))) a (ns.map V.int) := by
          refine lk_l (lk_mv (b := r) (Mv.refl r H1).upd ?_) hS1
          intro o ho
          rw [i1] at ho
          cases ho
          rintro (⟨_, z⟩ | ⟨_, z⟩ | ⟨_, _, z⟩) <;> cases z
        generalize upd H1 r (.ins C dx (gdF S.p 0 S.m)) = H2 at m2 e2 hS2 ⊢
        refine ⟨(by show 1 ≤ sizeLine; decide), fun p3 n3 => ?_⟩
        have s3 := same_upd (o := .lst [.int 43]) n3
        refine ⟨_, rfl, r, C, dx, _, _, rfl, s3 _ _ e2, R.cls, R.nm, rfl, p3, (S.m : Int), _, rfl, rfl, upd_same, by omega, by omega, ?_, fun p4 n4 => ?_⟩
        · show 1 * (S.m : Int).toNat ≤ sizeLine
          exact sz4 (by omega)
        rw [rep1, Int.toNat_natCast]
        have s4 := s3.trans (same_upd (o := .lst ((List.replicate S.m (43 : Int)).map V.int)) n4)
        refine ⟨_, rfl, a, _, rfl, .inl (s4.seq hS2), fun p5 n5 => ?_⟩
        have s5 := s4.trans (same_upd (o := .lst (ns.map V.int)) n5)
        refine ⟨p4, p5, _, _, rfl, rfl, same_upd n5 _ _ upd_same, upd_same, ?_, fun p6 n6 => ?_⟩
        · rw [List.length_map, List.length_map, List.length_replicate]
          exact sz4 (by omega)
        rw [← List.map_append]
        have eb : List.replicate S.m (43 : Int) ++ ns = gBoth S ns := rfl
        rw [eb]
        have s6 := s5.trans (same_upd (o := .lst ((gBoth S ns).map V.int)) n6)
        have m6 := m2.same s6
        have e6 := s6 _ _ e2
        have eb6 : upd (upd (upd (upd H2 p3 (.lst [.int 43])) p4 (.lst ((List.replicate S.m (43 : Int)).map V.int))) p5 (.lst (ns.map V.int))) p6 (.lst ((gBoth S ns).map V.int)) p6 = some (.lst ((gBoth S ns).map V.int)) := upd_same
        have n6' : H p6 = none := m2.free (s5.free n6)
        have hbl : (gBoth S ns).length ≤ 11000 := by
          unfold gBoth
          rw [List.length_append, List.length_replicate]
          omega
        generalize upd (upd (upd (upd H2 p3 (.lst [.int 43])) p4 (.lst ((List.replicate S.m (43 : Int)).map V.int))) p5 (.lst (ns.map V.int))) p6 (.lst ((gBoth S ns).map V.int)) = H6 at m6 e6 eb6 ⊢
        have r6 : p6 ≠ r := (ne_of_none hins n6').symm
        have no : ¬ gHolds S ns → sFld K (tVar 0) (tC (.int 0)) "marks" { nx := tRet (tTup (tCons (tVar 3) (tCons (tC (.bl false)) tNil))) { nx := fun _ H' => Q V.non H', rt := Q }, rt := Q } [some (.ref r), some (.ref a), some (.bl (decide (0 < S.m ∨ S.p ≤ S.s))), some (.ref p6)] H6 := by
          intro nh
          refine ⟨_, rfl, r, C, dx, _, rfl, e6, R.cls, R.nm, (by show 3 < 1000; decide), ?_⟩
          have ep2 : putF "marks" (.int 0) (gdF S.p 0 S.m) = gdF S.p 0 0 := rfl
          rw [ep2]
          refine ⟨_, rfl, (by show 2 ≤ sizeLine; decide), fun t nt => ?_⟩
          have e7 : upd H6 r (.ins C dx (gdF S.p 0 0)) r = some (.ins C dx (gdF S.p 0 0)) := upd_same
          have m7 := m6.upd (o := .ins C dx (gdF S.p 0 0)) (p := r) (.head _)
          have eb7 : upd H6 r (.ins C dx (gdF S.p 0 0)) p6 = some (.lst ((gBoth S ns).map V.int)) := by rw [upd_ne r6]; exact eb6
          generalize upd H6 r (.ins C dx (gdF S.p 0 0)) = H7 at e7 m7 eb7 nt ⊢
          have s8 := same_upd (o := .tup [.ref p6, .bl false]) nt
          refine q _ t p6 ⟨m7.same s8, m7.free nt, n6', ?_, ?_, dx, ?_⟩
          · rw [upd_same, gb, if_neg nh]
          · rw [s8 _ _ eb7, gb, if_neg nh]
          · rw [s8 _ _ e7, gb, if_neg nh]
            rfl
        refine ⟨_, rfl, _, rfl, ite2 (fun e3 => ?_) (fun e3 => ?_)⟩
        · have e3 : 0 < S.m ∨ S.p ≤ S.s := of_decide_eq_true e3
          refine ⟨_, rfl, p6, _, rfl, .inl (SqL.of eb6), _, _, rfl, rfl, _, rfl, ite2 (fun e4 => ?_) (fun e4 => ?_)⟩
          · have e4 : (gBoth S ns).length ≤ 3 := by
              have := of_decide_eq_true e4
              rw [List.length_map] at this
              omega
            refine ⟨_, rfl, .inl ⟨rfl, _, SqL.of eb6⟩, p6, _, 43, rfl, rfl, SqL.of eb6, _, rfl, p6, _, rfl, .inl (SqL.of eb6), rfl, _, rfl, ite2 (fun e5 => ?_) (fun e5 => ?_)⟩
            · have e5 : (gBoth S ns).count 43 = (gBoth S ns).length := by
                have := V.int.inj (of_decide_eq_true e5)
                rw [List.length_map] at this
                omega
              have yes : gHolds S ns := ⟨e3, e4, e5⟩
              refine ⟨_, rfl, p6, _, rfl, .inl (SqL.of eb6), _, rfl, r, C, dx, _, rfl, e6, R.cls, R.nm, (by show 3 < 1000; decide), ?_⟩
              rw [List.length_map]
              have ep2 : putF "marks" (.int ((gBoth S ns).length : Nat)) (gdF S.p 0 S.m) = gdF S.p 0 (gBoth S ns).length := rfl
              rw [ep2]
              have e7 : upd H6 r (.ins C dx (gdF S.p 0 (gBoth S ns).length)) r = some (.ins C dx (gdF S.p 0 (gBoth S ns).length)) := upd_same
              have m7 := m6.upd (o := .ins C dx (gdF S.p 0 (gBoth S ns).length)) (p := r) (.head _)
              generalize upd H6 r (.ins C dx (gdF S.p 0 (gBoth S ns).length)) = H7 at e7 m7 ⊢
              refine ⟨Nat.zero_le _, fun o no => ⟨(by show 2 ≤ sizeLine; decide), fun t nt => ?_⟩⟩
              have nto : o ≠ t := ne_of_none upd_same nt
              have t1 := same_upd (o := .lst []) no
              have t2 := t1.trans (same_upd (o := .tup [.ref o, .bl false]) nt)
              refine q _ t o ⟨m7.same t2, m7.free (t1.free nt), m7.free no, ?_, ?_, dx, ?_⟩
              · rw [upd_same, gb, if_pos yes]
              · rw [upd_ne nto, upd_same, gb, if_pos yes]
                rfl
              · rw [t2 _ _ e7, gb, if_pos yes]
                rfl
            · refine no (fun h => e5 (decide_eq_true ?_))
              rw [h.2.2, List.length_map]
          · refine iteF (no (fun h => e4 (decide_eq_true ?_)))
            have := h.2.1
            rw [List.length_map]
            omega
        · refine iteF (no (fun h => e3 (decide_eq_true h.1)))
      · refine ⟨_, rfl, r, C, dx, _, _, rfl, i1, R.cls, R.nm, rfl, _, _, rfl, rfl, _, rfl, ite2 (fun e3 => ?_) (fun e3 => ?_)⟩
        · have e3 : 0 < S.m := by have := of_decide_eq_true e3; omega
          exact rest _ _ ⟨by rw [decide_eq_true (.inl e3 : 0 < S.m ∨ S.p ≤ S.s)], rfl⟩
        · have e3 : ¬ 0 < S.m := fun y => e3 (decide_eq_true (by omega))
          refine ⟨_, rfl, r, C, dx, _, _, rfl, i1, R.cls, R.ns, rfl, _, rfl, r, C, dx, _, _, rfl, i1, R.cls, R.np, rfl, _, _, rfl, rfl, ?_⟩
          exact rest _ _ ⟨congrArg V.bl (decide_eq_decide.mpr ⟨fun h => .inr (by omega), fun h => h.elim (fun y => absurd y e3) (fun y => by omega)⟩), rfl⟩
theorem sc_Guard_held : FnScope ["self"] ["self"] (defScope m_Guard_held) := ⟨rfl, rfl, rfl, by decide +kernel, rfl, by decide +kernel, by decide +kernel⟩
theorem ok_Guard_held {f C : Addr} {fd : FuncData} {k : Nat} (F : Fun K "held" "Guard.held" m_Guard_held f fd) (R : GdC K C) : FnOk P w K mg base CX0 (k + 1) f fd ["self"] (spGh C) := by
  have sc := sc_Guard_held
  refine F.ok sc (fun vs H Q E h => ?_) (fun cdv A outer s H vs Q E hr h => ?_)
  · obtain ⟨r, S, rfl, _⟩ := h
    rfl
  · obtain ⟨r, S, rfl, ⟨dx, hins⟩, q⟩ := h
    refine ⟨_, (pss_one (ps_ret (pe_fldK K rfl (pv 0)))), ?_⟩
    exact ⟨_, rfl, r, C, dx, _, _, rfl, hins, R.cls, R.nm, rfl, q⟩
theorem sc__law_same : FnScope ["_law_found", "_law_due", "_law_spot"] ["_law_found", "_law_due"] (defScope s__law_same) := ⟨rfl, rfl, rfl, by decide +kernel, rfl, by decide +kernel, by decide +kernel⟩
theorem ok__law_same {f : Addr} {fd : FuncData} (F : Fun K "_law_same" "_law_same" s__law_same f fd) (gS : mg "_law_same" = some (.ref f)) (bS : Binds K fd ["_law_found", "_law_due"] []) (n_len : mg "len" = none) (n_all : mg "all" = none) (n_bool : mg "bool" = none) (n_int : mg "int" = none)
    (n_isinstance : mg "isinstance" = none) (n_list : mg "list" = none) (n_range : mg "range" = none) (n_str : mg "str" = none) (n_tuple : mg "tuple" = none) : ∀ n : Nat, FnOk P w K mg base CX0 n f fd ["_law_found", "_law_due"] (spSame K n)
  | 0 => ⟨fun vs H Q E h => by obtain ⟨x, y, d, _, _, _, h, _⟩ := h; exact h.elim, fun A outer s H args us vs Q E hr e0 bt r h => by obtain ⟨x, y, d, _, _, _, h, _⟩ := h; exact h.elim⟩
  | n + 1 => by
    have c__law_same : Cal P w K mg base n "_law_same" ["_law_found", "_law_due"] (spSame K n) := ⟨f, fd, ok__law_same F gS bS n_len n_all n_bool n_int n_isinstance n_list n_range n_str n_tuple n, gS, F.kp, bS⟩
    have sc := sc__law_same
    refine F.ok sc (fun vs H Q E h => ?_) (fun cdv A outer s H vs Q E hr h => ?_)
    · obtain ⟨x, y, d, rfl, _⟩ := h
      rfl
    · obtain ⟨x, y, d, rfl, dx, dy, dn, sd, q⟩ := h
      have tx := ty_dp dx
      have ty := ty_dp dy
      refine ⟨_, (pss_cons (ps_if (pt_cmpR op_isN (pv 1) pe_non (nomark _))
  (pss_one (ps_ret (pe_cmpR op_isN (pv 0) pe_non (nomark _))))
  pss_nil)
 (pss_cons (ps_if (PW.pt (pw_or (pt_val (pe_callB (call_isiK1 K rfl) (by rfl) n_isinstance (by decide +kernel) (pa_cons (pv 1) (pa_cons (pe_bltn (v := .ty "bool") (by rfl) n_bool (by decide +kernel) rfl) pa_nil)))) (pw_or1 (pt_val (pe_callB (call_isiK1 K rfl) (by rfl) n_isinstance (by decide +kernel) (pa_cons (pv 0) (pa_cons (pe_bltn (v := .ty "bool") (by rfl) n_bool (by decide +kernel) rfl) pa_nil)))))))
  (pss_one (ps_ret (pe_and (pe_callB (call_isiK1 K rfl) (by rfl) n_isinstance (by decide +kernel) (pa_cons (pv 1) (pa_cons (pe_bltn (v := .ty "bool") (by rfl) n_bool (by decide +kernel) rfl) pa_nil))) (pe_and (pe_callB (call_isiK1 K rfl) (by rfl) n_isinstance (by decide +kernel) (pa_cons (pv 0) (pa_cons (pe_bltn (v := .ty "bool") (by rfl) n_bool (by decide +kernel) rfl) pa_nil))) (pe_one (pe_cmpR (op_eqDK K rfl hr.units) (pv 0) (pv 1) (nomark _)))))))
  pss_nil)
 (pss_cons (ps_if (pt_val (pe_callB (call_isiTK K rfl) (by rfl) n_isinstance (by decide +kernel) (pa_cons (pv 1) (pa_cons (pe_tup (pa_cons (pe_bltn (v := .ty "int") (by rfl) n_int (by decide +kernel) rfl) (pa_cons (pe_bltn (v := .ty "str") (by rfl) n_str (by decide +kernel) rfl) pa_nil))) pa_nil))))
  (pss_one (ps_ret (pe_and (pe_callB (call_isiTK K rfl) (by rfl) n_isinstance (by decide +kernel) (pa_cons (pv 0) (pa_cons (pe_tup (pa_cons (pe_bltn (v := .ty "int") (by rfl) n_int (by decide +kernel) rfl) (pa_cons (pe_bltn (v := .ty "str") (by rfl) n_str (by decide +kernel) rfl) pa_nil))) pa_nil))) (pe_and (pe_cmpR op_eq (pe_callB (call_isiK1 K rfl) (by rfl) n_isinstance (by decide +kernel) (pa_cons (pv 0) (pa_cons (pe_bltn (v := .ty "int") (by rfl) n_int (by decide +kernel) rfl) pa_nil))) (pe_callB (call_isiK1 K rfl) (by rfl) n_isinstance (by decide +kernel) (pa_cons (pv 1) (pa_cons (pe_bltn (v := .ty "int") (by rfl) n_int (by decide +kernel) rfl) pa_nil))) (nomark _)) (pe_one (pe_cmpR (op_eqDK K rfl hr.units) (pv 0) (pv 1) (nomark _)))))))
  pss_nil)
 (pss_cons (ps_if (PW.pt (pw_or (pt_cmpR op_ne (pe_callB (call_isiK1 K rfl) (by rfl) n_isinstance (by decide +kernel) (pa_cons (pv 1) (pa_cons (pe_bltn (v := .ty "list") (by rfl) n_list (by decide +kernel) rfl) pa_nil))) (pe_callB (call_isiK1 K rfl) (by rfl) n_isinstance (by decide +kernel) (pa_cons (pv 0) (pa_cons (pe_bltn (v := .ty "list") (by rfl) n_list (by decide +kernel) rfl) pa_nil))) (nomark _)) (pw_or1 (pt_cmpR op_ne (pe_callB (call_isiK1 K rfl) (by rfl) n_isinstance (by decide +kernel) (pa_cons (pv 1) (pa_cons (pe_bltn (v := .ty "tuple") (by rfl) n_tuple (by decide +kernel) rfl) pa_nil))) (pe_callB (call_isiK1 K rfl) (by rfl) n_isinstance (by decide +kernel) (pa_cons (pv 0) (pa_cons (pe_bltn (v := .ty "tuple") (by rfl) n_tuple (by decide +kernel) rfl) pa_nil))) (nomark _)))))
  (pss_one (ps_ret pe_bl))
  pss_nil)
 (pss_cons (ps_if (PW.pt (pw_or (pt_not (pt_val (pe_callB (call_isiTK K rfl) (by rfl) n_isinstance (by decide +kernel) (pa_cons (pv 0) (pa_cons (pe_tup (pa_cons (pe_bltn (v := .ty "list") (by rfl) n_list (by decide +kernel) rfl) (pa_cons (pe_bltn (v := .ty "tuple") (by rfl) n_tuple (by decide +kernel) rfl) pa_nil))) pa_nil))))) (pw_or1 (pt_cmpR op_ne (pe_callB (call_lenK K rfl) (by rfl) n_len PySem.boot_len (pa_cons (pv 0) pa_nil)) (pe_callB (call_lenK K rfl) (by rfl) n_len PySem.boot_len (pa_cons (pv 1) pa_nil)) (nomark _)))))
  (pss_one (ps_ret pe_bl))
  pss_nil)
 (pss_one (ps_ret (pe_callB (cr_allK K rfl rfl) (by rfl) n_all (by decide +kernel) (pa_cons (pe_lc (own := [("_law_spot", 2)]) (g := gName 2) (by rfl) sc.nd (pi_range1 (by rfl) n_range (pa_cons (pe_callB (call_lenK K rfl) (by rfl) n_len PySem.boot_len (pa_cons (pv 1) pa_nil)) pa_nil)) (blkOk_by (own := [("_law_spot", 2)]) (N := ["_law_found", "_law_due", "_law_spot"]) (sc := defScope s__law_same) (by decide +kernel)) (fun _ _ _ _ _ => (pg_name (i := 2) sc.nd rfl (Or.inl rfl))) (fun _ _ _ _ _ => pts_nil) (fun _ _ _ _ _ => (pe_callC c__law_same hr (by rfl) (pa_cons (pe_ix (ix_seqK K rfl) (pv 0) (pv 2) (fun _ _ => rfl)) (pa_cons (pe_ix (ix_seqK K rfl) (pv 1) (pv 2) (fun _ _ => rfl)) pa_nil))))) pa_nil))))))))), ?_⟩
      have er : PyData.eqv d d = true := SeqAt.eqv_refl d (SeqAt.canLay_of_shaped sd)
      rcases dn with ⟨b, rfl⟩ | ⟨i, rfl⟩ | ⟨z, rfl⟩ | rfl | ⟨ds, hd, hlen, hn⟩
      · have tx : TyX K H x (.type "bool") := tx
        have ty : TyX K H y (.type "bool") := ty
        have kb : PySem.W.kitOne K (.type "bool") (.type "bool") = some true := kit_ty (by decide +kernel)
        have dx' := dx
        have dy' := dy
        cases dx
        cases dy
        refine ⟨_, rfl, rfl, _, rfl, iteF ?_⟩
        refine ⟨_, rfl, _, _, _, _, true, rfl, .ty "bool", ty, kb, _, rfl, iteT ?_⟩
        refine iteT ?_
        refine ⟨_, rfl, _, _, _, _, true, rfl, .ty "bool", ty, kb, true, rfl, iteT ?_⟩
        refine ⟨_, rfl, _, _, _, _, true, rfl, .ty "bool", tx, kb, true, rfl, iteT ?_⟩
        refine ⟨_, rfl, _, rfl, .bool b, .bool b, dx', dy', sd, sd, ?_⟩
        rw [er]
        exact q _ (Same.refl _)
      · have tx : TyX K H x (.type "int") := tx
        have ty : TyX K H y (.type "int") := ty
        have kb : PySem.W.kitOne K (.type "int") (.type "bool") = some false := kit_ty (by decide +kernel)
        have ki : PySem.W.kitOne K (.type "int") (.type "int") = some true := kit_ty (by decide +kernel)
        have dx' := dx
        have dy' := dy
        cases dx
        cases dy
        refine ⟨_, rfl, rfl, _, rfl, iteF ?_⟩
        refine ⟨_, rfl, _, _, _, _, false, rfl, .ty "bool", ty, kb, _, rfl, iteF ?_⟩
        refine ⟨_, rfl, _, _, _, _, false, rfl, .ty "bool", tx, kb, _, rfl, iteF ?_⟩
        refine ⟨_, rfl, (by show 2 ≤ sizeLine; decide), fun p np => ?_⟩
        have s1 : Same H (upd H p (.tup [.ty "int", .ty "str"])) := same_upd np
        refine ⟨_, p, _, _, _, true, rfl, upd_same, .cons (.ty "int") (.cons (.ty "str") .nil), .base (.int i), kitAny_cons ki (fun z => nomatch z) (fun _ => rfl), _, rfl, iteT ?_⟩
        refine ⟨_, rfl, (by show 2 ≤ sizeLine; decide), fun p2 np2 => ?_⟩
        have s2 : Same _ (upd _ p2 (.tup [.ty "int", .ty "str"])) := same_upd np2
        refine ⟨_, p2, _, _, _, true, rfl, upd_same, .cons (.ty "int") (.cons (.ty "str") .nil), .base (.int i), kitAny_cons ki (fun z => nomatch z) (fun _ => rfl), true, rfl, iteT ?_⟩
        refine ⟨_, rfl, _, _, _, _, true, rfl, .ty "int", .base (.int i), ki, ?_⟩
        refine ⟨_, rfl, _, _, _, _, true, rfl, .ty "int", .base (.int i), ki, rfl, true, rfl, iteT ?_⟩
        refine ⟨_, rfl, _, rfl, .int i, .int i, .int i, .int i, sd, sd, ?_⟩
        rw [er]
        exact q _ (s1.trans s2)
      · have tx : TyX K H x (.type "str") := tx
        have ty : TyX K H y (.type "str") := ty
        have kb : PySem.W.kitOne K (.type "str") (.type "bool") = some false := kit_ty (by decide +kernel)
        have ki : PySem.W.kitOne K (.type "str") (.type "int") = some false := kit_ty (by decide +kernel)
        have ks : PySem.W.kitOne K (.type "str") (.type "str") = some true := kit_ty (by decide +kernel)
        have kk : PySem.W.kitAny K (.type "str") [.type "int", .type "str"] = some true := kitAny_cons ki (fun _ => kitAny_cons ks (fun z => nomatch z) (fun _ => rfl)) (fun z => nomatch z)
        cases dx
        cases dy
        refine ⟨_, rfl, rfl, _, rfl, iteF ?_⟩
        refine ⟨_, rfl, _, _, _, _, false, rfl, .ty "bool", ty, kb, _, rfl, iteF ?_⟩
        refine ⟨_, rfl, _, _, _, _, false, rfl, .ty "bool", tx, kb, _, rfl, iteF ?_⟩
        refine ⟨_, rfl, (by show 2 ≤ sizeLine; decide), fun p np => ?_⟩
        have s1 : Same H (upd H p (.tup [.ty "int", .ty "str"])) := same_upd np
        refine ⟨_, p, _, _, _, true, rfl, upd_same, .cons (.ty "int") (.cons (.ty "str") .nil), .base (.str z), kk, _, rfl, iteT ?_⟩
        refine ⟨_, rfl, (by show 2 ≤ sizeLine; decide), fun p2 np2 => ?_⟩
        have s2 : Same _ (upd _ p2 (.tup [.ty "int", .ty "str"])) := same_upd np2
        refine ⟨_, p2, _, _, _, true, rfl, upd_same, .cons (.ty "int") (.cons (.ty "str") .nil), .base (.str z), kk, true, rfl, iteT ?_⟩
        refine ⟨_, rfl, _, _, _, _, false, rfl, .ty "int", .base (.str z), ki, ?_⟩
        refine ⟨_, rfl, _, _, _, _, false, rfl, .ty "int", .base (.str z), ki, rfl, true, rfl, iteT ?_⟩
        refine ⟨_, rfl, _, rfl, .str z, .str z, .str z, .str z, sd, sd, ?_⟩
        rw [er]
        exact q _ (s1.trans s2)
      · cases dx
        cases dy
        refine ⟨_, rfl, rfl, _, rfl, iteT ?_⟩
        exact ⟨_, rfl, rfl, q _ (Same.refl _)⟩
      · -- a list or a tuple
        obtain ⟨ax, ay, xs, ys, nm, rfl, rfl, hsx, hsy, hax, hay, tx, ty, hnm, enm⟩ : ∃ (ax ay : Addr) (xs ys : List V) (nm : String), x = .ref ax ∧ y = .ref ay ∧ (SqL K H ax xs ∨ SqT K H ax xs) ∧ (SqL K H ay ys ∨ SqT K H ay ys) ∧ DpAll K H xs ds ∧ DpAll K H ys ds ∧
            TyX K H x (.type nm) ∧ TyX K H y (.type nm) ∧ (nm = "list" ∨ nm = "tuple") ∧ nm = tyN d := by
          rcases hd with rfl | rfl
          · cases dx with
            | lst h1 h2 =>
              cases dy with
              | lst h3 h4 => exact ⟨_, _, _, _, "list", rfl, rfl, .inl h1, .inl h3, h2, h4, tx, ty, .inl rfl, rfl⟩
          · cases dx with
            | tup h1 h2 =>
              cases dy with
              | tup h3 h4 => exact ⟨_, _, _, _, "tuple", rfl, rfl, .inr h1, .inr h3, h2, h4, tx, ty, .inr rfl, rfl⟩
        have kb : PySem.W.kitOne K (.type nm) (.type "bool") = some false := by rcases hnm with rfl | rfl <;> exact kit_ty (by decide +kernel)
        have ki : PySem.W.kitOne K (.type nm) (.type "int") = some false := by rcases hnm with rfl | rfl <;> exact kit_ty (by decide +kernel)
        have ks : PySem.W.kitOne K (.type nm) (.type "str") = some false := by rcases hnm with rfl | rfl <;> exact kit_ty (by decide +kernel)
        obtain ⟨bl, kl⟩ : ∃ bl, PySem.W.kitOne K (.type nm) (.type "list") = some bl := by
          rcases hnm with rfl | rfl
          · exact ⟨true, kit_ty (by decide +kernel)⟩
          · exact ⟨false, kit_ty (by decide +kernel)⟩
        obtain ⟨bt, kt⟩ : ∃ bt, PySem.W.kitOne K (.type nm) (.type "tuple") = some bt := by
          rcases hnm with rfl | rfl
          · exact ⟨false, kit_ty (by decide +kernel)⟩
          · exact ⟨true, kit_ty (by decide +kernel)⟩
        have kk : PySem.W.kitAny K (.type nm) [.type "int", .type "str"] = some false := kitAny_cons ki (fun _ => kitAny_cons ks (fun _ => rfl) (fun z => nomatch z)) (fun z => nomatch z)
        have kq : PySem.W.kitAny K (.type nm) [.type "list", .type "tuple"] = some true := by
          rcases hnm with rfl | rfl
          · exact kitAny_cons (b := true) (kit_ty (by decide +kernel)) (fun z => nomatch z) (fun _ => rfl)
          · exact kitAny_cons (b := false) (kit_ty (by decide +kernel)) (fun _ => kitAny_cons (b := true) (kit_ty (by decide +kernel)) (fun z => nomatch z) (fun _ => rfl)) (fun z => nomatch z)
        have typ : ∀ {H' : Hp} {v : V}, Same H H' → TyX K H v (.type nm) → (v = .ref ax ∨ v = .ref ay) → TyX K H' v (.type nm) := by
          intro H' v sm h hv
          rw [enm]
          rcases hv with rfl | rfl
          · exact ty_dp (dp_same sm dx)
          · exact ty_dp (dp_same sm dy)
        refine ⟨_, rfl, rfl, _, rfl, iteF ?_⟩
        refine ⟨_, rfl, _, _, _, _, false, rfl, .ty "bool", ty, kb, _, rfl, iteF ?_⟩
        refine ⟨_, rfl, _, _, _, _, false, rfl, .ty "bool", tx, kb, _, rfl, iteF ?_⟩
        refine ⟨_, rfl, (by show 2 ≤ sizeLine; decide), fun p np => ?_⟩
        have s1 : Same H (upd H p (.tup [.ty "int", .ty "str"])) := same_upd np
        refine ⟨_, p, _, _, _, false, rfl, upd_same, .cons (.ty "int") (.cons (.ty "str") .nil), typ s1 ty (.inr rfl), kk, _, rfl, iteF ?_⟩
        refine ⟨_, rfl, _, _, _, _, bl, rfl, .ty "list", typ s1 ty (.inr rfl), kl, ?_⟩
        refine ⟨_, rfl, _, _, _, _, bl, rfl, .ty "list", typ s1 tx (.inl rfl), kl, rfl, _, rfl, ifF (by simp) ?_⟩
        refine ⟨_, rfl, _, _, _, _, bt, rfl, .ty "tuple", typ s1 ty (.inr rfl), kt, ?_⟩
        refine ⟨_, rfl, _, _, _, _, bt, rfl, .ty "tuple", typ s1 tx (.inl rfl), kt, rfl, _, rfl, ifF (by simp) ?_⟩
        refine ⟨_, rfl, (by show 2 ≤ sizeLine; decide), fun p2 np2 => ?_⟩
        have s2 : Same H _ := s1.trans (same_upd (o := .tup [.ty "list", .ty "tuple"]) np2)
        refine ⟨_, p2, _, _, _, true, rfl, upd_same, .cons (.ty "list") (.cons (.ty "tuple") .nil), typ s2 tx (.inl rfl), kq, _, rfl, iteF ?_⟩
        have sq2 : ∀ {H' : Hp} {a : Addr} {zs : List V}, Same H H' → (SqL K H a zs ∨ SqT K H a zs) → (SqL K H' a zs ∨ SqT K H' a zs) := fun sm h => h.elim (fun z => .inl (sm.seq z)) (fun z => .inr (same_t sm z))
        refine ⟨_, rfl, ax, xs, rfl, sq2 s2 hsx, _, rfl, ay, ys, rfl, sq2 s2 hsy, rfl, _, rfl, ifF (by rw [dpa_len hax, dpa_len hay]; simp) ?_⟩
        refine ⟨_, rfl, ay, ys, rfl, sq2 s2 hsy, _, rfl, ?_, ?_, fun D nD => lc_range (lo := 0) (n := ((ys.length : Int)).toNat) (fun i H' => Same H H' ∧ H' D = some (.lst ((List.replicate i true).map V.bl))) ?_ ?_ ?_⟩
        · rw [dpa_len hay]
          omega
        · rw [dpa_len hay]
          omega
        · exact ⟨s2.trans (same_upd nD), upd_same⟩
        · rintro i H' hi ⟨sm, eD⟩
          rw [Int.toNat_natCast] at hi
          have hds : i < ds.length := by rw [← dpa_len hay]; exact hi
          obtain ⟨vx, gx, dvx⟩ := dpa_get hax (List.getElem?_eq_getElem hds)
          obtain ⟨vy, gy, dvy⟩ := dpa_get hay (List.getElem?_eq_getElem hds)
          have ix : ∀ {a : Addr} {zs : List V} {v : V} {Q' : VK}, (SqL K H a zs ∨ SqT K H a zs) → zs[i]? = some v → Q' v H' → rIx K (.ref a) (.int (0 + (i : Int))) H' Q' := by
            intro a zs v Q' h g q'
            have e : atI zs (0 + (i : Int)) = some v := by rw [Int.zero_add]; exact atI_nat g
            rcases sq2 sm h with h | h
            · exact .inl ⟨a, zs, _, v, rfl, rfl, h, e, q'⟩
            · exact .inr (.inl ⟨a, zs, _, v, rfl, rfl, h, e, q'⟩)
          refine ⟨rfl, tYes_by (iteT ?_)⟩
          refine ⟨_, rfl, _, rfl, ix hsx gx ?_⟩
          refine ⟨_, rfl, _, rfl, ix hsy gy ?_⟩
          refine ⟨vx, vy, ds[i], rfl, dp_same sm dvx, dp_same sm dvy, hn _ (List.getElem_mem hds), ?_, fun H2 s4 => ?_⟩
          · exact shaped_mem (List.getElem_mem hds) (hd.elim (fun z => .inl (z ▸ sd)) (fun z => .inr (z ▸ sd)))
          · refine ⟨_, s4 _ _ eD, ?_, ?_, ?_⟩
            · rw [List.length_map, List.length_replicate]
              exact Nat.lt_of_lt_of_le (show i < 100000 by omega) (by decide)
            · exact same_mut (sm.trans s4) (s2.free nD)
            · rw [upd_same, List.replicate_succ', List.map_append]
              rfl
        · rintro H' ⟨sm, eD⟩
          refine ⟨D, _, rfl, SqL.of eD, ?_⟩
          have e : (List.replicate ((ys.length : Int)).toNat true).all id = true := by simp
          rw [e]
          exact q _ sm
theorem sc__law_keys : FnScope ["_law_bag_here", "_law_way"] ["_law_bag_here"] (defScope s__law_keys) := ⟨rfl, rfl, rfl, by decide +kernel, rfl, by decide +kernel, by decide +kernel⟩
def spKeys : Sp := fun vs H Q _ => ∃ (b : Addr × Addr), vs = [.ref b.1] ∧ Bag b H ∧ ∀ (H' : Hp) (p : Addr) (ns : List Int), Mv b.1 H H' → Bag b H' → H p = none → H' p = some (.lst (ns.map V.int)) → Bytes ns → ns.length ≤ 5 → Q (.ref p) H'
theorem bytes_rep {m : Nat} : Bytes (List.replicate m (43 : Int)) := fun z hz => by rw [List.eq_of_mem_replicate hz]; exact ⟨by decide, by decide⟩
theorem ok__law_keys {f : Addr} {fd : FuncData} {k : Nat} (F : Fun K "_law_keys" "_law_keys" s__law_keys f fd) (c__law_pick : Cal P w K mg base k "_law_pick" ["_law_bag_here", "_law_top"] spPick) (c__law_of : Cal P w K mg base k "_law_of" ["_law_bag_here", "_law_some"] (spOf K)) (c__law_row : Cal P w K mg base k "_law_row" ["_law_bag_here", "_law_most"] spRow) : FnOk P w K mg base CX0 (k + 1) f fd ["_law_bag_here"] spKeys := by
  have sc := sc__law_keys
  refine F.ok sc (fun vs H Q E h => ?_) (fun cdv A outer s H vs Q E hr h => ?_)
  · obtain ⟨b, rfl, _⟩ := h
    rfl
  · obtain ⟨b, rfl, hB, q⟩ := h
    refine ⟨_, (pss_cons (ps_set (i := 1) sc.nd rfl (.inl rfl) (pe_callC c__law_pick hr (by rfl) (pa_cons (pv 0) (pa_cons pe_int pa_nil))))
 (pss_cons (ps_if (pt_cmpR op_lt (pv 1) pe_int (nomark _))
  (pss_one (ps_ret (pe_lst pa_nil)))
  pss_nil)
 (pss_cons (ps_if (pt_cmpR op_lt (pv 1) pe_int (nomark _))
  (pss_one (ps_ret (pe_op op_rep (pe_lst (pa_cons pe_int pa_nil)) (pe_op op_add pe_int (pe_callC c__law_pick hr (by rfl) (pa_cons (pv 0) (pa_cons pe_int pa_nil)))))))
  pss_nil)
 (pss_one (ps_ret (pe_callC c__law_of hr (by rfl) (pa_cons (pv 0) (pa_cons (pe_lst (pa_cons (pe_op op_rep (pe_lst (pa_cons pe_int pa_nil)) (pe_callC c__law_pick hr (by rfl) (pa_cons (pv 0) (pa_cons pe_int pa_nil)))) (pa_cons (pe_callC c__law_row hr (by rfl) (pa_cons (pv 0) (pa_cons pe_int pa_nil))) (pa_cons (pe_lst (pa_cons pe_int (pa_cons pe_int pa_nil))) (pa_cons (pe_lst (pa_cons pe_int (pa_cons pe_int (pa_cons pe_int pa_nil)))) pa_nil))))) pa_nil)))))))), ?_⟩
    refine ⟨_, rfl, b, 8, rfl, hB, by decide, by decide, fun H1 d mv1 hB1 d0 d1 => ?_⟩
    refine name_by ?_
    refine ⟨_, rfl, _, _, rfl, rfl, _, rfl, ite2 (fun e => ?_) (fun e => ?_)⟩
    · refine ⟨Nat.zero_le _, fun p np => ?_⟩
      have s2 := same_upd (o := .lst []) np
      exact q _ p [] (mv1.trans (Mv.of s2)) (hB1.same s2) (mv1.none (hB1.ne np) np) upd_same bytes_nil (by decide)
    · refine ⟨_, rfl, _, _, rfl, rfl, _, rfl, ite2 (fun e => ?_) (fun e => ?_)⟩
      · refine ⟨(by show 1 ≤ sizeLine; decide), fun p2 n2 => ?_⟩
        have s2 := same_upd (o := .lst [.int 43]) n2
        refine ⟨_, rfl, b, 3, rfl, hB1.same s2, by decide, by decide, fun H3 d3 mv3 hB3 d30 d31 => ⟨_, _, rfl, rfl, p2, 1 + d3, _, rfl, rfl, mv3 _ _ ((hB1.ne n2)) upd_same, by omega, by omega, ?_, fun p4 n4 => ?_⟩⟩
        · show 1 * (1 + d3).toNat ≤ sizeLine
          exact sz4 (by omega)
        rw [rep1]
        have m3 := (mv1.trans (Mv.of s2)).trans mv3
        have s4 := same_upd (o := .lst ((List.replicate (1 + d3).toNat (43 : Int)).map V.int)) n4
        exact q _ p4 _ (m3.trans (Mv.of s4)) (hB3.same s4) (m3.none (hB3.ne n4) n4) upd_same bytes_rep (by rw [List.length_replicate]; omega)
      · refine ⟨_, rfl, (by show 1 ≤ sizeLine; decide), fun p2 n2 => ?_⟩
        have h1 : SH b H1 [] := SH.nil hB1
        have h2 := h1.new (o := .lst [.int 43]) n2
        have m2 := mv1.trans (Mv.of (same_upd (o := .lst [.int 43]) n2))
        refine ⟨_, rfl, b, 6, rfl, h2.bag, by decide, by decide, fun H3 d3 mv3 hB3 d30 d31 => ?_⟩
        have h3 := h2.mv mv3 hB3
        have m3 := m2.trans mv3
        refine ⟨p2, d3, _, rfl, rfl, h3.get (.head _), by omega, by omega, ?_, fun p4 n4 => ?_⟩
        · show 1 * d3.toNat ≤ sizeLine
          exact sz4 (by omega)
        rw [rep1]
        have n4' := m3.none (hB3.ne n4) n4
        have h4 := h3.new (o := .lst ((List.replicate d3.toNat (43 : Int)).map V.int)) n4
        have m4 := m3.trans (Mv.of (same_upd (o := .lst ((List.replicate d3.toNat (43 : Int)).map V.int)) n4))
        refine ⟨_, rfl, b, 5, rfl, h4.bag, by decide, by decide, fun H5 p5 r5 mv5 hB5 n5 e5 by5 hl5 => ?_⟩
        have n5' := m4.none (h4.bag.ne n5) n5
        have h5 := h4.newM mv5 hB5 n5 e5
        have m5 := m4.trans mv5
        refine ⟨(by show 2 ≤ sizeLine; decide), fun p6 n6 => ?_⟩
        have n6' := m5.none (hB5.ne n6) n6
        have h6 := h5.new (o := .lst [.int 43, .int 44]) n6
        have m6 := m5.trans (Mv.of (same_upd (o := .lst [.int 43, .int 44]) n6))
        refine ⟨(by show 3 ≤ sizeLine; decide), fun p7 n7 => ?_⟩
        have n7' := m6.none (h6.bag.ne n7) n7
        have h7 := h6.new (o := .lst [.int 44, .int 43, .int 43]) n7
        have m7 := m6.trans (Mv.of (same_upd (o := .lst [.int 44, .int 43, .int 43]) n7))
        refine ⟨(by show 4 ≤ sizeLine; decide), fun p8 n8 => ?_⟩
        have h8 := h7.new (o := .lst [.ref p4, .ref p5, .ref p6, .ref p7]) n8
        have m8 := m7.trans (Mv.of (same_upd (o := .lst [.ref p4, .ref p5, .ref p6, .ref p7]) n8))
        refine ⟨b, p8, _, rfl, h8.bag, h8.ne (.head _), h8.get (.head _), (by show 0 < 4; decide), (by show 4 < 1000; decide), fun H9 v mv9 hB9 hv => ?_⟩
        have h9 := h8.mv mv9 hB9
        have m9 := m8.trans mv9
        rcases List.mem_cons.mp hv with rfl | hv
        · exact q H9 p4 _ m9 hB9 n4' (h9.get (.tail _ (.tail _ (.tail _ (.tail _ (.head _)))))) bytes_rep (by rw [List.length_replicate]; omega)
        rcases List.mem_cons.mp hv with rfl | hv
        · exact q H9 p5 _ m9 hB9 n5' (h9.get (.tail _ (.tail _ (.tail _ (.head _))))) by5 (by omega)
        rcases List.mem_cons.mp hv with rfl | hv
        · exact q H9 p6 [43, 44] m9 hB9 n6' (h9.get (.tail _ (.tail _ (.head _)))) (by unfold Bytes isY; decide) (by decide)
        · rw [List.mem_singleton.mp hv]
          exact q H9 p7 [44, 43, 43] m9 hB9 n7' (h9.get (.tail _ (.head _))) (by unfold Bytes isY; decide) (by decide)
/-! ### what the law keeps of a guard, in a dict -/
abbrev gdT (p s m : Int) : List (Key × V) := [(.inr "pause", .int p), (.inr "still", .int s), (.inr "held", .int m)]
abbrev gdD (S : GS) : List (Key × V) := gdT S.p S.s S.m
section
variable {p s m v : Int} {H : Hp} {d : Addr}
theorem mg_sp : ¬ (Str.ofString "still") = Str.ofString "pause" := by decide
theorem mg_hp : ¬ (Str.ofString "held") = Str.ofString "pause" := by decide
theorem mg_ps : ¬ (Str.ofString "pause") = Str.ofString "still" := by decide
theorem mg_hs : ¬ (Str.ofString "held") = Str.ofString "still" := by decide
theorem mg_ph : ¬ (Str.ofString "pause") = Str.ofString "held" := by decide
theorem mg_sh : ¬ (Str.ofString "still") = Str.ofString "held" := by decide
theorem ng_ps : ¬ (Sum.inr "pause" : Key) = .inr "still" := by decide
theorem ng_ph : ¬ (Sum.inr "pause" : Key) = .inr "held" := by decide
theorem ng_sh : ¬ (Sum.inr "still" : Key) = .inr "held" := by decide
theorem get_pause (hd : H d = some (.dK (gdT p s m))) : DGet H d (.str "pause") (some (.int p)) := by
  have g := DGet.k (k := .inr "pause") hd
  rwa [valV_pos rfl] at g
theorem get_still (hd : H d = some (.dK (gdT p s m))) : DGet H d (.str "still") (some (.int s)) := by
  have g := DGet.k (k := .inr "still") hd
  rwa [valV_neg ng_ps, valV_pos rfl] at g
theorem get_held (hd : H d = some (.dK (gdT p s m))) : DGet H d (.str "held") (some (.int m)) := by
  have g := DGet.k (k := .inr "held") hd
  rwa [valV_neg ng_ph, valV_neg ng_sh, valV_pos rfl] at g
theorem put_still (hd : H d = some (.dK (gdT p s m))) : DPut H d (.str "still") (.int v) (upd H d (.dK (gdT p v m))) := by
  have g := DPut.k (k := .inr "still") (v := .int v) hd (by show 3 < sizeLine; decide)
  have ep : putK (gdT p s m) (.inr "still") (.int v) = gdT p v m := by
    unfold putK
    rw [valV_any, valV_neg ng_ps, valV_pos rfl]
    simp [mg_ps, mg_hs]
  rwa [ep] at g
theorem put_held (hd : H d = some (.dK (gdT p s m))) : DPut H d (.str "held") (.int v) (upd H d (.dK (gdT p s v))) := by
  have g := DPut.k (k := .inr "held") (v := .int v) hd (by show 3 < sizeLine; decide)
  have ep : putK (gdT p s m) (.inr "held") (.int v) = gdT p s v := by
    unfold putK
    rw [valV_any, valV_neg ng_ph, valV_neg ng_sh, valV_pos rfl]
    simp [mg_ph, mg_sh]
  rwa [ep] at g
end
structure DOut (d t o : Addr) (S : GS) (row : List Int) (H H' : Hp) : Prop where
  mv : MvF [d] H H'
  nt : H t = none
  no : H o = none
  et : H' t = some (.tup [.ref o, .bl (gBeat S row).2.2])
  eo : H' o = some (.lst ((gBeat S row).2.1.map V.int))
  ed : H' d = some (.dK (gdD (gBeat S row).1))
theorem both_all (S : GS) (ns : List Int) : (gBoth S ns).count 43 = (gBoth S ns).length ↔ ∀ x ∈ ns, x = 43 := by
  rw [List.count_eq_length]
  unfold gBoth
  constructor
  · exact fun h x hx => (h x (List.mem_append.mpr (.inr hx))).symm
  · intro h x hx
    rcases List.mem_append.mp hx with hx | hx
    · exact (List.mem_replicate.mp hx).2.symm
    · exact (h x hx).symm
theorem gd_made {C x dx : Addr} {n : Nat} {H : Hp} (nx : H x = none) (ndx : H dx = none) : Same H (upd (upd (upd H dx (.own x)) x (.ins C dx [])) x (.ins C dx (gdF n n 0))) ∧ (tGd C x ⟨n, n, 0⟩).P (upd (upd (upd H dx (.own x)) x (.ins C dx [])) x (.ins C dx (gdF n n 0))) := by
  refine ⟨fun a o e => ?_, dx, upd_same⟩
  rw [upd_ne (ne_of_none e nx), upd_ne (ne_of_none e nx), upd_ne (ne_of_none e ndx)]
  exact e
theorem sc__law_guard_new : FnScope ["_law_rest"] ["_law_rest"] (defScope s__law_guard_new) := ⟨rfl, rfl, rfl, by decide +kernel, rfl, by decide +kernel, by decide +kernel⟩
def spGn : Sp := fun vs H Q _ => ∃ (p : Int), vs = [.int p] ∧ ∀ (d : Addr), H d = none → Q (.ref d) (upd H d (.dK (gdT p p 0)))
theorem ok__law_guard_new {f : Addr} {fd : FuncData} {k : Nat} (F : Fun K "_law_guard_new" "_law_guard_new" s__law_guard_new f fd) : FnOk P w K mg base CX0 (k + 1) f fd ["_law_rest"] spGn := by
  have sc := sc__law_guard_new
  refine F.ok sc (fun vs H Q E h => ?_) (fun cdv A outer s H vs Q E hr h => ?_)
  · obtain ⟨p, rfl, _⟩ := h
    rfl
  · obtain ⟨z, rfl, q⟩ := h
    refine ⟨_, (pss_one (ps_ret (pe_disp (pps_cons pe_str (pv 0) (pps_cons pe_str (pv 0) (pps_cons pe_str pe_int pps_nil))) rfl rfl (by simp) (by decide)))), ?_⟩
    refine fun p np => ⟨_, rfl, _, rfl, upd_same, gdT z z 0, rfl, (by show 3 ≤ 15; decide), ?_⟩
    have em : mergeK [] (gdT z z 0) = gdT z z 0 := by
      unfold mergeK
      simp [putK, mg_sp, mg_hp, mg_ps, mg_hs, mg_ph, mg_sh]
    rw [em, upd_upd]
    exact q p np
theorem sc_Guard_twin : FnScope ["self", "other"] ["self"] (defScope m_Guard_twin) := ⟨rfl, rfl, rfl, by decide +kernel, rfl, by decide +kernel, by decide +kernel⟩
theorem ok_Guard_twin {f C cN : Addr} {fd : FuncData} {k : Nat} (F : Fun K "twin" "Guard.twin" m_Guard_twin f fd) (R : GdC K C) (cnw_Guard : CalNW P w K mg base k "Guard" C ["self", "pause"] ["pause"] (fun vs zs => vs ++ zs) (spGi C cN)) : FnOk P w K mg base CX0 (k + 2) f fd ["self"] (spGt C) := by
  have sc := sc_Guard_twin
  refine F.ok sc (fun vs H Q E h => ?_) (fun cdv A outer s H vs Q E hr h => ?_)
  · obtain ⟨r, S, rfl, _⟩ := h
    rfl
  · obtain ⟨r, S, rfl, ⟨dx, hins⟩, p1, p20, q⟩ := h
    refine ⟨_, (pss_cons (ps_set (i := 1) sc.nd rfl (.inl rfl) (pe_makeWF cnw_Guard hr (by rfl) (pk_cons (pe_fldK K rfl (pv 0)) pk_nil)))
 (pss_cons (ps_fldK K rfl (pv 1) (pe_fldK K rfl (pv 0)))
 (pss_cons (ps_fldK K rfl (pv 1) (pe_fldK K rfl (pv 0)))
 (pss_one (ps_ret (pv 1)))))), ?_⟩
    refine ⟨_, rfl, r, C, dx, _, _, rfl, hins, R.cls, R.np, rfl, rfl, rfl, fun x dx2 nx ndx nex => ⟨x, dx2, (S.p : Int), rfl, upd_same, (fun _ _ => ⟨rfl, ?_⟩), (fun bad => by rcases bad with h | h <;> omega)⟩⟩
    obtain ⟨s3, _⟩ := gd_made (C := C) (n := S.p) nx ndx
    have e3 : upd (upd (upd H dx2 (.own x)) x (.ins C dx2 [])) x (.ins C dx2 (gdF S.p S.p 0)) x = some (.ins C dx2 (gdF S.p S.p 0)) := upd_same
    generalize upd (upd (upd H dx2 (.own x)) x (.ins C dx2 [])) x (.ins C dx2 (gdF S.p S.p 0)) = H3 at s3 e3 ⊢
    refine name_by ?_
    dsimp only
    refine ⟨_, rfl, r, C, dx, _, _, rfl, s3 _ _ hins, R.cls, R.ns, rfl, _, rfl, x, C, dx2, _, rfl, e3, R.cls, R.ns, (by show 3 < 1000; decide), ?_⟩
    have ep : putF "silent" (.int (S.s : Int)) (gdF S.p S.p 0) = gdF S.p S.s 0 := rfl
    rw [ep]
    have s4 : Same H (upd H3 x (.ins C dx2 (gdF S.p S.s 0))) := same_mut s3 nx
    have e4 : upd H3 x (.ins C dx2 (gdF S.p S.s 0)) x = some (.ins C dx2 (gdF S.p S.s 0)) := upd_same
    generalize upd H3 x (.ins C dx2 (gdF S.p S.s 0)) = H4 at s4 e4 ⊢
    refine ⟨_, rfl, r, C, dx, _, _, rfl, s4 _ _ hins, R.cls, R.nm, rfl, _, rfl, x, C, dx2, _, rfl, e4, R.cls, R.nm, (by show 3 < 1000; decide), ?_⟩
    have ep2 : putF "marks" (.int (S.m : Int)) (gdF S.p S.s 0) = gdF S.p S.s S.m := rfl
    rw [ep2]
    exact ⟨_, rfl, q _ x (same_mut s4 nx) nx ⟨dx2, upd_same⟩⟩
theorem sc__law_guard_beat : FnScope ["_law_state", "_law_row_here", "_law_found", "_law_good", "_law_size", "_law_one"] ["_law_state", "_law_row_here"] (defScope s__law_guard_beat) := ⟨rfl, rfl, rfl, by decide +kernel, rfl, by decide +kernel, by decide +kernel⟩
theorem all_map {α : Type} (p : α → Bool) (l : List α) : ((l.map p).all id) = l.all p := by rw [List.all_map]; rfl
def spLgb : Sp := fun vs H Q _ => ∃ (d a : Addr) (S : GS) (ns : List Int), vs = [.ref d, .ref a] ∧ H d = some (.dK (gdD S)) ∧ H a = some (.lst (ns.map V.int)) ∧ S.m ≤ 1000 ∧ ns.length ≤ 10000 ∧ ∀ (H' : Hp) (t o : Addr), DOut d t o S ns H H' → Q (.ref t) H'
theorem ok__law_guard_beat {f : Addr} {fd : FuncData} {k : Nat} (F : Fun K "_law_guard_beat" "_law_guard_beat" s__law_guard_beat f fd) (n_all : mg "all" = none) (n_len : mg "len" = none) : FnOk P w K mg base CX0 (k + 1) f fd ["_law_state", "_law_row_here"] spLgb := by
  have sc := sc__law_guard_beat
  refine F.ok sc (fun vs H Q E h => ?_) (fun cdv A outer s H vs Q E hr h => ?_)
  · obtain ⟨d, a, S, ns, rfl, _⟩ := h
    rfl
  · obtain ⟨d, a, S, ns, rfl, hd, ha, hm, hlen, q⟩ := h
    have hS : SqL K H a (ns.map V.int) := SqL.of ha
    have nad : a ≠ d := fun z => by rw [z, hd] at ha; cases ha
    refine ⟨_, (pss_cons (ps_if (pt_cmpR (op_eqDK K rfl hr.units) (pv 1) (pe_lst pa_nil) (nomark _))
  (pss_cons (ps_dput (hu_of hr) (pv 0) pe_str (pe_op op_add (pe_dget (hu_of hr) (pv 0) pe_str (fun _ _ => rfl)) pe_int) rfl)
 (pss_cons (ps_if (PW.pt (pw_or (pt_cmpR op_eq (pe_dget (hu_of hr) (pv 0) pe_str (fun _ _ => rfl)) pe_int (nomark _)) (pw_or1 (pt_cmpR op_lt (pe_dget (hu_of hr) (pv 0) pe_str (fun _ _ => rfl)) (pe_dget (hu_of hr) (pv 0) pe_str (fun _ _ => rfl)) (nomark _)))))
  (pss_one (ps_ret (pe_tup (pa_cons (pe_lst pa_nil) (pa_cons pe_bl pa_nil)))))
  pss_nil)
 (pss_cons (ps_set (i := 2) sc.nd rfl (.inl rfl) (pe_op op_rep (pe_lst (pa_cons pe_int pa_nil)) (pe_dget (hu_of hr) (pv 0) pe_str (fun _ _ => rfl))))
 (pss_cons (ps_dput (hu_of hr) (pv 0) pe_str pe_int rfl)
 (pss_one (ps_ret (pe_ifExp (pt_cmpR op_eq (pe_callB (call_lenK K rfl) (by rfl) n_len PySem.boot_len (pa_cons (pv 2) pa_nil)) pe_int (nomark _)) (pe_tup (pa_cons (pe_lst pa_nil) (pa_cons pe_bl pa_nil))) (pe_tup (pa_cons (pv 2) (pa_cons pe_bl pa_nil))))))))))
  pss_nil)
 (pss_cons (ps_set (i := 3) sc.nd rfl (.inl rfl) (pe_or (pe_cmpR op_gt (pe_dget (hu_of hr) (pv 0) pe_str (fun _ _ => rfl)) pe_int (nomark _)) (pe_one (pe_cmpR op_ge (pe_dget (hu_of hr) (pv 0) pe_str (fun _ _ => rfl)) (pe_dget (hu_of hr) (pv 0) pe_str (fun _ _ => rfl)) (nomark _)))))
 (pss_cons (ps_dput (hu_of hr) (pv 0) pe_str pe_int rfl)
 (pss_cons (ps_set (i := 4) sc.nd rfl (.inl rfl) (pe_op op_add (pe_dget (hu_of hr) (pv 0) pe_str (fun _ _ => rfl)) (pe_callB (call_lenK K rfl) (by rfl) n_len PySem.boot_len (pa_cons (pv 1) pa_nil))))
 (pss_cons (ps_if (PW.pt (pw_and (pt_val (pv 3)) (pw_and (pt_cmpR op_lt (pv 4) pe_int (nomark _)) (pw_and1 (pt_val (pe_callB (cr_allK K rfl rfl) (by rfl) n_all (by decide +kernel) (pa_cons (pe_lc (own := [("_law_one", 5)]) (g := gName 5) (by rfl) sc.nd (pi_listK K rfl (pv 1)) (blkOk_by (own := [("_law_one", 5)]) (N := ["_law_state", "_law_row_here", "_law_found", "_law_good", "_law_size", "_law_one"]) (sc := defScope s__law_guard_beat) (by decide +kernel)) (fun _ _ _ _ _ => (pg_name (i := 5) sc.nd rfl (Or.inl rfl))) (fun _ _ _ _ _ => pts_nil) (fun _ _ _ _ _ => (pe_cmpR op_eq (pv 5) pe_int (nomark _)))) pa_nil)))))))
  (pss_cons (ps_dput (hu_of hr) (pv 0) pe_str (pv 4) rfl)
 (pss_one (ps_ret (pe_tup (pa_cons (pe_lst pa_nil) (pa_cons pe_bl pa_nil))))))
  pss_nil)
 (pss_cons (ps_set (i := 2) sc.nd rfl (.inl rfl) (pe_op op_cat (pe_op op_rep (pe_lst (pa_cons pe_int pa_nil)) (pe_dget (hu_of hr) (pv 0) pe_str (fun _ _ => rfl))) (pv 1)))
 (pss_cons (ps_dput (hu_of hr) (pv 0) pe_str pe_int rfl)
 (pss_one (ps_ret (pe_tup (pa_cons (pv 2) (pa_cons pe_bl pa_nil)))))))))))), ?_⟩
    have out : ∀ {H3 : Hp} {o t : Addr} {S' : GS} {z : Bool}, MvF [d] H H3 → H3 d = some (.dK (gdD S')) → gBeat S ns = (S', [], z) → H3 o = none → upd H3 o (.lst []) t = none → Q (.ref t) (upd (upd H3 o (.lst [])) t (.tup [.ref o, .bl z])) := by
      intro H3 o t S' z mv3 hd3 e no nt
      have nto : o ≠ t := ne_of_none upd_same nt
      have t1 := same_upd (o := .lst []) no
      have t2 := t1.trans (same_upd (o := .tup [.ref o, .bl z]) nt)
      refine q _ t o ⟨mv3.same t2, mv3.free (t1.free nt), mv3.free no, ?_, ?_, ?_⟩
      · rw [upd_same, e]
      · rw [upd_ne nto, upd_same, e]
        rfl
      · rw [t2 _ _ hd3, e]
    have out2 : ∀ {H3 : Hp} {o t : Addr} {S' : GS} {X : List Int} {z : Bool}, MvF [d] H H3 → H3 d = some (.dK (gdD S')) → gBeat S ns = (S', X, z) → H o = none → H3 o = some (.lst (X.map V.int)) → H3 t = none → Q (.ref t) (upd H3 t (.tup [.ref o, .bl z])) := by
      intro H3 o t S' X z mv3 hd3 e no eo nt
      have t2 := same_upd (o := .tup [.ref o, .bl z]) nt
      refine q _ t o ⟨mv3.same t2, mv3.free nt, no, ?_, ?_, ?_⟩
      · rw [upd_same, e]
      · rw [t2 _ _ eo, e]
      · rw [t2 _ _ hd3, e]
    clear q
    refine ⟨_, rfl, Nat.zero_le _, fun p1 n1 => ?_⟩
    have s1 := same_upd (o := .lst []) n1
    have hS1 := s1.seq hS
    have d1 := s1 _ _ hd
    have a1 := s1 _ _ ha
    have m1 : MvF [d] H (upd H p1 (.lst [])) := MvF.of s1
    have e1 : Dp K (upd H p1 (.lst [])) (.ref p1) (dI []) := dp_ints (SqL.of upd_same)
    generalize upd H p1 (.lst []) = H1 at s1 hS1 d1 a1 m1 e1 ⊢
    refine ⟨dI ns, dI [], dp_ints hS1, e1, shaped_ints _, shaped_ints _, _, rfl, ite2 (fun e => ?_) (fun e => ?_)⟩
    · rw [eqv_ints] at e
      have e : ns = [] := of_decide_eq_true e
      subst e
      have gb : gBeat S [] = if S.s + 1 < S.p then (⟨S.p, S.s + 1, S.m⟩, [], false) else if S.m = 3 then (⟨S.p, S.s + 1, 0⟩, [], true) else (⟨S.p, S.s + 1, 0⟩, List.replicate S.m 43, false) := if_pos rfl
      have gbq : S.m = 0 ∨ S.s + 1 < S.p → gBeat S [] = (⟨S.p, S.s + 1, S.m⟩, [], false) := fun h => by
        rw [gb]
        by_cases z : S.s + 1 < S.p
        · rw [if_pos z]
        · rcases h with h | h
          · rw [if_neg z, h]
            rfl
          · exact absurd h z
      refine ⟨_, rfl, d, _, rfl, get_still d1, _, _, rfl, rfl, _, rfl, d, _, rfl, put_still d1, ?_⟩
      have m2 : MvF [d] H (upd H1 d (.dK (gdT S.p (S.s + 1 : Nat) S.m))) := m1.upd (.head _)
      have d2 : upd H1 d (.dK (gdT S.p (S.s + 1 : Nat) S.m)) d = some (.dK (gdT S.p (S.s + 1 : Nat) S.m)) := upd_same
      show (_ : TS) _ _ (upd H1 d (.dK (gdT S.p (S.s + 1 : Nat) S.m)))
      generalize upd H1 d (.dK (gdT S.p (S.s + 1 : Nat) S.m)) = H2 at m2 d2 ⊢
      have ret : S.m = 0 ∨ S.s + 1 < S.p → tRet (tTup (tCons (tLst tNil) (tCons (tC (.bl false)) tNil))) { nx := fun _ H' => Q V.non H', rt := Q } [some (.ref d), some (.ref a), none, none, none, none] H2 := fun h => ⟨Nat.zero_le _, fun o no => ⟨(by show 2 ≤ sizeLine; decide), fun t nt => out (S' := ⟨S.p, S.s + 1, S.m⟩) m2 d2 (gbq h) no nt⟩⟩
      refine ⟨_, rfl, d, _, rfl, get_held d2, rfl, _, rfl, ite2 (fun e => ?_) (fun e => ?_)⟩
      · have e : S.m = 0 := by have := eq_t e; omega
        exact iteT (ret (.inl e))
      · have e0 : ¬ S.m = 0 := fun y => e (decide_eq_true (by rw [y]; rfl))
        refine ⟨_, rfl, d, _, rfl, get_still d2, _, rfl, d, _, rfl, get_pause d2, _, _, rfl, rfl, _, rfl, ite2 (fun e => ?_) (fun e => ?_)⟩
        · have e : S.s + 1 < S.p := by have := of_decide_eq_true e; omega
          exact ret (.inr e)
        · have e5 : ¬ S.s + 1 < S.p := fun y => e (decide_eq_true (by omega))
          refine ⟨(by show 1 ≤ sizeLine; decide), fun p3 n3 => ?_⟩
          have s3 := same_upd (o := .lst [.int 43]) n3
          refine ⟨_, rfl, d, _, rfl, get_held (s3 _ _ d2), p3, (S.m : Int), _, rfl, rfl, upd_same, by omega, by omega, ?_, fun p4 n4 => ?_⟩
          · show 1 * (S.m : Int).toNat ≤ sizeLine
            exact sz4 (by omega)
          rw [rep1, Int.toNat_natCast]
          have s4 := s3.trans (same_upd (o := .lst ((List.replicate S.m (43 : Int)).map V.int)) n4)
          have m4 := m2.same s4
          have d4 := s4 _ _ d2
          have n4' : H p4 = none := m2.free (s3.free n4)
          have e4 : upd (upd H2 p3 (.lst [.int 43])) p4 (.lst ((List.replicate S.m (43 : Int)).map V.int)) p4 = some (.lst ((List.replicate S.m (43 : Int)).map V.int)) := upd_same
          generalize upd (upd H2 p3 (.lst [.int 43])) p4 (.lst ((List.replicate S.m (43 : Int)).map V.int)) = H4 at m4 d4 e4 ⊢
          refine name_by ?_
          dsimp only
          refine ⟨_, rfl, d, _, rfl, put_held d4, ?_⟩
          have np : p4 ≠ d := (ne_of_none hd n4').symm
          have m5 : MvF [d] H (upd H4 d (.dK (gdT S.p (S.s + 1 : Nat) (0 : Nat)))) := m4.upd (.head _)
          have d5 : upd H4 d (.dK (gdT S.p (S.s + 1 : Nat) (0 : Nat))) d = some (.dK (gdT S.p (S.s + 1 : Nat) (0 : Nat))) := upd_same
          have e5' : upd H4 d (.dK (gdT S.p (S.s + 1 : Nat) (0 : Nat))) p4 = some (.lst ((List.replicate S.m (43 : Int)).map V.int)) := by rw [upd_ne np]; exact e4
          show (_ : TS) _ _ (upd H4 d (.dK (gdT S.p (S.s + 1 : Nat) (0 : Nat))))
          generalize upd H4 d (.dK (gdT S.p (S.s + 1 : Nat) (0 : Nat))) = H5 at m5 d5 e5' ⊢
          refine ⟨_, rfl, p4, _, rfl, .inl (SqL.of e5'), rfl, _, rfl, ite2 (fun e => ?_) (fun e => ?_)⟩
          · have e : S.m = 3 := by
              have := eq_t e
              rw [List.length_map, List.length_replicate] at this
              omega
            refine ⟨Nat.zero_le _, fun o no => ⟨(by show 2 ≤ sizeLine; decide), fun t nt => out (S' := ⟨S.p, S.s + 1, 0⟩) m5 d5 ?_ no nt⟩⟩
            rw [gb, if_neg e5, if_pos e]
          · have e : ¬ S.m = 3 := fun y => e (decide_eq_true (by rw [List.length_map, List.length_replicate, y]; rfl))
            refine ⟨_, rfl, (by show 2 ≤ sizeLine; decide), fun t nt => out2 (S' := ⟨S.p, S.s + 1, 0⟩) m5 d5 ?_ n4' e5' nt⟩
            rw [gb, if_neg e5, if_neg e]
    · rw [eqv_ints] at e
      have e : ¬ ns = [] := fun y => e (decide_eq_true y)
      have gb : gBeat S ns = if gHolds S ns then (⟨S.p, 0, (gBoth S ns).length⟩, [], false) else (⟨S.p, 0, 0⟩, gBoth S ns, false) := if_neg e
      unfold tNext
      dsimp only
      refine asg_by (J := fun v H2 => v = .bl (decide (0 < S.m ∨ S.p ≤ S.s)) ∧ H1 = H2) ?_ (fun rest => ?_)
      · rintro v H2 ⟨rfl, rfl⟩
        refine ⟨_, rfl, d, _, rfl, put_still d1, ?_⟩
        have m2 : MvF [d] H (upd H1 d (.dK (gdT S.p (0 : Nat) S.m))) := m1.upd (.head _)
        have d2 : upd H1 d (.dK (gdT S.p (0 : Nat) S.m)) d = some (.dK (gdT S.p (0 : Nat) S.m)) := upd_same
        have a2 : upd H1 d (.dK (gdT S.p (0 : Nat) S.m)) a = some (.lst (ns.map V.int)) := by rw [upd_ne nad]; exact a1
        show (_ : TS) _ _ (upd H1 d (.dK (gdT S.p (0 : Nat) S.m)))
        generalize upd H1 d (.dK (gdT S.p (0 : Nat) S.m)) = H2 at m2 d2 a2 ⊢
        have hS2 : SqL K H2 a (ns.map V.int) := SqL.of a2
        refine ⟨_, rfl, d, _, rfl, get_held d2, _, rfl, a, _, rfl, .inl hS2, _, _, rfl, rfl, ?_⟩
        refine name_by ?_
        dsimp only
        have eb : (gBoth S ns).length = S.m + ns.length := by
          unfold gBoth
          rw [List.length_append, List.length_replicate]
        have ez : (S.m : Int) + ((ns.map V.int).length : Nat) = ((gBoth S ns).length : Nat) := by
          rw [eb, List.length_map]
          omega
        rw [ez]
        refine if_by (J := fun σ1 H3 => (∃ y5, σ1 = [some (.ref d), some (.ref a), none, some (.bl (decide (0 < S.m ∨ S.p ≤ S.s))), some (.int ((gBoth S ns).length : Nat)), y5]) ∧ Same H2 H3 ∧ ¬ gHolds S ns) ?_ (fun rest => ?_)
        · rintro σ1 H3 ⟨⟨y5, rfl⟩, s3, nh⟩
          have d3 := s3 _ _ d2
          have m3 := m2.same s3
          refine ⟨(by show 1 ≤ sizeLine; decide), fun p4 n4 => ?_⟩
          have s4 := same_upd (o := .lst [.int 43]) n4
          refine ⟨_, rfl, d, _, rfl, get_held (s4 _ _ d3), p4, (S.m : Int), _, rfl, rfl, upd_same, by omega, by omega, ?_, fun p5 n5 => ?_⟩
          · show 1 * (S.m : Int).toNat ≤ sizeLine
            exact sz4 (by omega)
          rw [rep1, Int.toNat_natCast]
          have s5 := s4.trans (same_upd (o := .lst ((List.replicate S.m (43 : Int)).map V.int)) n5)
          refine ⟨_, rfl, p5, a, _, _, rfl, rfl, upd_same, (s3.trans s5) _ _ a2, ?_, fun p6 n6 => ?_⟩
          · rw [List.length_map, List.length_map, List.length_replicate]
            exact sz4 (by omega)
          rw [← List.map_append]
          have eb : List.replicate S.m (43 : Int) ++ ns = gBoth S ns := rfl
          rw [eb]
          have s6 := s5.trans (same_upd (o := .lst ((gBoth S ns).map V.int)) n6)
          have m6 := m3.same s6
          have d6 := s6 _ _ d3
          have n6' : H p6 = none := m3.free (s5.free n6)
          have e6 : upd (upd (upd H3 p4 (.lst [.int 43])) p5 (.lst ((List.replicate S.m (43 : Int)).map V.int))) p6 (.lst ((gBoth S ns).map V.int)) p6 = some (.lst ((gBoth S ns).map V.int)) := upd_same
          generalize upd (upd (upd H3 p4 (.lst [.int 43])) p5 (.lst ((List.replicate S.m (43 : Int)).map V.int))) p6 (.lst ((gBoth S ns).map V.int)) = H6 at m6 d6 e6 ⊢
          refine name_by ?_
          dsimp only
          refine ⟨_, rfl, d, _, rfl, put_held d6, ?_⟩
          have np : p6 ≠ d := (ne_of_none hd n6').symm
          have m7 : MvF [d] H (upd H6 d (.dK (gdT S.p (0 : Nat) (0 : Nat)))) := m6.upd (.head _)
          have d7 : upd H6 d (.dK (gdT S.p (0 : Nat) (0 : Nat))) d = some (.dK (gdT S.p (0 : Nat) (0 : Nat))) := upd_same
          have e7 : upd H6 d (.dK (gdT S.p (0 : Nat) (0 : Nat))) p6 = some (.lst ((gBoth S ns).map V.int)) := by rw [upd_ne np]; exact e6
          show (_ : TS) _ _ (upd H6 d (.dK (gdT S.p (0 : Nat) (0 : Nat))))
          generalize upd H6 d (.dK (gdT S.p (0 : Nat) (0 : Nat))) = H7 at m7 d7 e7 ⊢
          refine ⟨_, rfl, (by show 2 ≤ sizeLine; decide), fun t nt => out2 (S' := ⟨S.p, 0, 0⟩) m7 d7 ?_ n6' e7 nt⟩
          rw [gb, if_neg nh]
        · refine ⟨_, rfl, _, rfl, ite2 (fun e3 => ?_) (fun e3 => iteF (rest _ _ ⟨⟨_, rfl⟩, Same.refl _, fun h => e3 (decide_eq_true h.1)⟩))⟩
          have e3 : 0 < S.m ∨ S.p ≤ S.s := of_decide_eq_true e3
          refine ⟨_, rfl, _, _, rfl, rfl, _, rfl, ite2 (fun e4 => ?_) (fun e4 => iteF (rest _ _ ⟨⟨_, rfl⟩, Same.refl _, fun h => e4 (decide_eq_true (by have := h.2.1; omega))⟩))⟩
          have e4 : (gBoth S ns).length ≤ 3 := by have := of_decide_eq_true e4; omega
          refine ⟨_, rfl, a, rfl, ⟨_, hS2⟩, fun D nD => lc_list (K := K) (a := a) (xs := ns.map V.int) (fun i H' => Same H2 H' ∧ H' D = some (.lst (((ns.take i).map (fun x => decide (x = 43))).map V.bl))) ⟨same_upd nD, upd_same⟩ (fun i H' _ h => h.1.seq hS2) ?_ ?_⟩
          · rintro i x H3 hx ⟨s3, eD⟩
            obtain ⟨z, hz, rfl⟩ := getI hx
            have hil : i < ns.length := (List.getElem?_eq_some_iff.mp hz).1
            refine ⟨rfl, tYes_by (iteT ?_)⟩
            refine ⟨_, rfl, rfl, ?_⟩
            have ev : decide (V.int z = V.int 43) = decide (z = 43) := decide_eq_decide.mpr ⟨fun h => V.int.inj h, fun h => by rw [h]⟩
            rw [ev]
            refine ⟨_, eD, ?_, same_mut s3 nD, ?_⟩
            · rw [List.length_map, List.length_map, List.length_take]
              exact sz4l (by omega)
            · rw [upd_same, take_more hz, List.map_append, List.map_append]
              rfl
          · rintro H3 ⟨s3, eD⟩
            rw [List.length_map, List.take_length] at eD
            refine ⟨D, _, rfl, SqL.of eD, _, rfl, ?_⟩
            rw [all_map]
            by_cases h : ∀ x ∈ ns, x = 43
            · have yes : gHolds S ns := ⟨e3, e4, (both_all S ns).mpr h⟩
              refine ifT (List.all_eq_true.mpr (fun x hx => decide_eq_true (h x hx))) ?_
              refine ⟨_, rfl, _, rfl, d, _, rfl, put_held (s3 _ _ d2), ?_⟩
              have m4 : MvF [d] H (upd H3 d (.dK (gdT S.p (0 : Nat) ((gBoth S ns).length : Nat)))) := (m2.same s3).upd (.head _)
              have d4 : upd H3 d (.dK (gdT S.p (0 : Nat) ((gBoth S ns).length : Nat))) d = some (.dK (gdT S.p (0 : Nat) ((gBoth S ns).length : Nat))) := upd_same
              show (_ : TS) _ _ (upd H3 d (.dK (gdT S.p (0 : Nat) ((gBoth S ns).length : Nat))))
              generalize upd H3 d (.dK (gdT S.p (0 : Nat) ((gBoth S ns).length : Nat))) = H4 at m4 d4 ⊢
              refine ⟨Nat.zero_le _, fun o no => ⟨(by show 2 ≤ sizeLine; decide), fun t nt => out (S' := ⟨S.p, 0, (gBoth S ns).length⟩) m4 d4 ?_ no nt⟩⟩
              rw [gb, if_pos yes]
            · have e1 : ns.all (fun x => decide (x = 43)) = false := by
                cases e : ns.all (fun x => decide (x = 43)) with
                | false => rfl
                | true => exact absurd (fun x hx => of_decide_eq_true (List.all_eq_true.mp e x hx)) h
              exact ifF e1 (rest _ _ ⟨⟨_, rfl⟩, s3, fun g => h ((both_all S ns).mp g.2.2)⟩)
      · refine ⟨_, rfl, d, _, rfl, get_held d1, _, _, rfl, rfl, _, rfl, ite2 (fun e3 => ?_) (fun e3 => ?_)⟩
        · have e3 : 0 < S.m := by have := of_decide_eq_true e3; omega
          exact rest _ _ ⟨by rw [decide_eq_true (.inl e3 : 0 < S.m ∨ S.p ≤ S.s)], rfl⟩
        · have e3 : ¬ 0 < S.m := fun y => e3 (decide_eq_true (by omega))
          refine ⟨_, rfl, d, _, rfl, get_still d1, _, rfl, d, _, rfl, get_pause d1, _, _, rfl, rfl, ?_⟩
          exact rest _ _ ⟨congrArg V.bl (decide_eq_decide.mpr ⟨fun h => .inr (by omega), fun h => h.elim (fun y => absurd y e3) (fun y => by omega)⟩), rfl⟩
theorem sc__law_at : FnScope ["_law_act", "e"] ["_law_act"] (defScope s__law_at) := ⟨rfl, rfl, rfl, by decide +kernel, rfl, by decide +kernel, by decide +kernel⟩
theorem at_gives {X : Cx} {g cB cY cF cC cL : Addr} {cdg : Value} {q : Str} (aB : AtC X.K X.mg "BadBit" cB) (aY : AtC X.K X.mg "BadByte" cY) (aF : AtC X.K X.mg "BadFrame" cF) (aC : AtC X.K X.mg "BadCode" cC) (gL : X.mg "LineError" = some (.ref cL))
    (bb : PySem.W.exmOne X.K (.ref cB) (.ref cB) = some true) (yb : PySem.W.exmOne X.K (.ref cY) (.ref cB) = some false) (yy : PySem.W.exmOne X.K (.ref cY) (.ref cY) = some true)
    (fb : PySem.W.exmOne X.K (.ref cF) (.ref cB) = some false) (fy : PySem.W.exmOne X.K (.ref cF) (.ref cY) = some false) (ff : PySem.W.exmOne X.K (.ref cF) (.ref cF) = some true)
    (cb : PySem.W.exmOne X.K (.ref cC) (.ref cB) = some false) (cy : PySem.W.exmOne X.K (.ref cC) (.ref cY) = some false) (cf : PySem.W.exmOne X.K (.ref cC) (.ref cF) = some false) (cc : PySem.W.exmOne X.K (.ref cC) (.ref cC) = some true) :
    LamX.GivesTo X ["_law_act", "e"] "_law_at" (defScope s__law_at) g cdg (defBody s__law_at) "_law_act" q (TAt [(cB, "BadBit"), (cY, "BadByte"), (cF, "BadFrame"), (cC, "BadCode")]) := by
  intro f c' s H Q tl act hc h
  have sc := sc__law_at
  refine ⟨_, pss_cons (ps_try_manyA (X := (cxOf C8.CX0 X.prog X.w X.K X.mg X.base ["_law_act", "e"] "_law_at" (defScope s__law_at) g cdg X.A X.stack s H C8.E0).nox) (n := "e") (i := 1)
      (tb := fun W D σ H => ∃ Ech : XK, (∀ cls d σ' H', Ech cls d H' → σ'.length = 2 → W cls d σ' H') ∧ σ[0]? = some (some (.ref f)) ∧ H c' = some (LamX.CodeO c' q) ∧ tl Ech H (fun _ H1 => D.nx σ H1))
      rfl rfl sc.nd rfl rfl LamX.takes0 (fun W pn xe tk _ => ?_)
      (.cons (c := .ref cB) ⟨by rfl, by decide, .inl aB.gC⟩ (fun a oe cls d pn hz hf => pss_one (ps_ret (pe_lst (pa_cons pe_str (pa_cons (pe_xf aB.xf aB.no hz hf (pv 1)) pa_nil)))))
      (.cons (c := .ref cY) ⟨by rfl, by decide, .inl aY.gC⟩ (fun a oe cls d pn hz hf => pss_one (ps_ret (pe_lst (pa_cons pe_str (pa_cons (pe_xf aY.xf aY.no hz hf (pv 1)) pa_nil)))))
      (.cons (c := .ref cF) ⟨by rfl, by decide, .inl aF.gC⟩ (fun a oe cls d pn hz hf => pss_one (ps_ret (pe_lst (pa_cons pe_str (pa_cons (pe_xf aF.xf aF.no hz hf (pv 1)) pa_nil)))))
      (.cons (c := .ref cC) ⟨by rfl, by decide, .inl aC.gC⟩ (fun a oe cls d pn hz hf => pss_one (ps_ret (pe_lst (pa_cons pe_str (pa_cons (pe_xf aC.xf aC.no hz hf (pv 1)) pa_nil)))))
      (.cons (c := .ref cL) ⟨by rfl, by decide, .inl gL⟩ (fun a oe cls d pn hz hf => pss_one ps_never) .nil)))))) (pss_one ps_never), ?_⟩
  · refine ⟨fun pins s' σ H' D I h' => ?_⟩
    obtain ⟨Ech, hW, h1, h2, h3⟩ := h'
    exact PSs.run (pss_one (ps_expr (act _ pn xe Ech _ _ (takes_len tk) (fun cls d σ' H' e hl => hW cls d σ' H' e hl)))) pins s' σ H' D I ⟨h1, h2, h3⟩
  · refine ⟨_, fun cls d σ' H' e hl => ?_, rfl, hc, h⟩
    obtain ⟨e, he, rfl, dd, v, rfl, hd, q'⟩ := e
    have g1 : ∀ a : Addr, (σ'.set 1 (some (V.ref a)))[1]? = some (some (V.ref a)) := fun a => set_get (by omega)
    have fin : ∀ (a : Addr) (nm : Str), H' dd = some (.xd [(("at" : Str), v), (("word" : Str), .str nm)]) → (∀ p, H' p = none → Q (.ref p) (upd H' p (.lst [.str nm, v]))) → ∀ (C : Addr), 
        tRet (tLst (tCons (tC (.str nm)) (tCons (tXf a (.ref C) (some dd) C "at" (tVar 1)) tNil))) (asEnds 1 { nx := fun _ H' => Q .non H', rt := Q }) (σ'.set 1 (some (.ref a))) H' := fun a nm h1 h2 C =>
      ⟨_, g1 a, rfl, rfl, dd, _, v, rfl, h1, rfl, (by show 2 ≤ sizeLine; decide), h2⟩
    rcases List.mem_cons.mp he with rfl | he
    · exact ⟨true, bb, fun _ a _ => fin a _ hd q' _, fun z => by cases z⟩
    rcases List.mem_cons.mp he with rfl | he
    · exact ⟨false, yb, (fun z => by cases z), fun _ => ⟨true, yy, fun _ a _ => fin a _ hd q' _, fun z => by cases z⟩⟩
    rcases List.mem_cons.mp he with rfl | he
    · exact ⟨false, fb, (fun z => by cases z), fun _ => ⟨false, fy, (fun z => by cases z), fun _ => ⟨true, ff, fun _ a _ => fin a _ hd q' _, fun z => by cases z⟩⟩⟩
    rw [List.mem_singleton.mp he] at hd q' ⊢
    exact ⟨false, cb, (fun z => by cases z), fun _ => ⟨false, cy, (fun z => by cases z), fun _ => ⟨false, cf, (fun z => by cases z), fun _ => ⟨true, cc, fun _ a _ => fin a _ hd q' _, fun z => by cases z⟩⟩⟩⟩
theorem sc__law_tried : FnScope ["_law_act", "e"] ["_law_act"] (defScope s__law_tried) := ⟨rfl, rfl, rfl, by decide +kernel, rfl, by decide +kernel, by decide +kernel⟩
theorem tried_gives {X : Cx} {g cN cL cM : Addr} {cdg : Value} {q nm : Str} (xN : XfC X.K cN) (noN : PySem.W.findIn X.K (.ref cN) "word" = some none) (gL : X.mg "LineError" = some (.ref cL)) (gM : X.mg "Missing" = some (.ref cM))
    (nl : PySem.W.exmOne X.K (.ref cN) (.ref cL) = some true) :
    LamX.GivesTo X ["_law_act", "e"] "_law_tried" (defScope s__law_tried) g cdg (defBody s__law_tried) "_law_act" q (TTried cN nm) := by
  intro f c' s H Q tl act hc h
  have sc := sc__law_tried
  refine ⟨_, pss_one (ps_try_manyA (X := (cxOf C8.CX0 X.prog X.w X.K X.mg X.base ["_law_act", "e"] "_law_tried" (defScope s__law_tried) g cdg X.A X.stack s H C8.E0).nox) (n := "e") (i := 1)
      (tb := fun W D σ H => ∃ Ech : XK, (∀ cls d σ' H', Ech cls d H' → σ'.length = 2 → W cls d σ' H') ∧ σ[0]? = some (some (.ref f)) ∧ H c' = some (LamX.CodeO c' q) ∧ tl Ech H (fun v H1 => ([V.str "told", v] : List V).length ≤ sizeLine ∧ ∀ p, H1 p = none → D.rt (.ref p) (upd H1 p (.tup [.str "told", v]))))
      rfl rfl sc.nd rfl rfl LamX.takes0 (fun W pn xe tk _ => ?_)
      (.cons (c := .ref cL) ⟨by rfl, by decide, .inl gL⟩ (fun a oe cls d pn hz hf => pss_one (ps_ret (pe_tup (pa_cons pe_str (pa_cons (pe_xf xN noN hz hf (pv 1)) pa_nil)))))
      (.cons (c := .ref cM) ⟨by rfl, by decide, .inl gM⟩ (fun a oe cls d pn hz hf => pss_one ps_never) .nil))), ?_⟩
  · refine ⟨fun pins s' σ H' D I h' => ?_⟩
    obtain ⟨Ech, hW, h1, h2, h3⟩ := h'
    exact PSs.run (pss_one (ps_ret (pe_tup (pa_cons pe_str (pa_cons (act _ pn xe Ech _ _ (takes_len tk) (fun cls d σ' H' e hl => hW cls d σ' H' e hl)) pa_nil))))) pins s' σ H' D I ⟨h1, h2, h3⟩
  · refine ⟨_, fun cls d σ' H' e hl => ?_, rfl, hc, h⟩
    obtain ⟨rfl, dd, fs, rfl, hd, hw, q'⟩ := e
    have g1 : ∀ a : Addr, (σ'.set 1 (some (V.ref a)))[1]? = some (some (V.ref a)) := fun a => set_get (by omega)
    exact ⟨true, nl, fun _ a _ => ⟨_, g1 a, rfl, rfl, dd, _, _, rfl, hd, hw, (by show 2 ≤ sizeLine; decide), q'⟩, fun z => by cases z⟩
theorem dp_ss {H : Hp} {a : Addr} {x y : Str} (h : H a = some (.tup [.str x, .str y])) : Dp K H (.ref a) (.tuple [.str x, .str y]) := .tup (.inl (.inl h)) (.cons (.str x) (.cons (.str y) .nil))
theorem shaped_ss {x y : Str} (hx : PyData.canLay0 (.str x) = true) (hy : PyData.canLay0 (.str y) = true) : SeqAt.shaped (.tuple [.str x, .str y]) = true := by
  unfold SeqAt.shaped
  rw [Bool.and_eq_true]
  refine ⟨?_, decide_eq_true (by show max 0 (max 0 0) + 1 ≤ 64; decide)⟩
  show (PyData.canLay0 (.str x) && (PyData.canLay0 (.str y) && true)) = true
  rw [hx, hy]
  rfl
theorem lay_BadCount : PyData.canLay0 (.str "BadCount") = true := by decide +kernel
theorem lay_NoRate : PyData.canLay0 (.str "NoRate") = true := by decide +kernel
theorem lay_refused : PyData.canLay0 (.str "refused") = true := by decide +kernel
theorem lay_told : PyData.canLay0 (.str "told") = true := by decide +kernel
abbrev qLam : Str := "law.<locals>.<lambda>"
def spLaw (K : PySem.W.Frag) (tP : Addr) : Sp := fun vs H Q _ => ∃ (a : Addr) (ns : List Int), vs = [.ref a] ∧ SqL K H a (ns.map V.int) ∧ H tP = some (.tbl #[]) ∧ ∀ H', Q (.bl true) H'
theorem ss_same (x y : Str) (hx : PyData.canLay0 (.str x) = true) (hy : PyData.canLay0 (.str y) = true) : (!PyData.eqv (.tuple [.str x, .str y]) (.tuple [.str x, .str y])) = false := by
  rw [SeqAt.eqv_refl _ (SeqAt.canLay_of_shaped (shaped_ss hx hy))]
  rfl
/-- a guard, and what the law keeps of it -/
structure GX where
  r : Addr
  d : Addr
  S : GS
  Z : GS
theorem in2g {a r b : Addr} (h : a ∈ [r, b]) : a = r ∨ a = b := by simpa using h
def tGX (C : Addr) (x : GX) : Th := ⟨[x.r, x.d], fun H => (∃ dx, H x.r = some (.ins C dx (gdF x.S.p x.S.s x.S.m))) ∧ H x.d = some (.dK (gdD x.Z)), fun H H' k h => by
  obtain ⟨⟨dx, h1⟩, h2⟩ := h
  exact ⟨⟨dx, k _ (.head _) _ h1⟩, k _ (.tail _ (.head _)) _ h2⟩, fun H h a ha => by
  obtain ⟨⟨dx, h1⟩, h2⟩ := h
  rcases in2g ha with rfl | rfl
  · exact ⟨_, h1, trivial⟩
  · exact ⟨_, h2, trivial⟩⟩
/-- what a beat told -/
def tTO (t o : Addr) (z : Bool) (xs : List V) : Th := ⟨[t, o], fun H => H t = some (.tup [.ref o, .bl z]) ∧ H o = some (.lst xs), fun H H' k h => ⟨k _ (.head _) _ h.1, k _ (.tail _ (.head _)) _ h.2⟩, fun H h a ha => by
  rcases in2g ha with rfl | rfl
  · exact ⟨_, h.1, trivial⟩
  · exact ⟨_, h.2, trivial⟩⟩
section
variable {T0 : List (Addr × Str)} {Ts : List Th} {H H' : Hp} {C t o : Addr} {x : GX} {R : List GX} {i j : Nat} {row : List Int}
theorem Hs.beaten (h : Hs T0 Ts H) (i : Nat) (hi : Ts[i]? = some (tG (R.map (tGX C)))) (hj : R[j]? = some x) (G : GdOut C x.r t o x.S row H H') :
    Hs T0 (tTO t o (gBeat x.S row).2.2 ((gBeat x.S row).2.1.map V.int) :: Ts.set i (tG ((R.set j ⟨x.r, x.d, (gBeat x.S row).1, x.Z⟩).map (tGX C)))) H' := by
  obtain ⟨⟨dx, h1⟩, h2⟩ : (tGX C x).P H := h.gget i hi hj
  refine h.gsetN (F := [x.r]) i hi hj G.mv (fun a ha => .inl (by rw [in1 ha]; exact .head _)) ⟨G.er, G.mv.kp _ _ (fun z => ?_) h2⟩ (fun a ha => .inl ha) ⟨G.et, G.eo⟩ (fun a ha => ?_)
  · rw [in1 z, h1] at h2
    cases h2
  · have na : H a = none := by
      rcases in2g ha with rfl | rfl
      · exact G.nt
      · exact G.no
    refine ⟨na, fun z => ?_⟩
    rcases in2g z with rfl | rfl
    · rw [h1] at na
      cases na
    · rw [h2] at na
      cases na
theorem Hs.dbeaten (h : Hs T0 Ts H) (i : Nat) (hi : Ts[i]? = some (tG (R.map (tGX C)))) (hj : R[j]? = some x) (G : DOut x.d t o x.Z row H H') :
    Hs T0 (tTO t o (gBeat x.Z row).2.2 ((gBeat x.Z row).2.1.map V.int) :: Ts.set i (tG ((R.set j ⟨x.r, x.d, x.S, (gBeat x.Z row).1⟩).map (tGX C)))) H' := by
  obtain ⟨⟨dx, h1⟩, h2⟩ : (tGX C x).P H := h.gget i hi hj
  refine h.gsetN (F := [x.d]) i hi hj G.mv (fun a ha => .inl (by rw [in1 ha]; exact .tail _ (.head _))) ⟨⟨dx, G.mv.kp _ _ (fun z => ?_) h1⟩, G.ed⟩ (fun a ha => .inl ha) ⟨G.et, G.eo⟩ (fun a ha => ?_)
  · rw [in1 z, h2] at h1
    cases h1
  · have na : H a = none := by
      rcases in2g ha with rfl | rfl
      · exact G.nt
      · exact G.no
    refine ⟨na, fun z => ?_⟩
    rcases in2g z with rfl | rfl
    · rw [h1] at na
      cases na
    · rw [h2] at na
      cases na
/-- the list told was written -/
theorem Hs.tput {z : Bool} {xs ys : List V} (h : Hs T0 Ts H) (i : Nat) (hi : Ts[i]? = some (tTO t o z xs)) : Hs T0 (Ts.set i (tTO t o z ys)) (upd H o (.lst ys)) := by
  obtain ⟨h1, h2⟩ : (tTO t o z xs).P H := h.get i hi
  have n : t ≠ o := fun e => by
    rw [e, h2] at h1
    cases h1
  exact h.op (F := [o]) (T' := tTO t o z ys) i hi ((MvF.refl _ _).upd (.head _)) (fun a ha => by rw [in1 ha]; exact .inl (.tail _ (.head _))) ⟨by rw [upd_ne n]; exact h1, upd_same⟩ (fun a ha => .inl ha)
end
theorem gBeat_p (S : GS) (row : List Int) : (gBeat S row).1.p = S.p := by
  unfold gBeat
  repeat' split
  all_goals rfl
theorem gBeat_m (S : GS) (row : List Int) (h : S.m ≤ 3) : (gBeat S row).1.m ≤ 3 := by
  unfold gBeat
  split
  · split
    · exact h
    · split
      · exact Nat.zero_le _
      · exact Nat.zero_le _
  · split
    · rename_i g
      exact g.2.1
    · exact Nat.zero_le _
theorem gBeat_len (S : GS) (row : List Int) : (gBeat S row).2.1.length ≤ S.m + row.length := by
  unfold gBeat
  split
  · split
    · exact Nat.zero_le _
    · split
      · exact Nat.zero_le _
      · rw [List.length_replicate]
        exact Nat.le_add_right _ _
  · split
    · exact Nat.zero_le _
    · show (gBoth S row).length ≤ _
      unfold gBoth
      rw [List.length_append, List.length_replicate]
      exact Nat.le_refl _
theorem dn_ints (ns : List Int) (h : ns.length ≤ 100000) (n : Nat) : Dn (n + 2) (dI ns) := .inr (.inr (.inr (.inr ⟨_, .inl rfl, by rw [List.length_map]; exact h, fun e he => by
  obtain ⟨z, _, rfl⟩ := List.mem_map.mp he
  exact .inr (.inl ⟨z, rfl⟩)⟩)))
theorem dn_out (ns : List Int) (z : Bool) (h : ns.length ≤ 100000) (n : Nat) : Dn (n + 3) (.tuple [dI ns, .bool z]) := .inr (.inr (.inr (.inr ⟨_, .inr rfl, (by show 2 ≤ 100000; decide), fun e he => by
  rcases List.mem_cons.mp he with rfl | he
  · exact dn_ints ns h n
  · rw [List.mem_singleton.mp he]
    exact .inl ⟨_, rfl⟩⟩)))
theorem shaped_out (ns : List Int) (z : Bool) : SeqAt.shaped (.tuple [dI ns, .bool z]) = true := by
  unfold SeqAt.shaped
  rw [Bool.and_eq_true]
  refine ⟨?_, decide_eq_true ?_⟩
  · show (PyData.canLayAll0 (ns.map PyData.int) && (true && true)) = true
    rw [canLay_ints]
    rfl
  · show max (PyData.depthAll (ns.map PyData.int) + 1) (max 0 0) + 1 ≤ 64
    rw [depth_ints]
    decide
theorem dp_out {H : Hp} {t o : Addr} {z : Bool} {X : List Int} (h : (tTO t o z (X.map V.int)).P H) : Dp K H (.ref t) (.tuple [dI X, .bool z]) := .tup (SqT.of h.1) (.cons (dp_ints (SqL.of h.2)) (.cons (.bl _) .nil))
theorem repR (p : Addr) : ∀ m : Nat, (List.replicate m [V.ref p]).flatten = List.replicate m (V.ref p)
  | 0 => rfl
  | m + 1 => by
    rw [List.replicate_succ, List.flatten_cons, repR p m, List.replicate_succ]
    rfl
theorem lay_BadByte : PyData.canLay0 (.str "BadByte") = true := by decide +kernel
theorem shaped_si {x : Str} (hx : PyData.canLay0 (.str x) = true) (z : Int) : SeqAt.shaped (.list [.str x, .int z]) = true := by
  unfold SeqAt.shaped
  rw [Bool.and_eq_true]
  refine ⟨?_, decide_eq_true (by show max 0 (max 0 0) + 1 ≤ 64; decide)⟩
  show (PyData.canLay0 (.str x) && (true && true)) = true
  rw [hx]
  rfl
theorem si_same (x : Str) (z : Int) (hx : PyData.canLay0 (.str x) = true) : (!PyData.eqv (.list [.str x, .int z]) (.list [.str x, .int z])) = false := by
  rw [SeqAt.eqv_refl _ (SeqAt.canLay_of_shaped (shaped_si hx z))]
  rfl
theorem ints_same (ns : List Int) : (!PyData.eqv (dI ns) (dI ns)) = false := by
  rw [SeqAt.eqv_refl _ (SeqAt.canLay_of_shaped (shaped_ints ns))]
  rfl
abbrev W48 (C : Addr) (b : Addr × Addr) (pg pst : Addr) (R : List GX) : List Th := [tB b, tL pg (R.map fun x => V.ref x.r), tL pst (R.map fun x => V.ref x.d), tG (R.map (tGX C))]
def In48 (rs : Nat) (R : List GX) : Prop := ∀ x ∈ R, x.Z = x.S ∧ x.S.p = rs ∧ x.S.m ≤ 3
abbrev V48 (C : Addr) (b : Addr × Addr) (pl pr pe pg pst : Addr) (row : List Int) (cn : Nat) (R : List GX) : List Th := [tB b, tL pl (.ref pr :: List.replicate cn (.ref pe)), tL pr (row.map V.int), tL pe (([] : List Int).map V.int), tL pg (R.map fun x => V.ref x.r), tL pst (R.map fun x => V.ref x.d), tG (R.map (tGX C))]
theorem sc_law : FnScope ["_law_script", "_law_bag_here", "_law_rest", "_law_guards", "_law_states", "_law_born", "_law_turn", "_law_at_here", "_law_row_here", "_law_spot", "_law_bad", "_law_one", "_law_handed", "_law_told", "_law_odd", "_law_guard", "_law_state"] ["_law_script"] (defScope s_law) := ⟨rfl, rfl, rfl, by decide +kernel, rfl, by decide +kernel, by decide +kernel⟩
theorem ok_law {f c tP gA gD cN cM C cB cY cF cC cL : Addr} {k n : Nat} {oc : Value} {od an : Option Addr} {osl : Array (Option Value)} {kV doc pm ct : Value} {t3 t43 : Tok} {ocD : Value} {odD anD : Option Addr} {oslD : Array (Option Value)} {kVD docD pmD cdD ctD : Value} {ocA : Value} {odA anA : Option Addr} {oslA : Array (Option Value)} {kVA docA pmA cdA ctA : Value}
    (lk : K.lookup f = some ⟨oc, od, .func (PySem.W.fnOf "law" "law" (defArgs s_law) (defBody s_law) (defScope s_law) .none kV doc pm an (.ref c) ct), osl⟩) (hcd : PySem.W.codeIn K (.ref c) "law" = true)
    (lA : K.lookup gA = some ⟨ocA, odA, .func (PySem.W.fnOf "_law_at" "_law_at" (defArgs s__law_at) (defBody s__law_at) (defScope s__law_at) .none kVA docA pmA anA cdA ctA), oslA⟩) (hcA : PySem.W.codeIn K cdA "_law_at" = true) (kA : PySem.W.keepIn K (.ref gA) = true) (mA : mg "_law_at" = some (.ref gA))
    (bA : Binds K (PySem.W.fnOf "_law_at" "_law_at" (defArgs s__law_at) (defBody s__law_at) (defScope s__law_at) .none kVA docA pmA anA cdA ctA) ["_law_act"] [])
    (aB : AtC K mg "BadBit" cB) (aY : AtC K mg "BadByte" cY) (aF : AtC K mg "BadFrame" cF) (aC : AtC K mg "BadCode" cC) (gL : mg "LineError" = some (.ref cL))
    (bb_ : PySem.W.exmOne K (.ref cB) (.ref cB) = some true) (yb : PySem.W.exmOne K (.ref cY) (.ref cB) = some false) (yy : PySem.W.exmOne K (.ref cY) (.ref cY) = some true)
    (fb : PySem.W.exmOne K (.ref cF) (.ref cB) = some false) (fy : PySem.W.exmOne K (.ref cF) (.ref cY) = some false) (ff : PySem.W.exmOne K (.ref cF) (.ref cF) = some true)
    (cb : PySem.W.exmOne K (.ref cC) (.ref cB) = some false) (cy : PySem.W.exmOne K (.ref cC) (.ref cY) = some false) (cf : PySem.W.exmOne K (.ref cC) (.ref cF) = some false) (cc : PySem.W.exmOne K (.ref cC) (.ref cC) = some true)
    (TB : LamX.TabB base mg c tP)
    (lD : K.lookup gD = some ⟨ocD, odD, .func (PySem.W.fnOf "_law_tried" "_law_tried" (defArgs s__law_tried) (defBody s__law_tried) (defScope s__law_tried) .none kVD docD pmD anD cdD ctD), oslD⟩) (hcD : PySem.W.codeIn K cdD "_law_tried" = true) (kD : PySem.W.keepIn K (.ref gD) = true) (mD : mg "_law_tried" = some (.ref gD))
    (bD : Binds K (PySem.W.fnOf "_law_tried" "_law_tried" (defArgs s__law_tried) (defBody s__law_tried) (defScope s__law_tried) .none kVD docD pmD anD cdD ctD) ["_law_act"] [])
    (xN : XfC K cN) (noN : PySem.W.findIn K (.ref cN) "word" = some none) (gM : mg "Missing" = some (.ref cM)) (nl : PySem.W.exmOne K (.ref cN) (.ref cL) = some true)
    (n_dict : mg "dict" = none) (n_len : mg "len" = none) (n_list : mg "list" = none) (n_range : mg "range" = none) (g_PAUSE : mg "PAUSE" = some (.int 3 t3)) (g_MARK_KEY : mg "MARK_KEY" = some (.int 43 t43))
    (cnd_Guard : CalND P w K mg base (k + 2) "Guard" C ["self", "pause"] [.int 3] (spGi C cN)) (cnw_Guard : CalNW P w K mg base (k + 2) "Guard" C ["self", "pause"] ["pause"] (fun vs zs => vs ++ zs) (spGi C cN)) (clnw_Guard : CalNW P w K mg base k "Guard" C ["self", "pause"] ["pause"] (fun vs zs => vs ++ zs) (spGi C cN))
    (c_Guard_twin : CalM CX0 P w K mg base (k + 3) C "twin" ["self"] (spGt C)) (c_Guard_held : CalM CX0 P w K mg base (k + 3) C "held" ["self"] (spGh C)) (c_Guard_beat : CalM (L2.CX P w) P w K mg base (k + 3) C "beat" ["self", "row"] (spGb K C cY)) (cl_Guard_beat : CalM (L2.CX P w) P w K mg base (k + 1) C "beat" ["self", "row"] (spGb K C cY))
    (c__law_bag : Cal P w K mg base (k + 3) "_law_bag" ["_law_script"] (spBag K)) (c__law_pick : Cal P w K mg base (k + 3) "_law_pick" ["_law_bag_here", "_law_top"] spPick) (c__law_of : Cal P w K mg base (k + 3) "_law_of" ["_law_bag_here", "_law_some"] (spOf K)) (c__law_same : Cal P w K mg base (k + 3) "_law_same" ["_law_found", "_law_due"] (spSame K (n + 3)))
    (c__law_keys : Cal P w K mg base (k + 3) "_law_keys" ["_law_bag_here"] spKeys) (c__law_guard_new : Cal P w K mg base (k + 3) "_law_guard_new" ["_law_rest"] spGn) (c__law_guard_beat : Cal P w K mg base (k + 3) "_law_guard_beat" ["_law_state", "_law_row_here"] spLgb) :
    FnOk P w K mg base CX0 (k + 4) f (PySem.W.fnOf "law" "law" (defArgs s_law) (defBody s_law) (defScope s_law) .none kV doc pm an (.ref c) ct) ["_law_script"] (spLaw K tP) := by
  have sc := sc_law
  refine okL lk hcd sc (fun vs H Q E h => ?_) (fun A outer s H vs Q E hr h => ?_)
  · obtain ⟨a, ns, rfl, _⟩ := h
    rfl
  · obtain ⟨a, ns, rfl, hS, hT0, q⟩ := h
    have LA__law_at : LamTo (cxOf CX0 P w K mg base ["_law_script", "_law_bag_here", "_law_rest", "_law_guards", "_law_states", "_law_born", "_law_turn", "_law_at_here", "_law_row_here", "_law_spot", "_law_bad", "_law_one", "_law_handed", "_law_told", "_law_odd", "_law_guard", "_law_state"] "law" (defScope s_law) f (.ref c) A outer s H E).nox [(tP, qLam)] "_law_at" (TAt [(cB, "BadBit"), (cY, "BadByte"), (cF, "BadFrame"), (cC, "BadCode")]) := fun {params body scope t p lpos pos k} hr L hd hbn hbody =>
      LamX.pe_lamcall (by rfl) mA kA lA hcA bA sc__law_at rfl (.inl rfl) (at_gives aB aY aF aC gL bb_ yb yy fb fy ff cb cy cf cc) TB rfl (List.mem_singleton.mpr rfl) (fun p hp _ => by rw [List.mem_singleton.mp hp]; rfl) hr L hd hbn hbody
    have LA__law_tried : LamTo (cxOf CX0 P w K mg base ["_law_script", "_law_bag_here", "_law_rest", "_law_guards", "_law_states", "_law_born", "_law_turn", "_law_at_here", "_law_row_here", "_law_spot", "_law_bad", "_law_one", "_law_handed", "_law_told", "_law_odd", "_law_guard", "_law_state"] "law" (defScope s_law) f (.ref c) A outer s H E).nox [(tP, qLam)] "_law_tried" (TTried cN "BadCount") := fun {params body scope t p lpos pos k} hr L hd hbn hbody =>
      LamX.pe_lamcall (by rfl) mD kD lD hcD bD sc__law_tried rfl (.inl rfl) (tried_gives xN noN gL gM nl) TB rfl (List.mem_singleton.mpr rfl) (fun p hp _ => by rw [List.mem_singleton.mp hp]; rfl) hr L hd hbn hbody
    refine ⟨_, (pss_cons (ps_set (i := 1) sc.nd rfl (.inl rfl) (pe_callC c__law_bag hr (by rfl) (pa_cons (pv 0) pa_nil)))
 (pss_cons (ps_set (i := 2) sc.nd rfl (.inl rfl) (pe_callC c__law_of hr (by rfl) (pa_cons (pv 1) (pa_cons (pe_lst (pa_cons pe_int (pa_cons pe_int (pa_cons pe_int (pa_cons (pe_op op_add pe_int (pe_callC c__law_pick hr (by rfl) (pa_cons (pv 1) (pa_cons pe_int pa_nil)))) pa_nil))))) pa_nil))))
 (pss_cons (ps_set (i := 3) sc.nd rfl (.inr rfl) (pe_lst (pa_cons (pe_ifExp (pt_cmpR op_eq (pv 2) pe_int (nomark _)) (pe_makeDF cnd_Guard hr (by rfl)) (pe_makeWF cnw_Guard hr (by rfl) (pk_cons (pv 2) pk_nil))) pa_nil)))
 (pss_cons (ps_set (i := 4) sc.nd rfl (.inl rfl) (pe_lst (pa_cons (pe_callC c__law_guard_new hr (by rfl) (pa_cons (pv 2) pa_nil)) pa_nil)))
 (pss_cons (ps_set (i := 5) sc.nd rfl (.inl rfl) (pe_callC c__law_pick hr (by rfl) (pa_cons (pv 1) (pa_cons pe_int pa_nil))))
 (pss_cons (ps_for PassesOwn.never rfl (pi_range1 (by rfl) n_range (pa_cons (pe_op op_add pe_int (pe_callC c__law_pick hr (by rfl) (pa_cons (pv 1) (pa_cons pe_int pa_nil)))) pa_nil)) (pg_name (i := 6) sc.nd rfl (.inl rfl))
  (pss_cons (ps_set (i := 7) sc.nd rfl (.inr rfl) (pe_callC c__law_pick hr (by rfl) (pa_cons (pv 1) (pa_cons (pe_callB (call_lenK K rfl) (by rfl) n_len PySem.boot_len (pa_cons (pv 3) pa_nil)) pa_nil))))
 (pss_cons (ps_if (pt_cmpR op_eq (pv 6) (pv 5) (nomark _))
  (pss_cons (ps_expr (pe_bmK K rfl PySem.F.plainAttrs_list PySem.F.slot_list_append PySem.F.type_list_append mt_append (pv 3) (pa_cons (pe_methC0 (pe_ix (ix_listK K rfl) (pv 3) (pv 7) (fun _ _ => rfl)) c_Guard_twin hr) pa_nil)))
 (pss_one (ps_expr (pe_bmK K rfl PySem.F.plainAttrs_list PySem.F.slot_list_append PySem.F.type_list_append mt_append (pv 4) (pa_cons (pe_callTy call_dictD (by rfl) n_dict (by decide +kernel) (pa_cons (pe_ix (ix_listK K rfl) (pv 4) (pv 7) (fun _ _ => rfl)) pa_nil)) pa_nil)))))
  pss_nil)
 (pss_cons (ps_set (i := 8) sc.nd rfl (.inl rfl) (pe_callC c__law_keys hr (by rfl) (pa_cons (pv 1) pa_nil)))
 (pss_cons (ps_set (i := 9) sc.nd rfl (.inl rfl) (pe_callC c__law_pick hr (by rfl) (pa_cons (pv 1) (pa_cons (pe_op op_add (pe_callB (call_lenK K rfl) (by rfl) n_len PySem.boot_len (pa_cons (pv 8) pa_nil)) pe_int) pa_nil))))
 (pss_cons (ps_set (i := 10) sc.nd rfl (.inr rfl) (pe_op op_cat (pe_op op_cat (pe_slice (sl_listK K rfl) (pv 8) po_none (po_some (pv 9))) (pe_lst (pa_cons (pe_callC c__law_of hr (by rfl) (pa_cons (pv 1) (pa_cons (pe_lst (pa_cons pe_int (pa_cons (pe_un un_neg pe_int) pa_nil))) pa_nil))) pa_nil))) (pe_slice (sl_listK K rfl) (pv 8) (po_some (pv 9)) po_none)))
 (pss_cons (ps_if (pt_cmpR (op_neDK K rfl hr.units) (LA__law_at hr (LamX.lamS_by (sc := defScope s_law) (by decide +kernel)) rfl (fun _ _ _ _ _ => rfl) (fun A outer s H E f c2 hr => (pe_methP (pe_ix (ix_listK K rfl) (pv 3) (pv 7) (fun _ _ => rfl)) cl_Guard_beat hr (passes_call (takes_of rfl rfl rfl rfl) (fun _ _ _ _ h => h)) (pa_cons (pv 10) pa_nil)))) (pe_lst (pa_cons pe_str (pa_cons (pv 9) pa_nil))) (nomark _))
  (pss_one (ps_ret pe_bl))
  pss_nil)
 (pss_cons (ps_for PassesOwn.never rfl (pi_listK K rfl (pe_op op_cat (pe_lst (pa_cons (pv 8) pa_nil)) (pe_op op_rep (pe_lst (pa_cons (pe_lst pa_nil) pa_nil)) (pe_callC c__law_of hr (by rfl) (pa_cons (pv 1) (pa_cons (pe_lst (pa_cons pe_int (pa_cons pe_int (pa_cons pe_int (pa_cons (pv 2) pa_nil))))) pa_nil)))))) (pg_name (i := 11) sc.nd rfl (.inl rfl))
  (pss_cons (ps_set (i := 12) sc.nd rfl (.inl rfl) (pe_callTy (call_listK K rfl) (by rfl) n_list (by decide +kernel) (pa_cons (pv 11) pa_nil)))
 (pss_cons (ps_set (i := 13) sc.nd rfl (.inl rfl) (pe_methF (pe_ix (ix_listK K rfl) (pv 3) (pv 7) (fun _ _ => rfl)) c_Guard_beat hr (pa_cons (pv 12) pa_nil)))
 (pss_cons (ps_if (PW.pt (pw_or (pt_not (pt_val (pe_callC c__law_same hr (by rfl) (pa_cons (pv 13) (pa_cons (pe_callC c__law_guard_beat hr (by rfl) (pa_cons (pe_ix (ix_listK K rfl) (pv 4) (pv 7) (fun _ _ => rfl)) (pa_cons (pv 11) pa_nil))) pa_nil))))) (pw_or1 (pt_cmpR (op_neDK K rfl hr.units) (pv 12) (pv 11) (nomark _)))))
  (pss_one (ps_ret pe_bl))
  pss_nil)
 (pss_one (ps_expr (pe_bmK K rfl PySem.F.plainAttrs_list PySem.F.slot_list_append PySem.F.type_list_append mt_append (pe_ix (ix_tupK K rfl) (pv 13) pe_int (fun _ _ => rfl)) (pa_cons pe_int pa_nil))))))))
 (pss_one (ps_if (pt_not (pt_val (pe_callC c__law_same hr (by rfl) (pa_cons (pe_lc (own := [("_law_guard", 15)]) (g := gName 15) (by rfl) sc.nd (pi_listK K rfl (pv 3)) (blkOk_by (own := [("_law_guard", 15)]) (N := ["_law_script", "_law_bag_here", "_law_rest", "_law_guards", "_law_states", "_law_born", "_law_turn", "_law_at_here", "_law_row_here", "_law_spot", "_law_bad", "_law_one", "_law_handed", "_law_told", "_law_odd", "_law_guard", "_law_state"]) (sc := defScope s_law) (by decide +kernel)) (fun _ _ _ _ _ => (pg_name (i := 15) sc.nd rfl (Or.inl rfl))) (fun _ _ _ _ _ => pts_nil) (fun _ _ _ _ _ => (pe_methC0 (pv 15) c_Guard_held hr))) (pa_cons (pe_lc (own := [("_law_state", 16)]) (g := gName 16) (by rfl) sc.nd (pi_listK K rfl (pv 4)) (blkOk_by (own := [("_law_state", 16)]) (N := ["_law_script", "_law_bag_here", "_law_rest", "_law_guards", "_law_states", "_law_born", "_law_turn", "_law_at_here", "_law_row_here", "_law_spot", "_law_bad", "_law_one", "_law_handed", "_law_told", "_law_odd", "_law_guard", "_law_state"]) (sc := defScope s_law) (by decide +kernel)) (fun _ _ _ _ _ => (pg_name (i := 16) sc.nd rfl (Or.inl rfl))) (fun _ _ _ _ _ => pts_nil) (fun _ _ _ _ _ => (pe_dget (hu_of hr) (pv 16) pe_str (fun _ _ => rfl)))) pa_nil)))))
  (pss_one (ps_ret pe_bl))
  pss_nil))))))))))
 (pss_cons (ps_set (i := 14) sc.nd rfl (.inr rfl) (pe_callC c__law_of hr (by rfl) (pa_cons (pv 1) (pa_cons (pe_lst (pa_cons pe_int (pa_cons pe_int (pa_cons (pe_un un_neg pe_int) (pa_cons (pe_op op_pow pe_int pe_int) pa_nil))))) pa_nil))))
 (pss_cons (ps_if (pt_cmpR (op_neDK K rfl hr.units) (LA__law_tried hr (LamX.lamS_by (sc := defScope s_law) (by decide +kernel)) rfl (fun _ _ _ _ _ => rfl) (fun A outer s H E f c2 hr => (pe_makeW clnw_Guard hr (passes_call (takes_of rfl rfl rfl rfl) (fun _ _ _ _ h => h)) (by rfl) (pk_cons (pv 14) pk_nil)))) (pe_tup (pa_cons pe_str (pa_cons pe_str pa_nil))) (nomark _))
  (pss_one (ps_ret pe_bl))
  pss_nil)
 (pss_one (ps_ret (pe_callC c__law_same hr (by rfl) (pa_cons (pe_lst (pa_cons (pe_glob (v := .int 3) (by rfl) g_PAUSE ⟨_, rfl⟩) (pa_cons (pe_glob (v := .int 43) (by rfl) g_MARK_KEY ⟨_, rfl⟩) pa_nil))) (pa_cons (pe_lst (pa_cons pe_int (pa_cons pe_int pa_nil))) pa_nil))))))))))))), ?_⟩
    have hT : LamX.Tabs [(tP, qLam)] H := fun p hp => by rw [List.mem_singleton.mp hp]; exact LamX.TabS.nil hT0
    refine ⟨_, rfl, a, ns, rfl, hS, fun H1 b s1 nb hB => ?_⟩
    have h1 : Hs [(tP, qLam)] [tB b] H1 := (Hs.nil (hT.ext s1)).cons hB (fun j y hj => by cases hj)
    -- rest
    refine ⟨_, rfl, _, rfl, b, 20, rfl, h1.bag, by decide, by decide, fun H2 d2 mv2 hB2 d20 d21 => ⟨_, _, rfl, rfl, (by show 4 ≤ sizeLine; decide), fun p3 n3 => ?_⟩⟩
    have h3 := (h1.mv mv2 hB2).newU (o := .lst [.int 3, .int 1, .int 2, .int (1 + d2)]) n3
    refine ⟨b, p3, _, rfl, h3.bag, h3.ne 1 0 rfl rfl (.head _) (.head _), upd_same, (by show 0 < 4; decide), (by show 4 < 1000; decide), fun H4 v4 mv4 hB4 hv => ?_⟩
    obtain ⟨rs, rfl, rs1, rs2⟩ : ∃ z : Nat, v4 = .int (z : Int) ∧ 1 ≤ z ∧ z ≤ 20 := by
      simp only [List.mem_cons, List.not_mem_nil, or_false] at hv
      rcases hv with rfl | rfl | rfl | rfl
      · exact ⟨3, rfl, by decide, by decide⟩
      · exact ⟨1, rfl, by decide, by decide⟩
      · exact ⟨2, rfl, by decide, by decide⟩
      · exact ⟨(1 + d2).toNat, by rw [Int.toNat_of_nonneg (by omega)], by omega, by omega⟩
    have h4 : Hs [(tP, qLam)] [tB b] H4 := (h3.mv mv4 hB4).sel [0] (by decide)
    clear h1 h3 mv2 mv4 hB2 hB4 hv hB s1 hS
    refine name_by ?_
    dsimp only
    -- the first guard
    refine asg_by (J := fun v H5 => ∃ pg x, v = .ref pg ∧ Hs [(tP, qLam)] [tL pg [.ref x], tGd C x ⟨rs, rs, 0⟩, tB b] H5) ?_ (fun rest => ?_)
    · rintro v H5 ⟨pg, x0, rfl, h5⟩
      clear h4
      refine ⟨_, rfl, (rs : Int), rfl, fun d0 nd0 => ⟨(by show 1 ≤ sizeLine; decide), fun pst npst => ?_⟩⟩
      have h6 := (h5.newHU (o := .dK (gdT rs rs 0)) nd0).newHU (o := .lst [.ref d0]) npst
      have h7 : Hs [(tP, qLam)] [tO d0 (.dK (gdT rs rs 0)), tGd C x0 ⟨rs, rs, 0⟩, tB b, tL pg [.ref x0], tL pst [.ref d0]] _ := h6.sel [1, 3, 4, 2, 0] (by decide)
      have h8 : Hs [(tP, qLam)] [tGX C ⟨x0, d0, ⟨rs, rs, 0⟩, ⟨rs, rs, 0⟩⟩, tB b, tL pg [.ref x0], tL pst [.ref d0]] _ := h7.merge (C := tGX C ⟨x0, d0, ⟨rs, rs, 0⟩, ⟨rs, rs, 0⟩⟩) ⟨h7.get 1 rfl, h7.at 0 rfl⟩ (fun p hp => by
        rcases in2g hp with z | z
        · exact .inr (z ▸ .head _)
        · exact .inl (z ▸ .head _))
      have h9 := (h8.gnil (f := tGX C)).swap.gadd
      have h10 : Hs [(tP, qLam)] (W48 C b pg pst [⟨x0, d0, ⟨rs, rs, 0⟩, ⟨rs, rs, 0⟩⟩]) _ := h9.sel [1, 2, 3, 0] (by decide)
      generalize upd (upd H5 d0 (.dK (gdT rs rs 0))) pst (.lst [.ref d0]) = H6 at h10 ⊢
      clear h5 h6 h7 h8 h9
      refine name_by ?_
      dsimp only
      refine ⟨_, rfl, b, 9, rfl, h10.bag, by decide, by decide, fun H7 bo mv7 hB7 _ _ => ?_⟩
      have h11 := h10.mv mv7 hB7
      refine name_by ?_
      dsimp only
      refine ⟨_, rfl, b, 23, rfl, h11.bag, by decide, by decide, fun H8 d8 mv8 hB8 d80 d81 => ⟨_, _, rfl, rfl, _, rfl, by omega, by omega, ?_⟩⟩
      have h12 : Hs [(tP, qLam)] (W48 C b pg pst [⟨x0, d0, ⟨rs, rs, 0⟩, ⟨rs, rs, 0⟩⟩]) H8 := h11.mv mv8 hB8
      clear h10 h11 mv7 mv8 hB7 hB8
      refine for_range (lo := 0) (n := (8 + d8).toNat) (fun i σ H' => ∃ (R : List GX) (y6 y7 y8 y9 y10 y11 y12 y13 y14 y15 y16 : Option V), σ = [some (.ref a), some (.ref b.1), some (.int (rs : Int)), some (.ref pg), some (.ref pst), some (.int bo), y6, y7, y8, y9, y10, y11, y12, y13, y14, y15, y16] ∧ Hs [(tP, qLam)] (W48 C b pg pst R) H' ∧ 0 < R.length ∧ R.length ≤ i + 1 ∧ In48 rs R)
        ⟨_, _, _, _, _, _, _, _, _, _, _, _, rfl, h12, (by show 0 < 1; decide), Nat.le_refl _, fun x hx => by rw [List.mem_singleton.mp hx]; exact ⟨rfl, rfl, Nat.zero_le _⟩⟩ ?_ ?_
      · clear h12
        rintro i σ H1 hi ⟨R, y6, y7, y8, y9, y10, y11, y12, y13, y14, y15, y16, rfl, h1, hR0, hR1, hin⟩
        have hi31 : i < 31 := by omega
        refine ⟨_, rfl, _, rfl, pg, _, rfl, .inl (SqL.of (h1.at 1 rfl)), b, _, rfl, h1.bag, (by rw [List.length_map]; omega), (by rw [List.length_map]; omega), fun H2 j mv2 hB2 j0 j1 => ?_⟩
        have h2 : Hs [(tP, qLam)] (W48 C b pg pst R) H2 := h1.mv mv2 hB2
        rw [List.length_map] at j1
        obtain ⟨jn, rfl⟩ : ∃ jn : Nat, j = (jn : Int) := ⟨j.toNat, by omega⟩
        obtain ⟨x, hx⟩ : ∃ x, R[jn]? = some x := ⟨_, List.getElem?_eq_getElem (by omega)⟩
        have atR : ∀ {R' : List GX} {x' : GX}, R'[jn]? = some x' → atI (R'.map fun x => V.ref x.r) (jn : Int) = some (.ref x'.r) := fun h => atI_nat (by rw [List.getElem?_map, h]; rfl)
        have atD : ∀ {R' : List GX} {x' : GX}, R'[jn]? = some x' → atI (R'.map fun x => V.ref x.d) (jn : Int) = some (.ref x'.d) := fun h => atI_nat (by rw [List.getElem?_map, h]; rfl)
        clear h1 mv2 hB2
        refine name_by ?_
        dsimp only
        refine if_by (J := fun σ1 H3 => ∃ R' : List GX, σ1 = [some (.ref a), some (.ref b.1), some (.int (rs : Int)), some (.ref pg), some (.ref pst), some (.int bo), some (.int (0 + (i : Int))), some (.int (jn : Int)), y8, y9, y10, y11, y12, y13, y14, y15, y16] ∧ Hs [(tP, qLam)] (W48 C b pg pst R') H3 ∧ jn < R'.length ∧ R'.length ≤ i + 2 ∧ In48 rs R') ?_ (fun rest => ?_)
        · rintro σ1 H3 ⟨R1, rfl, h3, hx3, hR3, hin3⟩
          clear h2 hx hin hR0 hR1 j1
          -- a row
          refine ⟨_, rfl, b, rfl, h3.bag, fun H4 pr row mv4 hB4 npr epr hby hlen => ?_⟩
          have h4 : Hs [(tP, qLam)] (tB b :: tL pr (row.map V.int) :: (W48 C b pg pst R1).tail) H4 := h3.newM mv4 hB4 npr epr
          clear h3 mv4 hB4 npr epr
          refine name_by ?_
          dsimp only
          -- a spot
          refine ⟨_, rfl, _, rfl, pr, _, rfl, .inl (SqL.of (h4.at 1 rfl)), _, _, rfl, rfl, b, _, rfl, h4.bag, (by rw [List.length_map]; omega), (by rw [List.length_map]; omega), fun H5 sp mv5 hB5 sp0 sp1 => ?_⟩
          have h5 : Hs [(tP, qLam)] (tB b :: tL pr (row.map V.int) :: (W48 C b pg pst R1).tail) H5 := h4.mv mv5 hB5
          rw [List.length_map] at sp1
          obtain ⟨sn, rfl⟩ : ∃ sn : Nat, sp = (sn : Int) := ⟨sp.toNat, by omega⟩
          clear h4 mv5 hB5
          refine name_by ?_
          dsimp only
          -- a bad row
          refine ⟨_, rfl, _, rfl, _, rfl, pr, _, rfl, SqL.of (h5.at 1 rfl), fun p6 n6 => ?_⟩
          rw [cut_to_n, ← List.map_take]
          have h6 := h5.newU (o := .lst ((row.take sn).map V.int)) n6
          refine ⟨_, rfl, 1, rfl, (by show 2 ≤ sizeLine; decide), fun p7 n7 => ?_⟩
          have h7 := h6.newU (o := .lst [.int 256, .int (-1)]) n7
          refine ⟨b, p7, _, rfl, h7.bag, h7.ne 1 0 rfl rfl (.head _) (.head _), upd_same, (by show 0 < 2; decide), (by show 2 < 1000; decide), fun H8 v8 mv8 hB8 hv => ?_⟩
          obtain ⟨bd, rfl, bdn⟩ : ∃ z : Int, v8 = .int z ∧ ¬ isY z := by
            simp only [List.mem_cons, List.not_mem_nil, or_false] at hv
            rcases hv with rfl | rfl
            · exact ⟨256, rfl, fun z => absurd z.2 (by decide)⟩
            · exact ⟨-1, rfl, fun z => absurd z.1 (by decide)⟩
          have h8 : Hs [(tP, qLam)] (tB b :: tL p6 ((row.take sn).map V.int) :: tL pr (row.map V.int) :: (W48 C b pg pst R1).tail) H8 := (h7.mv mv8 hB8).drop1
          refine ⟨(by show 1 ≤ sizeLine; decide), fun p9 n9 => ?_⟩
          have h9 := h8.newU (o := .lst [.int bd]) n9
          refine ⟨p6, p9, _, _, rfl, rfl, h9.at 2 rfl, h9.at 1 rfl, ?_, fun p10 n10 => ?_⟩
          · rw [List.length_map, List.length_take]
            exact sz4 (by show min sn row.length + 1 ≤ 100000; omega)
          have h10 := h9.newU (o := .lst ((row.take sn).map V.int ++ [.int bd])) n10
          refine ⟨_, rfl, _, rfl, _, rfl, pr, _, rfl, SqL.of (h10.at 4 rfl), fun p11 n11 => ?_⟩
          rw [cut_from_n, ← List.map_drop]
          have h11 := h10.newU (o := .lst ((row.drop sn).map V.int)) n11
          refine ⟨p10, p11, _, _, rfl, rfl, h11.at 2 rfl, h11.at 1 rfl, ?_, fun p12 n12 => ?_⟩
          · rw [List.length_append, List.length_map, List.length_map, List.length_take, List.length_drop]
            exact sz4 (by show min sn row.length + 1 + (row.length - sn) ≤ 100000; omega)
          have em : (row.take sn).map V.int ++ [V.int bd] ++ (row.drop sn).map V.int = (row.take sn ++ bd :: row.drop sn).map V.int := by
            rw [List.map_append, List.append_assoc]
            rfl
          rw [em]
          have h12 : Hs [(tP, qLam)] [tB b, tL p12 ((row.take sn ++ bd :: row.drop sn).map V.int), tL pr (row.map V.int), tL pg (R1.map fun x => V.ref x.r), tL pst (R1.map fun x => V.ref x.d), tG (R1.map (tGX C))] _ := (h11.newU (o := .lst ((row.take sn ++ bd :: row.drop sn).map V.int)) n12).sel [0, 1, 6, 7, 8, 9] (by decide)
          have hsn : sn ≤ row.length := by omega
          have onlyj : ∀ (j : Nat) (z : Int), (row.take sn ++ bd :: row.drop sn)[j]? = some z → ¬ isY z → j = sn := fun j z hz nz => by
            rw [List.getElem?_append, List.length_take, Nat.min_eq_left hsn] at hz
            split at hz
            · exact absurd (hby z (List.mem_of_mem_take (List.mem_of_getElem? hz))) nz
            · cases e : j - sn with
              | zero => omega
              | succ t =>
                rw [e, List.getElem?_cons_succ] at hz
                exact absurd (hby z (List.mem_of_mem_drop (List.mem_of_getElem? hz))) nz
          have blen : (row.take sn ++ bd :: row.drop sn).length ≤ 10000 := by
            rw [List.length_append, List.length_take, List.length_cons, List.length_drop]
            omega
          have bmem : bd ∈ row.take sn ++ bd :: row.drop sn := List.mem_append.mpr (.inr (.head _))
          generalize row.take sn ++ bd :: row.drop sn = bad at h12 onlyj blen bmem ⊢
          generalize upd _ p12 (.lst (bad.map V.int)) = H12 at h12 ⊢
          clear h5 h6 h7 h8 h9 h10 h11 em
          refine name_by ?_
          dsimp only
          refine ⟨h12.tab, fun H13 ex13 tb13 => ?_⟩
          have h13 := h12.extN ex13 tb13
          obtain ⟨x, hx⟩ : ∃ x, R1[jn]? = some x := ⟨_, List.getElem?_eq_getElem hx3⟩
          obtain ⟨⟨dx, hins⟩, hdd⟩ : (tGX C x).P H13 := h13.gget 5 rfl hx
          obtain ⟨ez, ep, em⟩ := hin3 x (List.mem_of_getElem? hx)
          refine ⟨_, rfl, _, rfl, pg, _, _, _, rfl, rfl, SqL.of (h13.at 3 rfl), atR hx, x.r, dx, _, rfl, hins, rfl, _, rfl, x.r, p12, x.S, bad, rfl, ⟨dx, hins⟩, SqL.of (h13.at 1 rfl), by omega, blen, (fun hY => absurd (hY bd bmem) bdn), (fun j z hz nz _ H14 dd s14 nd14 ed14 => ?_)⟩
          rw [onlyj j z hz nz] at ed14
          have h14 := h13.same s14
          refine ⟨(cY, "BadByte"), .tail _ (.head _), rfl, dd, _, rfl, ed14, fun p15 n15 => ?_⟩
          have h15 := h14.newU (o := .lst [.str "BadByte", .int (sn : Int)]) n15
          refine ⟨_, rfl, (by show 2 ≤ sizeLine; decide), fun p16 n16 => ?_⟩
          have h16 := h15.newU (o := .lst [.str "BadByte", .int (sn : Int)]) n16
          refine ⟨.list [.str "BadByte", .int (sn : Int)], .list [.str "BadByte", .int (sn : Int)], .lst (SqL.of (h16.at 2 rfl)) (.cons (.str _) (.cons (.int _) .nil)), .lst (SqL.of (h16.at 1 rfl)) (.cons (.str _) (.cons (.int _) .nil)), shaped_si lay_BadByte _, shaped_si lay_BadByte _, _, rfl, ifF (si_same _ _ lay_BadByte) ?_⟩
          have h17 : Hs [(tP, qLam)] [tB b, tL pr (row.map V.int), tL pg (R1.map fun x => V.ref x.r), tL pst (R1.map fun x => V.ref x.d), tG (R1.map (tGX C))] _ := h16.sel [0, 4, 5, 6, 7] (by decide)
          generalize upd (upd H14 p15 (.lst [.str "BadByte", .int (sn : Int)])) p16 (.lst [.str "BadByte", .int (sn : Int)]) = H17 at h17 ⊢
          clear h12 h13 h14 h15 h16 onlyj hdd hins
          -- the rows
          refine ⟨_, rfl, (by show 1 ≤ sizeLine; decide), fun p18 n18 => ?_⟩
          have h18 := h17.newU (o := .lst [.ref pr]) n18
          refine ⟨Nat.zero_le _, fun pe npe => ?_⟩
          have h19 := h18.newU (o := .lst []) npe
          refine ⟨(by show 1 ≤ sizeLine; decide), fun p20 n20 => ?_⟩
          have h20 := h19.newU (o := .lst [.ref pe]) n20
          refine ⟨_, rfl, _, rfl, (by show 4 ≤ sizeLine; decide), fun p21 n21 => ?_⟩
          have h21 := h20.newU (o := .lst [.int 0, .int 0, .int 0, .int (rs : Int)]) n21
          refine ⟨b, p21, _, rfl, h21.bag, h21.ne 1 0 rfl rfl (.head _) (.head _), upd_same, (by show 0 < 4; decide), (by show 4 < 1000; decide), fun H22 v22 mv22 hB22 hv => ?_⟩
          obtain ⟨cn, rfl, cn2⟩ : ∃ z : Nat, v22 = .int (z : Int) ∧ z ≤ 20 := by
            simp only [List.mem_cons, List.not_mem_nil, or_false] at hv
            rcases hv with rfl | rfl | rfl | rfl
            · exact ⟨0, rfl, by decide⟩
            · exact ⟨0, rfl, by decide⟩
            · exact ⟨0, rfl, by decide⟩
            · exact ⟨rs, rfl, rs2⟩
          have h22 := h21.mv mv22 hB22
          refine ⟨p20, (cn : Int), _, rfl, rfl, h22.at 2 rfl, by omega, by omega, ?_, fun p23 n23 => ?_⟩
          · show 1 * (cn : Int).toNat ≤ sizeLine
            exact sz4 (by omega)
          rw [repR, Int.toNat_natCast]
          have h23 := h22.newU (o := .lst (List.replicate cn (.ref pe))) n23
          refine ⟨p18, p23, _, _, rfl, rfl, h23.at 5 rfl, h23.at 1 rfl, ?_, fun p24 n24 => ?_⟩
          · rw [List.length_replicate]
            exact sz4 (by show 1 + cn ≤ 100000; omega)
          have h24 : Hs [(tP, qLam)] (V48 C b p24 pr pe pg pst row cn R1) _ := (h23.newU (o := .lst ([V.ref pr] ++ List.replicate cn (V.ref pe))) n24).sel [0, 1, 7, 5, 8, 9, 10] (by decide)
          generalize upd _ p24 (.lst ([V.ref pr] ++ List.replicate cn (V.ref pe))) = H24 at h24 ⊢
          clear h17 h18 h19 h20 h21 h22 h23 mv22 hB22 hv
          refine ⟨p24, rfl, ⟨_, SqL.of (h24.at 1 rfl)⟩, for_list (K := K) (a := p24) (xs := V.ref pr :: List.replicate cn (V.ref pe)) (fun m σ H' => ∃ (R2 : List GX) (y11 y12 y13 : Option V), σ = [some (.ref a), some (.ref b.1), some (.int (rs : Int)), some (.ref pg), some (.ref pst), some (.int bo), some (.int (0 + (i : Int))), some (.int (jn : Int)), some (.ref pr), some (.int (sn : Int)), some (.ref p12), y11, y12, y13, y14, y15, y16] ∧ Hs [(tP, qLam)] (V48 C b p24 pr pe pg pst row cn R2) H' ∧ jn < R2.length ∧ R2.length ≤ i + 2 ∧ In48 rs R2)
            ⟨R1, _, _, _, rfl, h24, hx3, hR3, hin3⟩ (fun m σ H' _ h => by obtain ⟨_, _, _, _, _, h, _⟩ := h; exact SqL.of (h.at 1 rfl)) ?_ ?_⟩
          · clear h24 hx3 hR3 hin3 hx ez ep em
            rintro m v σ H1 hm ⟨R2, y11, y12, y13, rfl, h1, hx2, hR2, hin2⟩
            obtain ⟨p, rw_, ip, rfl, hat, hrb, hrl⟩ : ∃ (p : Addr) (rw_ : List Int) (ip : Nat), v = .ref p ∧ (∀ X Y Z : Th, ([tB b, tL p24 (.ref pr :: List.replicate cn (.ref pe)), tL pr (row.map V.int), tL pe (([] : List Int).map V.int), X, Y, Z] : List Th)[ip]? = some (tL p (rw_.map V.int))) ∧ Bytes rw_ ∧ rw_.length ≤ 5 := by
              cases m with
              | zero =>
                cases hm
                exact ⟨pr, row, 2, rfl, fun _ _ _ => rfl, hby, hlen⟩
              | succ m =>
                rw [List.getElem?_cons_succ] at hm
                have := List.eq_of_mem_replicate (List.mem_of_getElem? hm)
                exact ⟨pe, [], 3, this, fun _ _ _ => rfl, bytes_nil, Nat.zero_le _⟩
            obtain ⟨⟨xr, xd, S, Z⟩, hx⟩ : ∃ x, R2[jn]? = some x := ⟨_, List.getElem?_eq_getElem hx2⟩
            obtain ⟨ez, ep, em⟩ := hin2 _ (List.mem_of_getElem? hx)
            have ez : S = Z := ez.symm
            subst ez
            have ep : S.p = rs := ep
            have em : S.m ≤ 3 := em
            refine name_by ?_
            dsimp only
            refine ⟨_, rfl, p, _, rfl, .inl (SqL.of (h1.at ip (hat _ _ _))), fun ph nh => ?_⟩
            have h2 := h1.newHU (o := .lst (rw_.map V.int)) nh
            generalize upd H1 ph (.lst (rw_.map V.int)) = H2 at h2 ⊢
            refine name_by ?_
            dsimp only
            obtain ⟨⟨dx, hins⟩, _⟩ : (tGX C ⟨xr, xd, S, S⟩).P H2 := h2.gget 7 rfl hx
            refine ⟨_, rfl, _, rfl, pg, _, _, _, rfl, rfl, SqL.of (h2.at 5 rfl), atR hx, xr, dx, _, rfl, hins, rfl, _, rfl, xr, ph, S, rw_, rfl, ⟨dx, hins⟩, SqL.of (h2.at 0 rfl), by omega, by omega, (fun _ H3 t o G => ?_), (fun j z hz nz => absurd (hrb z (List.mem_of_getElem? hz)) nz)⟩
            have h3 : Hs [(tP, qLam)] [tTO t o (gBeat S rw_).2.2 ((gBeat S rw_).2.1.map V.int), tL ph (rw_.map V.int), tB b, tL p24 (.ref pr :: List.replicate cn (.ref pe)), tL pr (row.map V.int), tL pe (([] : List Int).map V.int), tL pg (R2.map fun x => V.ref x.r), tL pst (R2.map fun x => V.ref x.d), tG ((R2.set jn ⟨xr, xd, (gBeat S rw_).1, S⟩).map (tGX C))] H3 := h2.beaten 7 rfl hx G
            have hx' : (R2.set jn ⟨xr, xd, (gBeat S rw_).1, S⟩)[jn]? = some ⟨xr, xd, (gBeat S rw_).1, S⟩ := by rw [List.getElem?_set, if_pos rfl, if_pos hx2]
            refine name_by ?_
            dsimp only
            obtain ⟨_, hdd⟩ : (tGX C ⟨xr, xd, (gBeat S rw_).1, S⟩).P H3 := h3.gget 8 rfl hx'
            refine ⟨_, rfl, _, rfl, _, rfl, pst, _, _, _, rfl, rfl, SqL.of (h3.at 7 rfl), atD hx, _, rfl, xd, p, S, rw_, rfl, hdd, h3.at (ip + 2) (hat _ _ _), by omega, by omega, fun H4 t2 o2 D => ?_⟩
            have h4 : Hs [(tP, qLam)] [tTO t2 o2 (gBeat S rw_).2.2 ((gBeat S rw_).2.1.map V.int), tTO t o (gBeat S rw_).2.2 ((gBeat S rw_).2.1.map V.int), tL ph (rw_.map V.int), tB b, tL p24 (.ref pr :: List.replicate cn (.ref pe)), tL pr (row.map V.int), tL pe (([] : List Int).map V.int), tL pg (R2.map fun x => V.ref x.r), tL pst (R2.map fun x => V.ref x.d), tG (((R2.set jn ⟨xr, xd, (gBeat S rw_).1, S⟩).set jn ⟨xr, xd, (gBeat S rw_).1, (gBeat S rw_).1⟩).map (tGX C))] H4 := h3.dbeaten 8 rfl hx' D
            rw [List.set_set] at h4
            have gl := gBeat_len S rw_
            refine ⟨.ref t, .ref t2, .tuple [dI (gBeat S rw_).2.1, .bool (gBeat S rw_).2.2], rfl, dp_out (h4.get 1 rfl), dp_out (h4.get 0 rfl), dn_out _ _ (by omega) n, shaped_out _ _, fun H5 s5 => ⟨_, rfl, iteF ?_⟩⟩
            have h5 := h4.same s5
            refine ⟨_, rfl, _, rfl, dI rw_, dI rw_, dp_ints (SqL.of (h5.at 2 rfl)), dp_ints (SqL.of (h5.at (ip + 3) (hat _ _ _))), shaped_ints _, shaped_ints _, _, rfl, ifF (ints_same _) ?_⟩
            obtain ⟨et, eo⟩ : (tTO t o (gBeat S rw_).2.2 ((gBeat S rw_).2.1.map V.int)).P H5 := h5.get 1 rfl
            refine ⟨_, rfl, t, _, 0, _, rfl, rfl, SqT.of et, atI_nat rfl, .inl ⟨rfl, _, SqL.of eo⟩, o, _, _, rfl, rfl, eo, (by rw [List.length_map]; exact sz4l (by omega)), ?_⟩
            have h6 := h5.tput (ys := (gBeat S rw_).2.1.map V.int ++ [.int 1]) 1 rfl
            have h7 : Hs [(tP, qLam)] [tB b, tL p24 (.ref pr :: List.replicate cn (.ref pe)), tL pr (row.map V.int), tL pe (([] : List Int).map V.int), tL pg (R2.map fun x => V.ref x.r), tL pst (R2.map fun x => V.ref x.d), tG ((R2.set jn ⟨xr, xd, (gBeat S rw_).1, (gBeat S rw_).1⟩).map (tGX C))] _ := h6.sel [3, 4, 5, 6, 7, 8, 9] (by decide)
            rw [← map_set_same (f := fun x : GX => V.ref x.r) (x' := ⟨xr, xd, (gBeat S rw_).1, (gBeat S rw_).1⟩) hx rfl, ← map_set_same (f := fun x : GX => V.ref x.d) (x' := ⟨xr, xd, (gBeat S rw_).1, (gBeat S rw_).1⟩) hx rfl] at h7
            refine ⟨R2.set jn ⟨xr, xd, (gBeat S rw_).1, (gBeat S rw_).1⟩, _, _, _, rfl, h7, by rw [List.length_set]; exact hx2, by rw [List.length_set]; exact hR2, fun y hy => ?_⟩
            rcases List.mem_or_eq_of_mem_set hy with z | z
            · exact hin2 y z
            · rw [z]
              exact ⟨rfl, (gBeat_p S rw_).trans ep, gBeat_m S rw_ em⟩
          · clear h24 hx3 hR3 hin3 hx ez ep em
            rintro σ H1 ⟨R2, y11, y12, y13, rfl, h1, hx2, hR2, hin2⟩
            have h2 : Hs [(tP, qLam)] (W48 C b pg pst R2) H1 := h1.sel [0, 4, 5, 6] (by decide)
            clear h1
            have sz : ∀ m : Nat, (((R2.take m).map fun x => (x.S.m : Int)).map V.int).length < sizeLine := fun m => by
              rw [List.length_map, List.length_map, List.length_take]
              exact sz4l (by omega)
            refine ⟨_, rfl, pg, rfl, ⟨_, SqL.of (h2.at 1 rfl)⟩, fun D1 nD1 => lc_list (K := K) (a := pg) (xs := R2.map fun x => V.ref x.r) (fun m H' => Hs [(tP, qLam)] (tL D1 (((R2.take m).map fun x => (x.S.m : Int)).map V.int) :: W48 C b pg pst R2) H') (h2.newHU nD1) (fun m H' _ h => SqL.of (h.at 2 rfl)) ?_ ?_⟩
            · rintro m v H3 hm h3
              obtain ⟨x, hx, rfl⟩ : ∃ x, R2[m]? = some x ∧ v = .ref x.r := by
                rw [List.getElem?_map] at hm
                cases e : R2[m]? with
                | none => rw [e] at hm; cases hm
                | some x => rw [e] at hm; exact ⟨x, rfl, (Option.some.inj hm).symm⟩
              obtain ⟨⟨dx, hins⟩, _⟩ : (tGX C x).P H3 := h3.gget 4 rfl hx
              refine ⟨rfl, tYes_by (iteT ?_)⟩
              refine ⟨_, rfl, x.r, dx, _, rfl, hins, rfl, x.r, x.S, rfl, ⟨dx, hins⟩, _, h3.at 0 rfl, sz m, ?_⟩
              rw [take_more hx, List.map_append, List.map_append]
              exact h3.put 0 rfl
            · rintro H3 h3
              rw [List.length_map, List.take_length] at h3
              refine ⟨_, rfl, pst, rfl, ⟨_, SqL.of (h3.at 3 rfl)⟩, fun D2 nD2 => lc_list (K := K) (a := pst) (xs := R2.map fun x => V.ref x.d) (fun m H' => Hs [(tP, qLam)] (tL D2 (((R2.take m).map fun x => (x.S.m : Int)).map V.int) :: tL D1 ((R2.map fun x => (x.S.m : Int)).map V.int) :: W48 C b pg pst R2) H') (h3.newHU nD2) (fun m H' _ h => SqL.of (h.at 4 rfl)) ?_ ?_⟩
              · rintro m v H4 hm h4
                obtain ⟨x, hx, rfl⟩ : ∃ x, R2[m]? = some x ∧ v = .ref x.d := by
                  rw [List.getElem?_map] at hm
                  cases e : R2[m]? with
                  | none => rw [e] at hm; cases hm
                  | some x => rw [e] at hm; exact ⟨x, rfl, (Option.some.inj hm).symm⟩
                obtain ⟨_, hdd⟩ : (tGX C x).P H4 := h4.gget 5 rfl hx
                rw [(hin2 x (List.mem_of_getElem? hx)).1] at hdd
                refine ⟨rfl, tYes_by (iteT ?_)⟩
                refine ⟨_, rfl, x.d, _, rfl, get_held hdd, _, h4.at 0 rfl, sz m, ?_⟩
                rw [take_more hx, List.map_append, List.map_append]
                exact h4.put 0 rfl
              · rintro H4 h4
                rw [List.length_map, List.take_length] at h4
                refine ⟨.ref D1, .ref D2, dI (R2.map fun x => (x.S.m : Int)), rfl, dp_ints (SqL.of (h4.at 1 rfl)), dp_ints (SqL.of (h4.at 0 rfl)), dn_ints _ (by rw [List.length_map]; omega) (n + 1), shaped_ints _, fun H5 s5 => ⟨_, rfl, iteF ?_⟩⟩
                exact ⟨R2, _, _, _, _, _, _, _, _, _, _, _, rfl, (h4.sel [2, 3, 4, 5] (by decide)).same s5, by omega, hR2, hin2⟩
        · -- the twin
          refine ⟨_, rfl, _, rfl, rfl, _, rfl, ite2 (fun e => ?_) (fun e => rest _ _ ⟨R, rfl, h2, by omega, by omega, hin⟩)⟩
          obtain ⟨⟨dx, hins⟩, hdd⟩ : (tGX C x).P H2 := h2.gget 3 rfl hx
          obtain ⟨ez, ep, em⟩ := hin x (List.mem_of_getElem? hx)
          refine ⟨_, rfl, .inl ⟨rfl, _, SqL.of (h2.at 1 rfl)⟩, _, rfl, _, rfl, pg, _, _, _, rfl, rfl, SqL.of (h2.at 1 rfl), atR hx, x.r, dx, _, rfl, hins, rfl, x.r, x.S, rfl, ⟨dx, hins⟩, by omega, by omega, fun H3 r3 s3 nr3 g3 => ?_⟩
          have h3 := h2.new (T := tGd C r3 x.S) s3 g3 (fun p hp => by rw [in1 hp]; exact nr3)
          refine ⟨pg, _, _, rfl, rfl, h3.at 2 rfl, (by rw [List.length_map]; exact sz4l (by omega)), ?_⟩
          have h4 := h3.put (o' := .lst ((R.map fun x => V.ref x.r) ++ [.ref r3])) 2 rfl
          generalize upd H3 pg (.lst ((R.map fun x => V.ref x.r) ++ [.ref r3])) = H4 at h4 ⊢
          obtain ⟨_, hd4⟩ : (tGX C x).P H4 := h4.gget 4 rfl hx
          refine ⟨_, rfl, .inl ⟨rfl, _, SqL.of (h4.at 3 rfl)⟩, _, rfl, _, rfl, pst, _, _, _, rfl, rfl, SqL.of (h4.at 3 rfl), atD hx, x.d, _, rfl, .inl hd4, fun d5 n5 => ?_⟩
          have h5 := h4.newHU (o := .dK (gdD x.Z)) n5
          generalize upd H4 d5 (.dK (gdD x.Z)) = H5 at h5 ⊢
          refine ⟨pst, _, _, rfl, rfl, h5.at 4 rfl, (by rw [List.length_map]; exact sz4l (by omega)), ?_⟩
          have h6 := h5.put (o' := .lst ((R.map fun x => V.ref x.d) ++ [.ref d5])) 4 rfl
          have h7 : Hs [(tP, qLam)] [tGX C ⟨r3, d5, x.S, x.Z⟩, tB b, tL pg ((R.map fun x => V.ref x.r) ++ [.ref r3]), tL pst ((R.map fun x => V.ref x.d) ++ [.ref d5]), tG (R.map (tGX C))] _ := h6.merge (C := tGX C ⟨r3, d5, x.S, x.Z⟩) ⟨h6.get 1 rfl, h6.at 0 rfl⟩ (fun p hp => by
            rcases in2g hp with z | z
            · exact .inr (z ▸ .head _)
            · exact .inl (z ▸ .head _))
          have h8 : Hs [(tP, qLam)] [tG ((R ++ [(⟨r3, d5, x.S, x.Z⟩ : GX)]).map (tGX C)), tB b, tL pg ((R.map fun x => V.ref x.r) ++ [.ref r3]), tL pst ((R.map fun x => V.ref x.d) ++ [.ref d5])] _ := Hs.gadd (h7.sel [0, 4, 1, 2, 3] (by decide))
          have h9 := h8.sel [1, 2, 3, 0] (by decide)
          refine rest _ _ ⟨R ++ [⟨r3, d5, x.S, x.Z⟩], rfl, ?_, ?_, ?_, fun y hy => ?_⟩
          · unfold W48
            rw [List.map_append, List.map_append]
            exact h9
          · rw [List.length_append]
            omega
          · rw [List.length_append]
            show R.length + 1 ≤ i + 2
            omega
          · rcases List.mem_append.mp hy with z | z
            · exact hin y z
            · rw [List.mem_singleton.mp z]
              exact ⟨ez, ep, em⟩
      · rintro σ H1 ⟨R, y6, y7, y8, y9, y10, y11, y12, y13, y14, y15, y16, rfl, h1, _, _, _⟩
        refine ⟨_, rfl, 1, rfl, 10, 15, rfl, rfl, ⟨by decide, by decide, by decide⟩, (by show 4 ≤ sizeLine; decide), fun p2 n2 => ?_⟩
        have h2 := h1.newU (o := .lst [.int 0, .int 21, .int (-1), .int (10 ^ 15)]) n2
        refine ⟨b, p2, _, rfl, h2.bag, h2.ne 1 0 rfl rfl (.head _) (.head _), upd_same, (by show 0 < 4; decide), (by show 4 < 1000; decide), fun H3 v3 mv3 hB3 hv => ?_⟩
        obtain ⟨od, rfl, ob⟩ : ∃ z : Int, v3 = .int z ∧ (z < 1 ∨ 20 < z) := by
          simp only [List.mem_cons, List.not_mem_nil, or_false] at hv
          rcases hv with rfl | rfl | rfl | rfl
          · exact ⟨0, rfl, .inl (by decide)⟩
          · exact ⟨21, rfl, .inr (by decide)⟩
          · exact ⟨-1, rfl, .inl (by decide)⟩
          · exact ⟨_, rfl, .inr (by decide)⟩
        have h3 := h2.mv mv3 hB3
        refine name_by ?_
        dsimp only
        refine ⟨h3.tab, fun H4 ex4 tb4 => ?_⟩
        refine ⟨_, rfl, rfl, rfl, fun x dx nx ndx nex => ⟨x, dx, od, rfl, upd_same, (fun z1 z2 => absurd ob (by omega)), (fun _ H5 dd s5 nd5 ed5 => ?_)⟩⟩
        refine ⟨rfl, dd, _, rfl, ed5, rfl, fun p6 n6 => ?_⟩
        refine ⟨(by show 2 ≤ sizeLine; decide), fun p7 n7 => ?_⟩
        have s7 := same_upd (o := .tup [.str "refused", .str "BadCount"]) n7
        refine ⟨_, _, dp_ss (s7 _ _ upd_same), dp_ss upd_same, shaped_ss lay_refused lay_BadCount, shaped_ss lay_refused lay_BadCount, _, rfl, ifF (ss_same _ _ lay_refused lay_BadCount) ?_⟩
        refine ⟨(by show 2 ≤ sizeLine; decide), fun p8 n8 => ⟨(by show 2 ≤ sizeLine; decide), fun p9 n9 => ?_⟩⟩
        exact ⟨.ref p8, .ref p9, dI [3, 43], rfl, dp_ints (SqL.of (same_upd n9 _ _ upd_same)), dp_ints (SqL.of upd_same), dn_ints _ (by decide) (n + 1), shaped_ints _, fun H10 _ => q H10⟩
    · have made : ∀ {x dx pg : Addr} {m : Nat}, m = rs → H4 x = none → H4 dx = none → upd (upd (upd H4 dx (.own x)) x (.ins C dx [])) x (.ins C dx (gdF m m 0)) pg = none → ∃ pg' x', V.ref pg = .ref pg' ∧ Hs [(tP, qLam)] [tL pg' [.ref x'], tGd C x' ⟨rs, rs, 0⟩, tB b] (upd (upd (upd (upd H4 dx (.own x)) x (.ins C dx [])) x (.ins C dx (gdF m m 0))) pg (.lst [.ref x])) := by
        rintro x dx pg m rfl nx ndx npg
        obtain ⟨s3, g3⟩ := gd_made (C := C) (n := m) nx ndx
        exact ⟨pg, x, rfl, (h4.new (T := tGd C x ⟨m, m, 0⟩) s3 g3 (fun a ha => by rw [in1 ha]; exact nx)).newHU npg⟩
      refine ⟨_, rfl, rfl, _, rfl, ite2 (fun e => ?_) (fun e => ?_)⟩
      · have e : rs = 3 := by have := eq_t e; omega
        exact fun x dx nx ndx nex => ⟨x, dx, 3, rfl, upd_same, (fun _ _ => ⟨rfl, (by show 1 ≤ sizeLine; decide), fun pg npg => rest _ _ (made (m := 3) e.symm nx ndx npg)⟩), (fun bad => by rcases bad with h | h <;> omega)⟩
      · exact ⟨_, rfl, rfl, rfl, fun x dx nx ndx nex => ⟨x, dx, (rs : Int), rfl, upd_same, (fun _ _ => ⟨rfl, (by show 1 ≤ sizeLine; decide), fun pg npg => rest _ _ (made (m := rs) rfl nx ndx npg)⟩), (fun bad => by rcases bad with h | h <;> omega)⟩⟩
end
/-! ### the end -/
theorem all_mk {l : PySem.W.OpenLaw} {w : World} {K : PySem.W.Frag} {h : Heap} {mg : Str → Option Value} {fa f0 f1 f2 f3 f4 f5 f6 f7 f8 f9 f10 f11 f12 f13 f14 f15 f16 : Addr} (X : K.In h) (G : h.Ns mainGlobals mg) (hfa : mg "law" = some (.ref fa)) (own : LamX.OwnTab K fa h)
    {cGuard : Addr}
    {oc0 : Value} {od0 an0 : Option Addr} {sl0 : Array (Option Value)} {kV0 dc0 pm0 cd0 ct0 : Value}
    {oc1 : Value} {od1 an1 : Option Addr} {sl1 : Array (Option Value)} { dc1 pm1 cd1 ct1 : Value}
    {D1 : Addr} {tD1 : Tok}
    {oc2 : Value} {od2 an2 : Option Addr} {sl2 : Array (Option Value)} {kV2 dc2 pm2 cd2 ct2 : Value}
    {oc3 : Value} {od3 an3 : Option Addr} {sl3 : Array (Option Value)} {kV3 dc3 pm3 cd3 ct3 : Value}
    {oc4 : Value} {od4 an4 : Option Addr} {sl4 : Array (Option Value)} {kV4 dc4 pm4 cd4 ct4 : Value}
    {oc5 : Value} {od5 an5 : Option Addr} {sl5 : Array (Option Value)} {kV5 dc5 pm5 cd5 ct5 : Value}
    {oc6 : Value} {od6 an6 : Option Addr} {sl6 : Array (Option Value)} {kV6 dc6 pm6 cd6 ct6 : Value}
    {oc7 : Value} {od7 an7 : Option Addr} {sl7 : Array (Option Value)} {kV7 dc7 pm7 cd7 ct7 : Value}
    {oc8 : Value} {od8 an8 : Option Addr} {sl8 : Array (Option Value)} {kV8 dc8 pm8 cd8 ct8 : Value}
    {oc9 : Value} {od9 an9 : Option Addr} {sl9 : Array (Option Value)} {kV9 dc9 pm9 cd9 ct9 : Value}
    {oc10 : Value} {od10 an10 : Option Addr} {sl10 : Array (Option Value)} {kV10 dc10 pm10 cd10 ct10 : Value}
    {oc11 : Value} {od11 an11 : Option Addr} {sl11 : Array (Option Value)} {kV11 dc11 pm11 cd11 ct11 : Value}
    {oc12 : Value} {od12 an12 : Option Addr} {sl12 : Array (Option Value)} {kV12 dc12 pm12 cd12 ct12 : Value}
    {oc13 : Value} {od13 an13 : Option Addr} {sl13 : Array (Option Value)} {kV13 dc13 pm13 cd13 ct13 : Value}
    {oc14 : Value} {od14 an14 : Option Addr} {sl14 : Array (Option Value)} {kV14 dc14 pm14 cd14 ct14 : Value}
    {oc15 : Value} {od15 an15 : Option Addr} {sl15 : Array (Option Value)} {kV15 dc15 pm15 cd15 ct15 : Value}
    {oc16 : Value} {od16 an16 : Option Addr} {sl16 : Array (Option Value)} {kV16 dc16 pm16  ct16 : Value}
    {cL_ tP : Addr} {eT : Value} {ddT : Option Addr} {vsT : Array Value} {slT : Array (Option Value)}
    {cLE fLE dLE : Addr} {ocLE : Value} {odLE anLE : Option Addr} {slLE : Array (Option Value)} {kVLE dcLE pmLE cdLE ctLE : Value} {oD : Option Addr} {mD : Nat} {slD : Array (Option Value)} {tLe1 tLe2 : Tok}
    {xBadBit : Addr}
    {xBadByte : Addr}
    {xBadFrame : Addr}
    {xBadCode : Addr}
    {xBadCount : Addr}
    {xMissing : Addr}
    {fIBadByte : Addr} {nmBadByte qBadByte : Str} {NBadByte : Addr} {bsBadByte bmBadByte : List Value} {snBadByte : List Str} {subBadByte : List Value} {abBadByte : Bool} {colBadByte : Option Bool} {ddBadByte : Option Addr} {kaBadByte kbBadByte kcBadByte kdBadByte keBadByte : Option Value}
    {ocBadByte : Value} {odBadByte anBadByte : Option Addr} {slBadByte : Array (Option Value)} {kVBadByte dcBadByte pmBadByte cdBadByte ctBadByte : Value}
    {fIBadCount : Addr} {nmBadCount qBadCount : Str} {NBadCount : Addr} {bsBadCount bmBadCount : List Value} {snBadCount : List Str} {subBadCount : List Value} {abBadCount : Bool} {colBadCount : Option Bool} {ddBadCount : Option Addr} {kaBadCount kbBadCount kcBadCount kdBadCount keBadCount : Option Value}
    {ocBadCount : Value} {odBadCount anBadCount : Option Addr} {slBadCount : Array (Option Value)} {kVBadCount dcBadCount pmBadCount cdBadCount ctBadCount : Value}
    {t_GREATEST_BYTE : Tok}
    {t_PAUSE : Tok}
    {t_MARK_KEY : Tok}
    {t_SIGN_MARKS : Tok}
    {t_LONGEST_PAUSE : Tok}
    (r1Guard : PySem.W.nsIn K mainGlobals "Guard" = some (some (.ref cGuard)))
    (r2Guard : PySem.W.plainGet K cGuard Str.empty = true)
    (r3Guard : PySem.W.hasDictIn K cGuard = true)
    (r4Guard : PySem.W.plainOver K cGuard = true)
    (r5Guard : PySem.W.findIn K (.ref cGuard) "__setattr__" = some (some (.builtin "object.__setattr__")))
    (r6Guard : PySem.W.makesIn K cGuard = true)
    (r7Guard : PySem.W.keepIn K (.ref cGuard) = true)
    (r_Guard_pause : PySem.W.findIn K (.ref cGuard) "pause" = some none)
    (r_Guard_silent : PySem.W.findIn K (.ref cGuard) "silent" = some none)
    (r_Guard_marks : PySem.W.findIn K (.ref cGuard) "marks" = some none)
    (a0 : PySem.W.nsIn K mainGlobals "check_bytes" = some (some (.ref f0)))
    (l0 : K.lookup f0 = some ⟨oc0, od0, .func (PySem.W.fnOf "check_bytes" "check_bytes" (defArgs s_check_bytes) (defBody s_check_bytes) (defScope s_check_bytes) .none kV0 dc0 pm0 an0 cd0 ct0), sl0⟩)
    (c0 : PySem.W.codeIn K cd0 "check_bytes" = true)
    (k0 : PySem.W.keepIn K (.ref f0) = true)
    (a1 : PySem.W.findIn K (.ref cGuard) "__init__" = some (some (.ref f1)))
    (i1 : PySem.W.isFn K (.ref f1) = true)
    (l1 : K.lookup f1 = some ⟨oc1, od1, .func (PySem.W.fnOf "__init__" "Guard.__init__" (defArgs m_Guard___init__) (defBody m_Guard___init__) (defScope m_Guard___init__) .none (.ref D1) dc1 pm1 an1 cd1 ct1), sl1⟩)
    (v1 : PySem.W.nsIn K D1 "pause" = some (some (.int 3 tD1)))
    (c1 : PySem.W.codeIn K cd1 "Guard.__init__" = true)
    (k1 : PySem.W.keepIn K (.ref f1) = true)
    (a2 : PySem.W.findIn K (.ref cGuard) "beat_of_silence" = some (some (.ref f2)))
    (i2 : PySem.W.isFn K (.ref f2) = true)
    (l2 : K.lookup f2 = some ⟨oc2, od2, .func (PySem.W.fnOf "beat_of_silence" "Guard.beat_of_silence" (defArgs m_Guard_beat_of_silence) (defBody m_Guard_beat_of_silence) (defScope m_Guard_beat_of_silence) .none kV2 dc2 pm2 an2 cd2 ct2), sl2⟩)
    (c2 : PySem.W.codeIn K cd2 "Guard.beat_of_silence" = true)
    (k2 : PySem.W.keepIn K (.ref f2) = true)
    (a3 : PySem.W.findIn K (.ref cGuard) "beat" = some (some (.ref f3)))
    (i3 : PySem.W.isFn K (.ref f3) = true)
    (l3 : K.lookup f3 = some ⟨oc3, od3, .func (PySem.W.fnOf "beat" "Guard.beat" (defArgs m_Guard_beat) (defBody m_Guard_beat) (defScope m_Guard_beat) .none kV3 dc3 pm3 an3 cd3 ct3), sl3⟩)
    (c3 : PySem.W.codeIn K cd3 "Guard.beat" = true)
    (k3 : PySem.W.keepIn K (.ref f3) = true)
    (a4 : PySem.W.findIn K (.ref cGuard) "held" = some (some (.ref f4)))
    (i4 : PySem.W.isFn K (.ref f4) = true)
    (l4 : K.lookup f4 = some ⟨oc4, od4, .func (PySem.W.fnOf "held" "Guard.held" (defArgs m_Guard_held) (defBody m_Guard_held) (defScope m_Guard_held) .none kV4 dc4 pm4 an4 cd4 ct4), sl4⟩)
    (c4 : PySem.W.codeIn K cd4 "Guard.held" = true)
    (k4 : PySem.W.keepIn K (.ref f4) = true)
    (a5 : PySem.W.findIn K (.ref cGuard) "twin" = some (some (.ref f5)))
    (i5 : PySem.W.isFn K (.ref f5) = true)
    (l5 : K.lookup f5 = some ⟨oc5, od5, .func (PySem.W.fnOf "twin" "Guard.twin" (defArgs m_Guard_twin) (defBody m_Guard_twin) (defScope m_Guard_twin) .none kV5 dc5 pm5 an5 cd5 ct5), sl5⟩)
    (c5 : PySem.W.codeIn K cd5 "Guard.twin" = true)
    (k5 : PySem.W.keepIn K (.ref f5) = true)
    (a6 : PySem.W.nsIn K mainGlobals "_law_bag" = some (some (.ref f6)))
    (l6 : K.lookup f6 = some ⟨oc6, od6, .func (PySem.W.fnOf "_law_bag" "_law_bag" (defArgs s__law_bag) (defBody s__law_bag) (defScope s__law_bag) .none kV6 dc6 pm6 an6 cd6 ct6), sl6⟩)
    (c6 : PySem.W.codeIn K cd6 "_law_bag" = true)
    (k6 : PySem.W.keepIn K (.ref f6) = true)
    (a7 : PySem.W.nsIn K mainGlobals "_law_pick" = some (some (.ref f7)))
    (l7 : K.lookup f7 = some ⟨oc7, od7, .func (PySem.W.fnOf "_law_pick" "_law_pick" (defArgs s__law_pick) (defBody s__law_pick) (defScope s__law_pick) .none kV7 dc7 pm7 an7 cd7 ct7), sl7⟩)
    (c7 : PySem.W.codeIn K cd7 "_law_pick" = true)
    (k7 : PySem.W.keepIn K (.ref f7) = true)
    (a8 : PySem.W.nsIn K mainGlobals "_law_of" = some (some (.ref f8)))
    (l8 : K.lookup f8 = some ⟨oc8, od8, .func (PySem.W.fnOf "_law_of" "_law_of" (defArgs s__law_of) (defBody s__law_of) (defScope s__law_of) .none kV8 dc8 pm8 an8 cd8 ct8), sl8⟩)
    (c8 : PySem.W.codeIn K cd8 "_law_of" = true)
    (k8 : PySem.W.keepIn K (.ref f8) = true)
    (a9 : PySem.W.nsIn K mainGlobals "_law_same" = some (some (.ref f9)))
    (l9 : K.lookup f9 = some ⟨oc9, od9, .func (PySem.W.fnOf "_law_same" "_law_same" (defArgs s__law_same) (defBody s__law_same) (defScope s__law_same) .none kV9 dc9 pm9 an9 cd9 ct9), sl9⟩)
    (c9 : PySem.W.codeIn K cd9 "_law_same" = true)
    (k9 : PySem.W.keepIn K (.ref f9) = true)
    (a10 : PySem.W.nsIn K mainGlobals "_law_row" = some (some (.ref f10)))
    (l10 : K.lookup f10 = some ⟨oc10, od10, .func (PySem.W.fnOf "_law_row" "_law_row" (defArgs s__law_row) (defBody s__law_row) (defScope s__law_row) .none kV10 dc10 pm10 an10 cd10 ct10), sl10⟩)
    (c10 : PySem.W.codeIn K cd10 "_law_row" = true)
    (k10 : PySem.W.keepIn K (.ref f10) = true)
    (a11 : PySem.W.nsIn K mainGlobals "_law_keys" = some (some (.ref f11)))
    (l11 : K.lookup f11 = some ⟨oc11, od11, .func (PySem.W.fnOf "_law_keys" "_law_keys" (defArgs s__law_keys) (defBody s__law_keys) (defScope s__law_keys) .none kV11 dc11 pm11 an11 cd11 ct11), sl11⟩)
    (c11 : PySem.W.codeIn K cd11 "_law_keys" = true)
    (k11 : PySem.W.keepIn K (.ref f11) = true)
    (a12 : PySem.W.nsIn K mainGlobals "_law_tried" = some (some (.ref f12)))
    (l12 : K.lookup f12 = some ⟨oc12, od12, .func (PySem.W.fnOf "_law_tried" "_law_tried" (defArgs s__law_tried) (defBody s__law_tried) (defScope s__law_tried) .none kV12 dc12 pm12 an12 cd12 ct12), sl12⟩)
    (c12 : PySem.W.codeIn K cd12 "_law_tried" = true)
    (k12 : PySem.W.keepIn K (.ref f12) = true)
    (a13 : PySem.W.nsIn K mainGlobals "_law_at" = some (some (.ref f13)))
    (l13 : K.lookup f13 = some ⟨oc13, od13, .func (PySem.W.fnOf "_law_at" "_law_at" (defArgs s__law_at) (defBody s__law_at) (defScope s__law_at) .none kV13 dc13 pm13 an13 cd13 ct13), sl13⟩)
    (c13 : PySem.W.codeIn K cd13 "_law_at" = true)
    (k13 : PySem.W.keepIn K (.ref f13) = true)
    (a14 : PySem.W.nsIn K mainGlobals "_law_guard_new" = some (some (.ref f14)))
    (l14 : K.lookup f14 = some ⟨oc14, od14, .func (PySem.W.fnOf "_law_guard_new" "_law_guard_new" (defArgs s__law_guard_new) (defBody s__law_guard_new) (defScope s__law_guard_new) .none kV14 dc14 pm14 an14 cd14 ct14), sl14⟩)
    (c14 : PySem.W.codeIn K cd14 "_law_guard_new" = true)
    (k14 : PySem.W.keepIn K (.ref f14) = true)
    (a15 : PySem.W.nsIn K mainGlobals "_law_guard_beat" = some (some (.ref f15)))
    (l15 : K.lookup f15 = some ⟨oc15, od15, .func (PySem.W.fnOf "_law_guard_beat" "_law_guard_beat" (defArgs s__law_guard_beat) (defBody s__law_guard_beat) (defScope s__law_guard_beat) .none kV15 dc15 pm15 an15 cd15 ct15), sl15⟩)
    (c15 : PySem.W.codeIn K cd15 "_law_guard_beat" = true)
    (k15 : PySem.W.keepIn K (.ref f15) = true)
    (a16 : PySem.W.nsIn K mainGlobals "law" = some (some (.ref f16)))
    (l16 : K.lookup f16 = some ⟨oc16, od16, .func (PySem.W.fnOf "law" "law" (defArgs s_law) (defBody s_law) (defScope s_law) .none kV16 dc16 pm16 an16 (.ref cL_) ct16), sl16⟩)
    (c16 : PySem.W.codeIn K (.ref cL_) "law" = true)
    (k16 : PySem.W.keepIn K (.ref f16) = true)
    (t1 : K.lookup cL_ = some ⟨eT, ddT, .fields vsT, slT⟩)
    (t2 : (vsT[11]? : Option Value) = some (.ref tP))
    (t3 : PySem.W.codeHdIn K cL_ tP = true)
    (t4 : K.lookup tP = none)
    (e1 : PySem.W.nsIn K mainGlobals "LineError" = some (some (.ref cLE)))
    (e2 : PySem.W.specialIn K (.ref cLE) "__getattribute__" = some (some (.builtin "type.__getattribute__")))
    (e3 : PySem.W.typeIn K (.ref cLE) = some (.type "type"))
    (e4 : PySem.W.readsIn K cLE (.type "type") = true)
    (e5 : PySem.W.findCls K (.ref cLE) (.type "type") "__init__" = some (.val (.ref fLE)))
    (e6 : PySem.W.keepIn K (.ref fLE) = true)
    (e7 : K.lookup fLE = some ⟨ocLE, odLE, .func (PySem.W.fnOf "__init__" "LineError.__init__" (defArgs i_LineError) (defBody i_LineError) (defScope i_LineError) (.ref dLE) kVLE dcLE pmLE anLE cdLE ctLE), slLE⟩)
    (e8 : PySem.W.codeIn K cdLE "LineError.__init__" = true)
    (e9 : K.lookup dLE = some ⟨.type "tuple", oD, .seq #[.str "LineError" tLe1, .str "refused" tLe2] mD, slD⟩)
    (e10 : PySem.W.findCls K (.type "ValueError") (.type "type") "__init__" = some (.val (.builtin "ValueError.__init__")))
    (z_ValueError : PySem.W.nsIn K mainGlobals "ValueError" = some none)
    (gBadBit : PySem.W.nsIn K mainGlobals "BadBit" = some (some (.ref xBadBit)))
    (gaBadBit : PySem.W.findIn K (.ref xBadBit) "__getattribute__" = some (some (.builtin "BaseException.__getattribute__")))
    (ggBadBit : PySem.W.findIn K (.ref xBadBit) "__getattr__" = some none)
    (exBadBit : PySem.W.subIn K (.ref xBadBit) (.type "BaseException") = some true)
    (hdBadBit : PySem.W.hasDictIn K xBadBit = true)
    (noBadBit : PySem.W.findIn K (.ref xBadBit) "at" = some none)
    (gBadByte : PySem.W.nsIn K mainGlobals "BadByte" = some (some (.ref xBadByte)))
    (gaBadByte : PySem.W.findIn K (.ref xBadByte) "__getattribute__" = some (some (.builtin "BaseException.__getattribute__")))
    (ggBadByte : PySem.W.findIn K (.ref xBadByte) "__getattr__" = some none)
    (exBadByte : PySem.W.subIn K (.ref xBadByte) (.type "BaseException") = some true)
    (hdBadByte : PySem.W.hasDictIn K xBadByte = true)
    (noBadByte : PySem.W.findIn K (.ref xBadByte) "at" = some none)
    (gBadFrame : PySem.W.nsIn K mainGlobals "BadFrame" = some (some (.ref xBadFrame)))
    (gaBadFrame : PySem.W.findIn K (.ref xBadFrame) "__getattribute__" = some (some (.builtin "BaseException.__getattribute__")))
    (ggBadFrame : PySem.W.findIn K (.ref xBadFrame) "__getattr__" = some none)
    (exBadFrame : PySem.W.subIn K (.ref xBadFrame) (.type "BaseException") = some true)
    (hdBadFrame : PySem.W.hasDictIn K xBadFrame = true)
    (noBadFrame : PySem.W.findIn K (.ref xBadFrame) "at" = some none)
    (gBadCode : PySem.W.nsIn K mainGlobals "BadCode" = some (some (.ref xBadCode)))
    (gaBadCode : PySem.W.findIn K (.ref xBadCode) "__getattribute__" = some (some (.builtin "BaseException.__getattribute__")))
    (ggBadCode : PySem.W.findIn K (.ref xBadCode) "__getattr__" = some none)
    (exBadCode : PySem.W.subIn K (.ref xBadCode) (.type "BaseException") = some true)
    (hdBadCode : PySem.W.hasDictIn K xBadCode = true)
    (noBadCode : PySem.W.findIn K (.ref xBadCode) "at" = some none)
    (mBadBitBadBit : PySem.W.exmOne K (.ref xBadBit) (.ref xBadBit) = some true)
    (mBadByteBadBit : PySem.W.exmOne K (.ref xBadByte) (.ref xBadBit) = some false)
    (mBadByteBadByte : PySem.W.exmOne K (.ref xBadByte) (.ref xBadByte) = some true)
    (mBadFrameBadBit : PySem.W.exmOne K (.ref xBadFrame) (.ref xBadBit) = some false)
    (mBadFrameBadByte : PySem.W.exmOne K (.ref xBadFrame) (.ref xBadByte) = some false)
    (mBadFrameBadFrame : PySem.W.exmOne K (.ref xBadFrame) (.ref xBadFrame) = some true)
    (mBadCodeBadBit : PySem.W.exmOne K (.ref xBadCode) (.ref xBadBit) = some false)
    (mBadCodeBadByte : PySem.W.exmOne K (.ref xBadCode) (.ref xBadByte) = some false)
    (mBadCodeBadFrame : PySem.W.exmOne K (.ref xBadCode) (.ref xBadFrame) = some false)
    (mBadCodeBadCode : PySem.W.exmOne K (.ref xBadCode) (.ref xBadCode) = some true)
    (gBadCount : PySem.W.nsIn K mainGlobals "BadCount" = some (some (.ref xBadCount)))
    (gaBadCount : PySem.W.findIn K (.ref xBadCount) "__getattribute__" = some (some (.builtin "BaseException.__getattribute__")))
    (ggBadCount : PySem.W.findIn K (.ref xBadCount) "__getattr__" = some none)
    (exBadCount : PySem.W.subIn K (.ref xBadCount) (.type "BaseException") = some true)
    (hdBadCount : PySem.W.hasDictIn K xBadCount = true)
    (gMissing : PySem.W.nsIn K mainGlobals "Missing" = some (some (.ref xMissing)))
    (mBLine : PySem.W.exmOne K (.ref xBadCount) (.ref cLE) = some true)
    (o1BadByte : K.lookup xBadByte = some (excClassObj nmBadByte qBadByte xBadByte NBadByte bsBadByte bmBadByte true snBadByte subBadByte abBadByte colBadByte ddBadByte kaBadByte kbBadByte kcBadByte kdBadByte keBadByte "ValueError.__new__"))
    (o2BadByte : PySem.HandSPX.refsVE bmBadByte = true)
    (o3BadByte : PySem.W.findIn K (.ref xBadByte) "__setattr__" = some (some (.builtin "object.__setattr__")))
    (o4BadByte : PySem.W.typeIn K (.ref xBadByte) = some (.type "type"))
    (o5BadByte : PySem.W.keepIn K (.ref xBadByte) = true)
    (o6BadByte : PySem.W.findIn K (.ref xBadByte) "__init__" = some (some (.ref fIBadByte)))
    (o7BadByte : PySem.W.typeIn K (.ref fIBadByte) = some (.type "function"))
    (o8BadByte : K.lookup fIBadByte = some ⟨ocBadByte, odBadByte, .func (PySem.W.fnOf "__init__" "BadByte.__init__" (defArgs i_BadByte) (defBody i_BadByte) (defScope i_BadByte) .none kVBadByte dcBadByte pmBadByte anBadByte cdBadByte ctBadByte), slBadByte⟩)
    (o9BadByte : PySem.W.codeIn K cdBadByte "BadByte.__init__" = true)
    (p1BadByte : PySem.W.keepIn K (.ref fIBadByte) = true)
    (p2BadByte : PySem.W.findIn K (.ref xBadByte) "word" = some none)
    (o1BadCount : K.lookup xBadCount = some (excClassObj nmBadCount qBadCount xBadCount NBadCount bsBadCount bmBadCount true snBadCount subBadCount abBadCount colBadCount ddBadCount kaBadCount kbBadCount kcBadCount kdBadCount keBadCount "ValueError.__new__"))
    (o2BadCount : PySem.HandSPX.refsVE bmBadCount = true)
    (o3BadCount : PySem.W.findIn K (.ref xBadCount) "__setattr__" = some (some (.builtin "object.__setattr__")))
    (o4BadCount : PySem.W.typeIn K (.ref xBadCount) = some (.type "type"))
    (o5BadCount : PySem.W.keepIn K (.ref xBadCount) = true)
    (o6BadCount : PySem.W.findIn K (.ref xBadCount) "__init__" = some (some (.ref fIBadCount)))
    (o7BadCount : PySem.W.typeIn K (.ref fIBadCount) = some (.type "function"))
    (o8BadCount : K.lookup fIBadCount = some ⟨ocBadCount, odBadCount, .func (PySem.W.fnOf "__init__" "BadCount.__init__" (defArgs i_BadCount) (defBody i_BadCount) (defScope i_BadCount) .none kVBadCount dcBadCount pmBadCount anBadCount cdBadCount ctBadCount), slBadCount⟩)
    (o9BadCount : PySem.W.codeIn K cdBadCount "BadCount.__init__" = true)
    (p1BadCount : PySem.W.keepIn K (.ref fIBadCount) = true)
    (p2BadCount : PySem.W.findIn K (.ref xBadCount) "word" = some none)
    (z_enumerate : PySem.W.nsIn K mainGlobals "enumerate" = some none)
    (z_len : PySem.W.nsIn K mainGlobals "len" = some none)
    (z_list : PySem.W.nsIn K mainGlobals "list" = some none)
    (z_all : PySem.W.nsIn K mainGlobals "all" = some none)
    (z_bool : PySem.W.nsIn K mainGlobals "bool" = some none)
    (z_int : PySem.W.nsIn K mainGlobals "int" = some none)
    (z_isinstance : PySem.W.nsIn K mainGlobals "isinstance" = some none)
    (z_range : PySem.W.nsIn K mainGlobals "range" = some none)
    (z_str : PySem.W.nsIn K mainGlobals "str" = some none)
    (z_tuple : PySem.W.nsIn K mainGlobals "tuple" = some none)
    (z_dict : PySem.W.nsIn K mainGlobals "dict" = some none)
    (q_GREATEST_BYTE : PySem.W.nsIn K mainGlobals "GREATEST_BYTE" = some (some (.int 255 t_GREATEST_BYTE)))
    (q_PAUSE : PySem.W.nsIn K mainGlobals "PAUSE" = some (some (.int 3 t_PAUSE)))
    (q_MARK_KEY : PySem.W.nsIn K mainGlobals "MARK_KEY" = some (some (.int 43 t_MARK_KEY)))
    (q_SIGN_MARKS : PySem.W.nsIn K mainGlobals "SIGN_MARKS" = some (some (.int 3 t_SIGN_MARKS)))
    (q_LONGEST_PAUSE : PySem.W.nsIn K mainGlobals "LONGEST_PAUSE" = some (some (.int 20 t_LONGEST_PAUSE))) :
    LamX.LawAtS l w K CX0 8 63 "_law_script" mg fa h := by
  have e := hfa.symm.trans (PySem.W.mg_of X G a16)
  cases e
  have F0 := fun_mk (st := s_check_bytes) l0 c0 k0
  have b0 := F0.binds (ps := ["row"]) fun _ _ _ _ _ _ us hl => match us, hl with | [_], _ => rfl
  have F1 := funD_one (x := "__init__") (qual := "Guard.__init__") (params := defArgs m_Guard___init__) (body := defBody m_Guard___init__) (scope := defScope m_Guard___init__) (y := "pause") (v := .int 3) l1 c1 k1 v1 ⟨_, rfl⟩
  have F2 := fun_mk (st := m_Guard_beat_of_silence) l2 c2 k2
  have b2 := F2.binds (ps := ["self"]) fun _ _ _ _ _ _ us hl => match us, hl with | [_], _ => rfl
  have F3 := fun_mk (st := m_Guard_beat) l3 c3 k3
  have b3 := F3.binds (ps := ["self", "row"]) fun _ _ _ _ _ _ us hl => match us, hl with | [_, _], _ => rfl
  have F4 := fun_mk (st := m_Guard_held) l4 c4 k4
  have b4 := F4.binds (ps := ["self"]) fun _ _ _ _ _ _ us hl => match us, hl with | [_], _ => rfl
  have F5 := fun_mk (st := m_Guard_twin) l5 c5 k5
  have b5 := F5.binds (ps := ["self"]) fun _ _ _ _ _ _ us hl => match us, hl with | [_], _ => rfl
  have F6 := fun_mk (st := s__law_bag) l6 c6 k6
  have b6 := F6.binds (ps := ["_law_script"]) fun _ _ _ _ _ _ us hl => match us, hl with | [_], _ => rfl
  have F7 := fun_mk (st := s__law_pick) l7 c7 k7
  have b7 := F7.binds (ps := ["_law_bag_here", "_law_top"]) fun _ _ _ _ _ _ us hl => match us, hl with | [_, _], _ => rfl
  have F8 := fun_mk (st := s__law_of) l8 c8 k8
  have b8 := F8.binds (ps := ["_law_bag_here", "_law_some"]) fun _ _ _ _ _ _ us hl => match us, hl with | [_, _], _ => rfl
  have F9 := fun_mk (st := s__law_same) l9 c9 k9
  have b9 := F9.binds (ps := ["_law_found", "_law_due"]) fun _ _ _ _ _ _ us hl => match us, hl with | [_, _], _ => rfl
  have F10 := fun_mk (st := s__law_row) l10 c10 k10
  have b10 := F10.binds (ps := ["_law_bag_here", "_law_most"]) fun _ _ _ _ _ _ us hl => match us, hl with | [_, _], _ => rfl
  have F11 := fun_mk (st := s__law_keys) l11 c11 k11
  have b11 := F11.binds (ps := ["_law_bag_here"]) fun _ _ _ _ _ _ us hl => match us, hl with | [_], _ => rfl
  have F12 := fun_mk (st := s__law_tried) l12 c12 k12
  have b12 := F12.binds (ps := ["_law_act"]) fun _ _ _ _ _ _ us hl => match us, hl with | [_], _ => rfl
  have F13 := fun_mk (st := s__law_at) l13 c13 k13
  have b13 := F13.binds (ps := ["_law_act"]) fun _ _ _ _ _ _ us hl => match us, hl with | [_], _ => rfl
  have F14 := fun_mk (st := s__law_guard_new) l14 c14 k14
  have b14 := F14.binds (ps := ["_law_rest"]) fun _ _ _ _ _ _ us hl => match us, hl with | [_], _ => rfl
  have F15 := fun_mk (st := s__law_guard_beat) l15 c15 k15
  have b15 := F15.binds (ps := ["_law_state", "_law_row_here"]) fun _ _ _ _ _ _ us hl => match us, hl with | [_, _], _ => rfl
  have F16 := fun_mk (st := s_law) l16 c16 k16
  have b16 := F16.binds (ps := ["_law_script"]) fun _ _ _ _ _ _ us hl => match us, hl with | [_], _ => rfl
  have clsGuard : Cls K cGuard := ⟨r2Guard, r3Guard, r4Guard, r5Guard⟩
  have R_Guard : GdC K cGuard := ⟨clsGuard, r_Guard_pause, r_Guard_silent, r_Guard_marks⟩
  have FD : FunD K "__init__" "LineError.__init__" (defArgs i_LineError) (defBody i_LineError) (defScope i_LineError) [.str "LineError", .str "refused"] [] fLE (PySem.W.fnOf "__init__" "LineError.__init__" (defArgs i_LineError) (defBody i_LineError) (defScope i_LineError) (.ref dLE) kVLE dcLE pmLE anLE cdLE ctLE) := ⟨⟨_, _, _, _, _, _, _, _, _, _, rfl, e7, e8, .inr ⟨by simp, dLE, _, _, _, rfl, e9, rfl, .cons ⟨_, rfl⟩ (.cons ⟨_, rfl⟩ .nil)⟩, .inl rfl⟩, e6⟩
  have bLE : Binds K (PySem.W.fnOf "__init__" "LineError.__init__" (defArgs i_LineError) (defBody i_LineError) (defScope i_LineError) (.ref dLE) kVLE dcLE pmLE anLE cdLE ctLE) ["self", "word", "text"] [] := by
    obtain ⟨ds, r, hb⟩ := FD.binds1 (ps := ["self", "word", "text"]) 3 2 (by simp) rfl (fun T kV doc pm an cdv ct us its hu hi => match us, its, hu, hi with | [_, _, _], [_, _], _, _ => ⟨_, rfl, rfl⟩)
    cases r
    exact hb
  have TL : ClsFn K mg "LineError" "__init__" cLE fLE := ⟨PySem.W.mg_of X G e1, e2, e3, e4, e5, rfl, e6⟩
  have ABadBit : AtC K mg "BadBit" xBadBit := ⟨PySem.W.mg_of X G gBadBit, ⟨gaBadBit, ggBadBit, exBadBit, hdBadBit⟩, noBadBit⟩
  have ABadByte : AtC K mg "BadByte" xBadByte := ⟨PySem.W.mg_of X G gBadByte, ⟨gaBadByte, ggBadByte, exBadByte, hdBadByte⟩, noBadByte⟩
  have ABadFrame : AtC K mg "BadFrame" xBadFrame := ⟨PySem.W.mg_of X G gBadFrame, ⟨gaBadFrame, ggBadFrame, exBadFrame, hdBadFrame⟩, noBadFrame⟩
  have ABadCode : AtC K mg "BadCode" xBadCode := ⟨PySem.W.mg_of X G gBadCode, ⟨gaBadCode, ggBadCode, exBadCode, hdBadCode⟩, noBadCode⟩
  have OBadByte : OexC K xBadByte := ⟨⟨_, _, _, _, _, _, _, _, _, _, _, _, _, _, _, o1BadByte, o2BadByte⟩, o3BadByte, exBadByte, o4BadByte, o5BadByte⟩
  have FIBadByte := fun_mk (st := i_BadByte) o8BadByte o9BadByte p1BadByte
  have bIBadByte := FIBadByte.binds (ps := ["self", "at"]) fun _ _ _ _ _ _ us hl => match us, hl with | [_, _], _ => rfl
  have OBadCount : OexC K xBadCount := ⟨⟨_, _, _, _, _, _, _, _, _, _, _, _, _, _, _, o1BadCount, o2BadCount⟩, o3BadCount, exBadCount, o4BadCount, o5BadCount⟩
  have FIBadCount := fun_mk (st := i_BadCount) o8BadCount o9BadCount p1BadCount
  have bIBadCount := FIBadCount.binds (ps := ["self"]) fun _ _ _ _ _ _ us hl => match us, hl with | [_], _ => rfl
  refine ⟨PySem.W.fnOf "law" "law" (defArgs s_law) (defBody s_law) (defScope s_law) .none kV16 dc16 pm16 an16 (.ref cL_) ct16, [(cL_, tP)], spLaw K tP, ?_, ?_, ?_, fun s v => .of_eq rfl, ?_, fun base _ _ hTB => ?_⟩
  · intro p hp
    rw [List.mem_singleton.mp hp]
    exact own cL_ tP _ _ _ _ _ _ l16 rfl rfl t1 t2
  · intro p hp
    rw [List.mem_singleton.mp hp]
    exact t4
  · intro p hp
    rw [List.mem_singleton.mp hp]
    exact PySem.W.codeHd_of_K X t3
  · intro H a ns _ _ hH hS
    exact ⟨a, ns, rfl, hS, hH _ (List.mem_singleton.mpr rfl), fun _ => rfl⟩
  have OKL := ok_i_LineError (P := l.prog) (w := w) (base := base) (mg := mg) (k := 0) FD (PySem.W.mg_none_of X G z_ValueError) e10
  have X_BadByte : XcOk l.prog w K mg base 2 "BadByte" xBadByte (spIni K xBadByte "BadByte" "at") := ⟨fIBadByte, _, _, OBadByte, o6BadByte, o7BadByte, ok_i_BadByte FIBadByte TL OKL bLE OBadByte p2BadByte noBadByte, bIBadByte, PySem.W.mg_of X G gBadByte⟩
  have X_BadCount : XcOk l.prog w K mg base 2 "BadCount" xBadCount (spIni0 K xBadCount "BadCount") := ⟨fIBadCount, _, _, OBadCount, o6BadCount, o7BadCount, ok_i_BadCount FIBadCount TL OKL bLE OBadCount p2BadCount, bIBadCount, PySem.W.mg_of X G gBadCount⟩
  have TB := hTB _ (List.mem_singleton.mpr rfl)
  have C_check_bytes : CalX l.prog w K mg base 4 "check_bytes" ["row"] (spCheckY K xBadByte) := ⟨f0, _, ok_check_bytes F0 (PySem.W.mg_none_of X G z_enumerate) (PySem.W.mg_of X G q_GREATEST_BYTE) (X_BadByte.mono (by decide)), PySem.W.mg_of X G a0, k0, b0⟩
  have O_1 : FnOk l.prog w K mg base (L2.CX l.prog w) 4 f1 _ ["self", "pause"] (spGi cGuard xBadCount) := ok_Guard___init__ F1 R_Guard (PySem.W.mg_of X G q_LONGEST_PAUSE) (X_BadCount.mono (by decide))
  have C_nw_Guard : CalNW l.prog w K mg base 4 "Guard" cGuard ["self", "pause"] ["pause"] (fun vs zs => vs ++ zs) (spGi cGuard xBadCount) := by
    obtain ⟨g, hg⟩ := kbn_app (ps := ["self", "pause"]) F1 1 ["pause"] (by intro z; cases z) fun _ _ _ _ _ _ us ws h1 h2 => match us, ws, h1, h2 with | [_], [_], _, _ => rfl
    exact ⟨f1, _, g, ⟨r6Guard, a1, i1, r7Guard⟩, O_1, PySem.W.mg_of X G r1Guard, hg⟩
  have C_nd_Guard : CalND l.prog w K mg base 4 "Guard" cGuard ["self", "pause"] [.int 3] (spGi cGuard xBadCount) := by
    obtain ⟨ds, hv, hb⟩ := dfl_one (ps := ["self", "pause"]) F1 1 rfl fun _ _ _ _ _ _ us u h1 => match us, h1 with | [_], _ => ⟨_, _, _, _, _, _, rfl, rfl, rfl⟩
    exact ⟨f1, _, ds, ⟨r6Guard, a1, i1, r7Guard⟩, O_1, PySem.W.mg_of X G r1Guard, hb, hv⟩
  have C_Guard_beat_of_silence : CalM CX0 l.prog w K mg base 1 cGuard "beat_of_silence" ["self"] (spGs cGuard) := ⟨f2, _, clsGuard, ⟨a2, i2, k2⟩, ok_Guard_beat_of_silence F2 R_Guard (PySem.W.mg_of X G q_MARK_KEY) (PySem.W.mg_of X G q_SIGN_MARKS), b2⟩
  have C_Guard_beat : CalM (L2.CX l.prog w) l.prog w K mg base 5 cGuard "beat" ["self", "row"] (spGb K cGuard xBadByte) := ⟨f3, _, clsGuard, ⟨a3, i3, k3⟩, ok_Guard_beat F3 R_Guard (PySem.W.mg_none_of X G z_len) (PySem.W.mg_none_of X G z_list) (PySem.W.mg_of X G q_MARK_KEY) (PySem.W.mg_of X G q_SIGN_MARKS) (C_check_bytes.mono (by decide)) (C_Guard_beat_of_silence.mono (by decide)), b3⟩
  have C_Guard_held : CalM CX0 l.prog w K mg base 1 cGuard "held" ["self"] (spGh cGuard) := ⟨f4, _, clsGuard, ⟨a4, i4, k4⟩, ok_Guard_held F4 R_Guard, b4⟩
  have C_Guard_twin : CalM CX0 l.prog w K mg base 6 cGuard "twin" ["self"] (spGt cGuard) := ⟨f5, _, clsGuard, ⟨a5, i5, k5⟩, ok_Guard_twin F5 R_Guard (C_nw_Guard.mono (by decide)), b5⟩
  have C__law_bag : Cal l.prog w K mg base 1 "_law_bag" ["_law_script"] (spBag K) := ⟨f6, _, ok__law_bag F6 (PySem.W.mg_none_of X G z_len) (PySem.W.mg_none_of X G z_list), PySem.W.mg_of X G a6, k6, b6⟩
  have C__law_pick : Cal l.prog w K mg base 1 "_law_pick" ["_law_bag_here", "_law_top"] (spPick) := ⟨f7, _, ok__law_pick F7 (PySem.W.mg_none_of X G z_len), PySem.W.mg_of X G a7, k7, b7⟩
  have C__law_of : Cal l.prog w K mg base 2 "_law_of" ["_law_bag_here", "_law_some"] (spOf K) := ⟨f8, _, ok__law_of F8 (PySem.W.mg_none_of X G z_len) (C__law_pick.mono (by decide)), PySem.W.mg_of X G a8, k8, b8⟩
  have C__law_same : Cal l.prog w K mg base 3 "_law_same" ["_law_found", "_law_due"] (spSame K 3) := ⟨f9, _, ok__law_same F9 (PySem.W.mg_of X G a9) b9 (PySem.W.mg_none_of X G z_len) (PySem.W.mg_none_of X G z_all) (PySem.W.mg_none_of X G z_bool) (PySem.W.mg_none_of X G z_int) (PySem.W.mg_none_of X G z_isinstance) (PySem.W.mg_none_of X G z_list) (PySem.W.mg_none_of X G z_range) (PySem.W.mg_none_of X G z_str) (PySem.W.mg_none_of X G z_tuple) 3, PySem.W.mg_of X G a9, k9, b9⟩
  have C__law_row : Cal l.prog w K mg base 2 "_law_row" ["_law_bag_here", "_law_most"] (spRow) := ⟨f10, _, ok__law_row F10 (PySem.W.mg_none_of X G z_range) (C__law_pick.mono (by decide)), PySem.W.mg_of X G a10, k10, b10⟩
  have C__law_keys : Cal l.prog w K mg base 3 "_law_keys" ["_law_bag_here"] (spKeys) := ⟨f11, _, ok__law_keys F11 (C__law_pick.mono (by decide)) (C__law_of.mono (by decide)) (C__law_row.mono (by decide)), PySem.W.mg_of X G a11, k11, b11⟩
  have C__law_guard_new : Cal l.prog w K mg base 1 "_law_guard_new" ["_law_rest"] (spGn) := ⟨f14, _, ok__law_guard_new F14 , PySem.W.mg_of X G a14, k14, b14⟩
  have C__law_guard_beat : Cal l.prog w K mg base 1 "_law_guard_beat" ["_law_state", "_law_row_here"] (spLgb) := ⟨f15, _, ok__law_guard_beat F15 (PySem.W.mg_none_of X G z_all) (PySem.W.mg_none_of X G z_len), PySem.W.mg_of X G a15, k15, b15⟩
  exact ok_law l16 c16 l13 c13 k13 (PySem.W.mg_of X G a13) b13 ABadBit ABadByte ABadFrame ABadCode (PySem.W.mg_of X G e1) mBadBitBadBit mBadByteBadBit mBadByteBadByte mBadFrameBadBit mBadFrameBadByte mBadFrameBadFrame mBadCodeBadBit mBadCodeBadByte mBadCodeBadFrame mBadCodeBadCode TB l12 c12 k12 (PySem.W.mg_of X G a12) b12 ⟨gaBadCount, ggBadCount, exBadCount, hdBadCount⟩ p2BadCount (PySem.W.mg_of X G gMissing) mBLine (PySem.W.mg_none_of X G z_dict) (PySem.W.mg_none_of X G z_len) (PySem.W.mg_none_of X G z_list) (PySem.W.mg_none_of X G z_range) (PySem.W.mg_of X G q_PAUSE) (PySem.W.mg_of X G q_MARK_KEY) (C_nd_Guard.mono (by decide)) (C_nw_Guard.mono (by decide)) (C_nw_Guard.mono (by decide)) (C_Guard_twin.mono (by decide)) (C_Guard_held.mono (by decide)) (C_Guard_beat.mono (by decide)) (C_Guard_beat.mono (by decide)) (C__law_bag.mono (by decide)) (C__law_pick.mono (by decide)) (C__law_of.mono (by decide)) (C__law_same.mono (by decide)) (C__law_keys.mono (by decide)) (C__law_guard_new.mono (by decide)) (C__law_guard_beat.mono (by decide))
end WB
open PySem PySem.W PyProof.Rows
set_option maxRecDepth 100000 in
set_option maxHeartbeats 0 in
theorem PySem.Challenge.cw_warbleline_k48_keys_guarded_holds : PySem.Challenge.rw_warbleline_k48_keys_guarded.Holds := by
  w_on; o_law; k_head; (case hw => w_witness2)
  k_fill
  refine LamX.walk_ofOwn (l := PySem.Challenge.rw_warbleline_k48_keys_guarded) (n := 63) (k := 8) (x := "_law_script") (CX := fun _ => L2.CX0) rfl (by decide) rfl ⟨rfl, by decide, by decide⟩ (by decide +kernel) (fun w h Y => PySem.W.km_in_of Y) ?F (fun _ _ _ _ _ h => h)
  case F =>
    intro w mg fa h Y KX G hmg own
    refine' WB.all_mk KX G hmg own ?r1Guard ?r2Guard ?r3Guard ?r4Guard ?r5Guard ?r6Guard ?r7Guard ?r_Guard_pause ?r_Guard_silent ?r_Guard_marks ?a0 ?l0 ?c0 ?k0 ?a1 ?i1 ?l1 ?v1 ?c1 ?k1 ?a2 ?i2 ?l2 ?c2 ?k2 ?a3 ?i3 ?l3 ?c3 ?k3 ?a4 ?i4 ?l4 ?c4 ?k4 ?a5 ?i5 ?l5 ?c5 ?k5 ?a6 ?l6 ?c6 ?k6 ?a7 ?l7 ?c7 ?k7 ?a8 ?l8 ?c8 ?k8 ?a9 ?l9 ?c9 ?k9 ?a10 ?l10 ?c10 ?k10 ?a11 ?l11 ?c11 ?k11 ?a12 ?l12 ?c12 ?k12 ?a13 ?l13 ?c13 ?k13 ?a14 ?l14 ?c14 ?k14 ?a15 ?l15 ?c15 ?k15 ?a16 ?l16 ?c16 ?k16 ?t1 ?t2 ?t3 ?t4 ?e1 ?e2 ?e3 ?e4 ?e5 ?e6 ?e7 ?e8 ?e9 ?e10 ?z_ValueError ?gBadBit ?gaBadBit ?ggBadBit ?exBadBit ?hdBadBit ?noBadBit ?gBadByte ?gaBadByte ?ggBadByte ?exBadByte ?hdBadByte ?noBadByte ?gBadFrame ?gaBadFrame ?ggBadFrame ?exBadFrame ?hdBadFrame ?noBadFrame ?gBadCode ?gaBadCode ?ggBadCode ?exBadCode ?hdBadCode ?noBadCode ?mBadBitBadBit ?mBadByteBadBit ?mBadByteBadByte ?mBadFrameBadBit ?mBadFrameBadByte ?mBadFrameBadFrame ?mBadCodeBadBit ?mBadCodeBadByte ?mBadCodeBadFrame ?mBadCodeBadCode ?gBadCount ?gaBadCount ?ggBadCount ?exBadCount ?hdBadCount ?gMissing ?mBLine ?o1BadByte ?o2BadByte ?o3BadByte ?o4BadByte ?o5BadByte ?o6BadByte ?o7BadByte ?o8BadByte ?o9BadByte ?p1BadByte ?p2BadByte ?o1BadCount ?o2BadCount ?o3BadCount ?o4BadCount ?o5BadCount ?o6BadCount ?o7BadCount ?o8BadCount ?o9BadCount ?p1BadCount ?p2BadCount ?z_enumerate ?z_len ?z_list ?z_all ?z_bool ?z_int ?z_isinstance ?z_range ?z_str ?z_tuple ?z_dict ?q_GREATEST_BYTE ?q_PAUSE ?q_MARK_KEY ?q_SIGN_MARKS ?q_LONGEST_PAUSE
    (case r1Guard => k_is)
    (case r2Guard => k_is)
    (case r3Guard => k_is)
    (case r4Guard => k_is)
    (case r5Guard => k_is)
    (case r6Guard => k_is)
    (case r7Guard => k_is)
    (case r_Guard_pause => k_is)
    (case r_Guard_silent => k_is)
    (case r_Guard_marks => k_is)
    (case a0 => k_is)
    (case l0 => k_is)
    (case c0 => k_is)
    (case k0 => k_is)
    (case a1 => k_is)
    (case i1 => k_is)
    (case l1 => k_is)
    (case v1 => k_is)
    (case c1 => k_is)
    (case k1 => k_is)
    (case a2 => k_is)
    (case i2 => k_is)
    (case l2 => k_is)
    (case c2 => k_is)
    (case k2 => k_is)
    (case a3 => k_is)
    (case i3 => k_is)
    (case l3 => k_is)
    (case c3 => k_is)
    (case k3 => k_is)
    (case a4 => k_is)
    (case i4 => k_is)
    (case l4 => k_is)
    (case c4 => k_is)
    (case k4 => k_is)
    (case a5 => k_is)
    (case i5 => k_is)
    (case l5 => k_is)
    (case c5 => k_is)
    (case k5 => k_is)
    (case a6 => k_is)
    (case l6 => k_is)
    (case c6 => k_is)
    (case k6 => k_is)
    (case a7 => k_is)
    (case l7 => k_is)
    (case c7 => k_is)
    (case k7 => k_is)
    (case a8 => k_is)
    (case l8 => k_is)
    (case c8 => k_is)
    (case k8 => k_is)
    (case a9 => k_is)
    (case l9 => k_is)
    (case c9 => k_is)
    (case k9 => k_is)
    (case a10 => k_is)
    (case l10 => k_is)
    (case c10 => k_is)
    (case k10 => k_is)
    (case a11 => k_is)
    (case l11 => k_is)
    (case c11 => k_is)
    (case k11 => k_is)
    (case a12 => k_is)
    (case l12 => k_is)
    (case c12 => k_is)
    (case k12 => k_is)
    (case a13 => k_is)
    (case l13 => k_is)
    (case c13 => k_is)
    (case k13 => k_is)
    (case a14 => k_is)
    (case l14 => k_is)
    (case c14 => k_is)
    (case k14 => k_is)
    (case a15 => k_is)
    (case l15 => k_is)
    (case c15 => k_is)
    (case k15 => k_is)
    (case a16 => k_is)
    (case l16 => k_is)
    (case c16 => k_is)
    (case k16 => k_is)
    (case t1 => k_is)
    (case t2 => first | rfl | k_is)
    (case t3 => kernel_rfl)
    (case t4 => kernel_rfl)
    (case e1 => k_is)
    (case e2 => k_is)
    (case e3 => k_is)
    (case e4 => k_is)
    (case e5 => k_is)
    (case e6 => k_is)
    (case e7 => k_is)
    (case e8 => k_is)
    (case e9 => k_is)
    (case e10 => k_is)
    (case z_ValueError => k_is)
    (case gBadBit => k_is)
    (case gaBadBit => k_is)
    (case ggBadBit => k_is)
    (case exBadBit => k_is)
    (case hdBadBit => k_is)
    (case noBadBit => k_is)
    (case gBadByte => k_is)
    (case gaBadByte => k_is)
    (case ggBadByte => k_is)
    (case exBadByte => k_is)
    (case hdBadByte => k_is)
    (case noBadByte => k_is)
    (case gBadFrame => k_is)
    (case gaBadFrame => k_is)
    (case ggBadFrame => k_is)
    (case exBadFrame => k_is)
    (case hdBadFrame => k_is)
    (case noBadFrame => k_is)
    (case gBadCode => k_is)
    (case gaBadCode => k_is)
    (case ggBadCode => k_is)
    (case exBadCode => k_is)
    (case hdBadCode => k_is)
    (case noBadCode => k_is)
    (case mBadBitBadBit => kernel_rfl)
    (case mBadByteBadBit => kernel_rfl)
    (case mBadByteBadByte => kernel_rfl)
    (case mBadFrameBadBit => kernel_rfl)
    (case mBadFrameBadByte => kernel_rfl)
    (case mBadFrameBadFrame => kernel_rfl)
    (case mBadCodeBadBit => kernel_rfl)
    (case mBadCodeBadByte => kernel_rfl)
    (case mBadCodeBadFrame => kernel_rfl)
    (case mBadCodeBadCode => kernel_rfl)
    (case gBadCount => k_is)
    (case gaBadCount => k_is)
    (case ggBadCount => k_is)
    (case exBadCount => k_is)
    (case hdBadCount => k_is)
    (case gMissing => k_is)
    (case mBLine => kernel_rfl)
    (case o1BadByte => k_is)
    (case o2BadByte => decide +kernel)
    (case o3BadByte => k_is)
    (case o4BadByte => k_is)
    (case o5BadByte => k_is)
    (case o6BadByte => k_is)
    (case o7BadByte => k_is)
    (case o8BadByte => k_is)
    (case o9BadByte => k_is)
    (case p1BadByte => k_is)
    (case p2BadByte => k_is)
    (case o1BadCount => k_is)
    (case o2BadCount => decide +kernel)
    (case o3BadCount => k_is)
    (case o4BadCount => k_is)
    (case o5BadCount => k_is)
    (case o6BadCount => k_is)
    (case o7BadCount => k_is)
    (case o8BadCount => k_is)
    (case o9BadCount => k_is)
    (case p1BadCount => k_is)
    (case p2BadCount => k_is)
    (case z_enumerate => k_is)
    (case z_len => k_is)
    (case z_list => k_is)
    (case z_all => k_is)
    (case z_bool => k_is)
    (case z_int => k_is)
    (case z_isinstance => k_is)
    (case z_range => k_is)
    (case z_str => k_is)
    (case z_tuple => k_is)
    (case z_dict => k_is)
    (case q_GREATEST_BYTE => k_is)
    (case q_PAUSE => k_is)
    (case q_MARK_KEY => k_is)
    (case q_SIGN_MARKS => k_is)
    (case q_LONGEST_PAUSE => k_is)
